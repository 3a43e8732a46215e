import PyProof.Rows.All
import Wide.All
import OpenK.AllK
import Wide.FinOn
import Lean
import PyProof.EqAt
import PyProof.EqKinds
import PyProof.TupleCall
import PySem.Challenge.RW_shapethin_k46_holes_walked
set_option genSizeOf false
set_option bootstrap.genMatcherCode false
set_option compiler.extract_closed false
set_option Elab.async false
set_option linter.all false
set_option maxRecDepth 100000
def LO := @if_pos
def LP := @if_neg
def LQ := @PySem.wpAny_bind
def LR := @List.length_map
def LS := @PySem.wpAny_pure
def LU := @Nat.le_refl
def LV := @List.mem_cons_self
def LW := @List.getElem?_eq_some_iff
def LX := @decide_eq_false
def LY := @List.mem_cons_of_mem
def LZ := @List.length_append
def L0 := @List.mem_append_right
def L1 := @List.map_cons
def L3 := @List.getElem?_map
def L4 := @List.mem_singleton
def L5 := @PySem.Heap.lt_size
def L6 := @decide_eq_true
def L7 := @List.mem_map
def L8 := @List.size_toArray
def L9 := @List.mem_cons
def Ma := @Ne.symm
def Mb := @List.mem_append
def Mc := @Array.map_reverse
def Md := @List.mem_filter
def Me := @List.mem_append_left
def Mf := @List.getElem?_eq_getElem
def Mg := @PySem.Heap.get?_push_of_some
def Mh := @List.length_cons
def Mi := @Nat.ne_of_lt
def Mj := @List.append_assoc
def Ml := @Option.some.inj
def Mm := @Nat.le_trans
def Mn := @List.getElem?_append_left
def Mp := @Nat.lt_of_lt_of_le
def Mq := @List.nodup_cons
def Mr := @Nat.zero_le
def Ms := @List.getElem?_set_ne
def Mt := @List.length_singleton
def Mu := @PySem.Heap.get?_push_size
def Mv := @List.append_nil
def Mw := @Bool.and_eq_true
def Mx := @List.filter_cons
def My := @PySem.wpAny_holding
def Mz := @List.pairwise_append
def MA := @List.mem_range
def MB := @Nat.le_of_lt
def MC := @List.length_set
def MD := @List.lookup_cons
def ME := @List.getElem?_of_mem
def MF := @List.map_map
def MG := @List.map_append
def MH := @Bool.false_ne_true
def MI := @of_decide_eq_true
def MJ := @Nat.lt_of_le_of_lt
def MK := @List.getElem?_set_self
def ML := @List.mem_of_getElem?
def MM := @of_decide_eq_false
def MN := @List.nodup_append
def MO := @List.length_range
def MP := @List.pairwise_iff_getElem
def MQ := @Array.length_toList
def MR := @List.zip_cons_cons
def MS := @PySem.wpAny_newObj_type
def MT := @List.pairwise_map
def MU := @List.drop_of_length_le
def MV := @List.getElem?_eq_none_iff
def MW := @PySem.Heap.get?_update_other
def MX := @Array.getElem?_toList
def MY := @List.getElem?_append_right
def MZ := @List.getD_eq_getElem?_getD
def M0 := @List.getElem?_cons_succ
def M3 := @List.Pairwise.imp_of_mem
namespace L2
open PySem PySem.Spec PyProof.Rows
noncomputable abbrev Key := Sum Int Str
noncomputable def vE : Key -> Value -> Bool
 | .inl k, v => Value.isInt k v
 | .inr x, v => Value.isStrOf x v
noncomputable def JU (w : World) : Key -> Int
 | .inl k => hashInt k
 | .inr x => hashStr w x
theorem cG : ∀ {k : Key} {v : Value}, vE k v = true -> (∃ i t, k = Sum.inl i /\ v = Value.int i t) \/ (∃ x t, k = Sum.inr x /\ v = Value.str x t)
 | .inl i, v, h => by
  obtain ⟨t, e⟩ := Value.isInt_shape (k := i) (v := v) h
  exact .inl ⟨i, t, rfl, e⟩
 | .inr x, v, h => by
  obtain ⟨t, e⟩ := Value.isStrOf_shape (x := x) (v := v) h
  exact .inr ⟨x, t, rfl, e⟩
theorem Cb (i : Int) (t : Tok) : vE (.inl i) (.int i t) = true := by simp [vE, Value.isInt]
theorem BJ (x : Str) (t : Tok) : vE (.inr x) (.str x t) = true := by simp [vE, Value.isStrOf]
theorem GG (a b : Int) : decide ((Sum.inl a : Key) = Sum.inl b) = (a == b) := by
 by_cases e : a = b
 ·subst e; simp
 ·have h : ¬ (Sum.inl a : Key) = Sum.inl b := fun q => e (Sum.inl.inj q)
  rw [LX h]
  exact (beq_eq_false_iff_ne.mpr e).symm
theorem G5 (a b : Str) : decide ((Sum.inr a : Key) = Sum.inr b) = decide (a = b) := by
 by_cases e : a = b
 ·subst e; simp
 ·have h : ¬ (Sum.inr a : Key) = Sum.inr b := fun q => e (Sum.inr.inj q)
  rw [LX h, LX e]
theorem GJ (a : Int) (b : Str) : decide ((Sum.inl a : Key) = Sum.inr b) = false := LX (fun q => nomatch q)
theorem HK (a : Str) (b : Int) : decide ((Sum.inr a : Key) = Sum.inl b) = false := LX (fun q => nomatch q)
noncomputable def bU (prog : Program) (w : World) : PySem.KeyKind prog w Key where
 is := vE
 hash := JU w
 inj := fun v a b ha hb => by
  rcases cG ha with ⟨i, t, rfl, rfl⟩ | ⟨x, t, rfl, rfl⟩
  ·rcases cG hb with ⟨j, u, rfl, e⟩ | ⟨y, u, rfl, e⟩
   ·injection e with e1 _; rw [e1]
   ·exact nomatch e
  ·rcases cG hb with ⟨j, u, rfl, e⟩ | ⟨y, u, rfl, e⟩
   ·exact nomatch e
   ·injection e with e1 _; rw [e1]
 byValue := fun k v h => by
  rcases cG h with ⟨i, t, rfl, rfl⟩ | ⟨x, t, rfl, rfl⟩ <;> rfl
 pyHash := fun hv h => by
  rcases cG hv with ⟨i, t, rfl, rfl⟩ | ⟨x, t, rfl, rfl⟩
  ·exact wpAny_pyHash_int h
  ·exact wpAny_pyHash_str h
 eqBool := fun hu hv h => by
  rcases cG hu with ⟨i, t, rfl, rfl⟩ | ⟨x, t, rfl, rfl⟩
  ·rcases cG hv with ⟨j, u, rfl, rfl⟩ | ⟨y, u, rfl, rfl⟩
   ·rw [GG] at h; exact wpAny_eqBool_int h
   ·rw [GJ] at h; exact SeqAt.EqAt.int_str i t y u _ _ _ _ h
  ·rcases cG hv with ⟨j, u, rfl, rfl⟩ | ⟨y, u, rfl, rfl⟩
   ·rw [HK] at h; exact SeqAt.EqAt.str_int x t j u _ _ _ _ h
   ·rw [G5] at h; exact wpAny_eqBool_str h
 «strs» := fun k x t v h => by
  rcases cG h with ⟨i, u, rfl, e⟩ | ⟨y, u, rfl, e⟩
  ·exact nomatch e
  ·injection e with e1 _
   subst e1
   cases v <;> rfl
theorem yG (prog : Program) (w : World) (i : Int) (t : Tok) : (bU prog w).is (.inl i) (.int i t) = true := Cb i t
theorem zb (prog : Program) (w : World) (x : Str) (t : Tok) : (bU prog w).is (.inr x) (.str x t) = true := BJ x t
inductive V where
 | non | bl (b : Bool) | int (i : Int) | str (x : Str) | byt (b : Array UInt8) | flt (b : UInt64) | ref (a : Addr) | ty (n : String)
 deriving DecidableEq
noncomputable def RelV : V -> Value -> Prop
 | .non, u => u = Value.none
 | .bl b, u => u = Value.bool b
 | .int i, u => ∃ t, u = Value.int i t
 | .str x, u => ∃ t, u = Value.str x t
 | .byt b, u => ∃ t, u = Value.bytes b t
 | .flt b, u => ∃ t, u = Value.float b t
 | .ref a, u => u = Value.ref a
 | .ty n, u => u = Value.type n
noncomputable abbrev Vals : List V -> List Value -> Prop := Paired RelV
theorem Vals.length {xs : List V} {us : List Value} (r : Vals xs us) : xs.length = us.length := Paired.length r
theorem Vals.get : ∀ {xs : List V} {us : List Value} {i : Nat} {x : V}, Vals xs us -> xs[i]? = some x -> ∃ u, us[i]? = some u /\ RelV x u
 | _, _, _, _, .nil, e => by simp at e
 | _, _, 0, _, .cons r _, e => by simp at e; subst e; exact ⟨_, rfl, r⟩
 | _, _, i + 1, x, .cons _ t, e => by
  obtain ⟨u, h1, h2⟩ := Vals.get (i := i) (x := x) t (by simpa using e)
  exact ⟨u, by simpa using h1, h2⟩
theorem Vals.set {x : V} {u : Value} (r : RelV x u) : ∀ {xs : List V} {us : List Value} (i : Nat), Vals xs us -> Vals (xs.set i x) (us.set i u)
 | _, _, _, .nil => .nil
 | _, _, 0, .cons _ t => .cons r t
 | _, _, i + 1, .cons q t => .cons q (Vals.set r i t)
theorem Vals.append : ∀ {xs ys : List V} {us ws : List Value}, Vals xs us -> Vals ys ws -> Vals (xs ++ ys) (us ++ ws)
 | _, _, _, _, .nil, s => s
 | _, _, _, _, .cons r t, s => .cons r (Vals.append t s)
theorem Vals.take : ∀ {xs : List V} {us : List Value} (n : Nat), Vals xs us -> Vals (xs.take n) (us.take n)
 | _, _, 0, _ => .nil
 | _, _, _ + 1, .nil => .nil
 | _, _, n + 1, .cons r t => .cons r (Vals.take n t)
theorem Vals.drop : ∀ {xs : List V} {us : List Value} (n : Nat), Vals xs us -> Vals (xs.drop n) (us.drop n)
 | _, _, 0, r => r
 | _, _, _ + 1, .nil => .nil
 | _, _, n + 1, .cons _ t => Vals.drop n t
noncomputable def RelO : Option V -> Option Value -> Prop
 | some v, some u => RelV v u
 | none, none => True
 | _, _ => False
noncomputable def KV {κ : Type} : List (κ × V) -> List (κ × Value) -> Prop := Paired fun (p : κ × V) (q : κ × Value) => p.1 = q.1 /\ RelV p.2 q.2
noncomputable def kV : Key -> V
 | .inl i => .int i
 | .inr x => .str x
inductive HO where
  | lst (xs : List V)
  | tup (xs : List V)
  | dK (kvs : List (Key × V)) | dT (kvs : List (List Key × V))
  | set (S : Int -> Bool) (n : Nat)
  | ins (C dx : Addr) (fs : List (Str × V))
  | own (x : Addr)
  | xd (fs : List (Str × V))
  | met (f x : Addr)
  | rng (lo hi : Int)
  | frz (o : Obj) (u : HO)
  | tbl (ps : Array Value)
  | ext (φ : Heap -> Prop)
noncomputable abbrev Hp := Addr -> Option HO
noncomputable def upd (H : Hp) (a : Addr) (o : HO) : Hp := fun b => if b = a then some o else H b
theorem aO {H : Hp} {a : Addr} {o : HO} : upd H a o a = some o := by unfold upd; rw [LO rfl]
theorem aW {H : Hp} {a b : Addr} {o : HO} (h : b ≠ a) : upd H a o b = H b := by unfold upd; rw [LP h]
theorem Fn {H : Hp} {a : Addr} {o u : HO} : upd (upd H a o) a u = upd H a u := by
 funext b; unfold upd; split <;> rfl
theorem Bq {H : Hp} {a b : Addr} {o u : HO} (h : H a = some o) (h' : H b = some u) (d : o ≠ u) : a ≠ b := by
 intro e; subst e; rw [h] at h'; exact d (Ml h')
theorem cn {H : Hp} {a b : Addr} {o : HO} (h : H a = some o) (h' : H b = none) : a ≠ b := by
 intro e; subst e; rw [h] at h'; cases h'
section
variable (P : Program) (w : World)
noncomputable def ObjOk (H : Hp) (h : Heap) (a : Addr) : HO -> Prop
 | .lst xs => xs.length <= sizeLine /\ ∃ (its : List Value) (n : Nat), Vals xs its /\ h.get? a = some { cls := .type "list", data := .seq its.toArray n }
 | .tup xs => xs.length <= sizeLine /\ ∃ its : List Value, Vals xs its /\ IsTup h a its.toArray
 | .dK kvs => kvs.length <= sizeLine /\ (a == sysModules) = false /\ ∃ vs, KV kvs vs /\ h.DictOf (bU P w) a vs
 | .dT kvs => kvs.length <= sizeLine /\ (a == sysModules) = false /\ ∃ xs : List (List Key × Addr × Value),
   Paired (fun (p : List Key × V) (q : List Key × Addr × Value) => p.1 = q.1 /\ H q.2.1 = some (.tup (p.1.map kV)) /\ RelV p.2 q.2.2) kvs xs /\
   ∃ o es ep, h.get? a = some o /\ o.ExactDict /\ o.data = .dict es ep /\ es.toList = xs.map (entryOfKey (tupleKind (bU P w))) /\ (xs.map (·.1)).Nodup
 | .set S n => h.SetOf (intKind P w) a S n
 | .ins C dx fs => H dx = some (.own a) /\ fs.length <= 1000 /\ dx ≠ a /\ h.get? a = some (W.instObj C dx) /\
   ∃ mA, h.Ns1 dx mA /\ (∀ f, RelO (fs.lookup f) (mA f)) /\ PySem.Within mA (fs.map (·.1))
 | .own _ => ∃ o, h.get? a = some o
 | .xd fs => ∃ mA, h.Ns1 a mA /\ ∀ f, RelO (fs.lookup f) (mA f)
 | .rng lo hi => ∃ t u v, h.get? a = some { cls := .type "range", data := .fields #[.int lo t, .int hi u, .int 1 v] }
 | .frz o u => h.get? a = some o /\ ObjOk H h a u
 | .tbl ps => h.get? a = some { cls := .none, data := .fields ps }
 | .met f x => h.get? a = some (W.methodObj (.ref f) (.ref x))
 | .ext φ => φ h /\ (∃ o, h.get? a = some o) /\ ∀ h1 h2 : Heap, φ h1 -> (∀ o, h1.get? a = some o -> h2.get? a = some o) -> φ h2
def HOk (H : Hp) (h : Heap) : Prop := ∀ a o, H a = some o -> ObjOk P w H h a o
end
section
variable {P : Program} {w : World} {H H' : Hp} {h h' : Heap} {a : Addr} {o : HO}
theorem ObjOk.lt (x : ObjOk P w H h a o) : a < h.objs.size := by
 cases o with
 | lst xs => obtain ⟨_, _, _, _, e⟩ := x; exact L5 e
 | tup xs => obtain ⟨_, _, _, p⟩ := x; exact p.lt
 | dK kvs => obtain ⟨_, _, _, _, o, _, _, e, _⟩ := x; exact L5 e
 | dT kvs => obtain ⟨_, _, _, _, o, _, _, e, _⟩ := x; exact L5 e
 | set S n => obtain ⟨o, _, _, _, e, _⟩ := x; exact L5 e
 | ins C dx fs => obtain ⟨_, _, _, e, _⟩ := x; exact L5 e
 | own y => obtain ⟨_, e⟩ := x; exact L5 e
 | xd fs => obtain ⟨_, ⟨_, _, _, e, _⟩, _⟩ := x; exact L5 e
 | rng lo hi => obtain ⟨_, _, _, e⟩ := x; exact L5 e
 | frz ob u => obtain ⟨e, _⟩ := x; exact L5 e
 | tbl ps => exact L5 (show h.get? a = some _ from x)
 | met f y => exact L5 (show h.get? a = some _ from x)
 | ext φ => obtain ⟨_, ⟨_, e⟩, _⟩ := x; exact L5 e
theorem Paired.mapP {α β : Type} {F G : α -> β -> Prop} : ∀ {l₁ : List α} {l₂ : List β}, Paired F l₁ l₂ -> (∀ a b, F a b -> G a b) -> Paired G l₁ l₂
 | _, _, .nil, _ => .nil
 | _, _, .cons r t, f => .cons (f _ _ r) (Paired.mapP t f)
theorem ObjOk.stay (x : ObjOk P w H h a o) (k : ∀ b u, (b = a \/ H b = some (.own a)) -> h.get? b = some u -> h'.get? b = some u)
  (ho : ∀ b, H b = some (.own a) -> H' b = some (.own a)) (ht : ∀ b xs, H b = some (.tup xs) -> H' b = some (.tup xs)) : ObjOk P w H' h' a o := by
 induction o with
 | lst xs => obtain ⟨z, its, n, r, e⟩ := x; exact ⟨z, its, n, r, k _ _ (.inl rfl) e⟩
 | tup xs => obtain ⟨z, its, r, ob, e, c⟩ := x; exact ⟨z, its, r, ob, k _ _ (.inl rfl) e, c⟩
 | dK kvs => obtain ⟨z, y, vs, r, ob, es, ep, e, c⟩ := x; exact ⟨z, y, vs, r, ob, es, ep, k _ _ (.inl rfl) e, c⟩
 | dT kvs =>
  obtain ⟨z, y, xs, r, ob, es, ep, e, c⟩ := x
  exact ⟨z, y, xs, Paired.mapP r fun p q z => ⟨z.1, ht _ _ z.2.1, z.2.2⟩, ob, es, ep, k _ _ (.inl rfl) e, c⟩
 | set S n => obtain ⟨ob, es, ep, t, e, c⟩ := x; exact ⟨ob, es, ep, t, k _ _ (.inl rfl) e, c⟩
 | ins C dx fs =>
  obtain ⟨d, z, ne, e, mA, ⟨od, es, ep, e2, c⟩, r⟩ := x
  exact ⟨ho _ d, z, ne, k _ _ (.inl rfl) e, mA, ⟨od, es, ep, k _ _ (.inr d) e2, c⟩, r⟩
 | own y => obtain ⟨ob, e⟩ := x; exact ⟨ob, k _ _ (.inl rfl) e⟩
 | xd fs => obtain ⟨mA, ⟨od, es, ep, e, c⟩, r⟩ := x; exact ⟨mA, ⟨od, es, ep, k _ _ (.inl rfl) e, c⟩, r⟩
 | rng lo hi => obtain ⟨t, u, v, e⟩ := x; exact ⟨t, u, v, k _ _ (.inl rfl) e⟩
 | frz ob u ih => obtain ⟨e, q⟩ := x; exact ⟨k _ _ (.inl rfl) e, ih q⟩
 | tbl ps =>
  have e : h.get? a = some { cls := .none, data := .fields ps } := x
  show h'.get? a = some { cls := .none, data := .fields ps }
  exact k a _ (.inl rfl) e
 | met f y =>
  have e : h.get? a = some (W.methodObj (.ref f) (.ref y)) := x
  show h'.get? a = some (W.methodObj (.ref f) (.ref y))
  exact k a _ (.inl rfl) e
 | ext φ => obtain ⟨p, ⟨o, e⟩, st⟩ := x; exact ⟨st _ _ p fun o q => k _ _ (.inl rfl) q, ⟨o, k _ _ (.inl rfl) e⟩, st⟩
theorem HOk.lt (x : HOk P w H h) (e : H a = some o) : a < h.objs.size := (x a o e).lt
theorem HOk.fresh (x : HOk P w H h) (e : h.objs.size <= a) : H a = none := by
 cases q : H a with
 | none => rfl
 | some u => exact absurd (Mp (x.lt q) e) (Nat.lt_irrefl _)
theorem HOk.kept (x : HOk P w H h) (k : ∀ b u, h.get? b = some u -> h'.get? b = some u) : HOk P w H h' := fun a o e =>
 (x a o e).stay (fun b u _ q => k b u q) (fun _ q => q) fun _ _ q => q
theorem HOk.laid (x : HOk P w H h) (k : ∀ b u, h.get? b = some u -> h'.get? b = some u) (hp : h.objs.size <= a) (new : ObjOk P w (upd H a o) h' a o) : HOk P w (upd H a o) h' := fun b u e => by
 have hn := x.fresh hp
 by_cases hb : b = a
 ·subst hb; rw [aO] at e; cases e; exact new
 ·rw [aW hb] at e
  exact (x b u e).stay (fun c v _ q => k c v q) (fun c q => by rw [aW (cn q hn)]; exact q) fun c xs q => by rw [aW (cn q hn)]; exact q
end
def Rd (H : Hp) (a : Addr) (u : HO) : Prop := H a = some u \/ ∃ o, H a = some (.frz o u)
theorem Rd.ok {P : Program} {w : World} {H : Hp} {h : Heap} {a : Addr} {u : HO} (r : Rd H a u) (x : HOk P w H h) : ObjOk P w H h a u := by
 rcases r with r | ⟨o, r⟩
 ·exact x a u r
 ·obtain ⟨_, q⟩ := x a _ r
  exact q
noncomputable def Mut : Option HO -> Prop
 | some (.lst _) => True
 | some (.dK _) => True
 | some (.dT _) => True
 | some (.set _ _) => True
 | some (.ins _ _ _) => True
 | some (.ext _) => True
 | _ => False
section
variable {P : Program} {w : World} {H : Hp} {h h' : Heap} {x e : Addr} {o' : HO}
theorem HOk.write (ok : HOk P w H h) (mu : Mut (H x)) (he : e = x \/ H e = some (.own x)) (k : ∀ b u, b ≠ e -> h.get? b = some u -> h'.get? b = some u) (heo : ∃ u, h'.get? e = some u)
  (new : ObjOk P w (upd H x o') h' x o') : HOk P w (upd H x o') h' := fun b u q => by
 have nown : ∀ c y, H c = some (.own y) -> c ≠ x := fun c y r z => by subst z; rw [r] at mu; exact mu
 have ntup : ∀ c xs, H c = some (.tup xs) -> c ≠ x := fun c xs r z => by subst z; rw [r] at mu; exact mu
 by_cases hb : b = x
 ·subst hb; rw [aO] at q; cases q; exact new
 ·rw [aW hb] at q
  by_cases hbe : b = e
  ·have q' : H b = some (.own x) := by
    rcases he with z | z
    ·exact absurd (hbe.trans z) hb
    ·rw [hbe]; exact z
   rw [q] at q'; cases q'
   obtain ⟨v, hv⟩ := heo
   exact ⟨v, by rw [hbe]; exact hv⟩
  ·refine (ok b u q).stay (fun c v hc r => k c v ?_ r) (fun c r => by rw [aW (nown c b r)]; exact r) fun c xs r => by rw [aW (ntup c xs r)]; exact r
   rcases hc with rfl | hc
   ·exact hbe
   ·rintro rfl
    rcases he with z | z
    ·exact nown c b hc z
    ·rw [hc] at z; cases z; exact hb rfl
end
structure Un (fs ex : List Addr) (H H' : Hp) (h h' : Heap) : Prop where
 keep : ∀ b o, h.get? b = some o -> H b = none -> b ∉ fs -> b ∉ ex -> h'.get? b = some o
 slot : ∀ b o, h.get? b = some o -> H b = none -> b ∈ fs -> b ∉ ex -> ∃ sl, h'.get? b = some { o with slots := sl }
 free : ∀ b o, h.get? b = some o -> H b = none -> b ∉ ex -> H' b = none
 there : ∀ b o, h.get? b = some o -> b ∉ ex -> ∃ o', h'.get? b = some o'
 tups : ∀ b xs, H b = some (.tup xs) -> H' b = some (.tup xs)
 frzs : ∀ b o u, H b = some (.frz o u) -> H' b = some (.frz o u)
 tbls : ∀ b ps, H b = some (.tbl ps) -> ∃ more, H' b = some (.tbl (ps ++ more))
section
variable {fs fs' ex ex' : List Addr} {H H1 H2 : Hp} {h h1 h2 h' : Heap} {a x e : Addr} {o : HO}
theorem Un.any (u : Un fs ex H H1 h h1) {b : Addr} {ob : Obj} (q : h.get? b = some ob) (n : H b = none) (hx : b ∉ ex) : ∃ sl, h1.get? b = some { ob with slots := sl } := by
 by_cases hb : b ∈ fs
 ·exact u.slot b ob q n hb hx
 ·exact ⟨ob.slots, u.keep b ob q n hb hx⟩
theorem Un.trans (a : Un fs ex H H1 h h1) (b : Un fs ex H1 H2 h1 h2) : Un fs ex H H2 h h2 where
 keep := fun c ob q n hc hx => b.keep c ob (a.keep c ob q n hc hx) (a.free c ob q n hx) hc hx
 slot := fun c ob q n hc hx => by
  obtain ⟨sl, e1⟩ := a.slot c ob q n hc hx
  obtain ⟨sl', e2⟩ := b.slot c _ e1 (a.free c ob q n hx) hc hx
  exact ⟨sl', e2⟩
 free := fun c ob q n hx => by
  obtain ⟨o', e1⟩ := a.there c ob q hx
  exact b.free c o' e1 (a.free c ob q n hx) hx
 there := fun c ob q hx => by
  obtain ⟨o', e1⟩ := a.there c ob q hx
  exact b.there c o' e1 hx
 tups := fun c xs q => b.tups c xs (a.tups c xs q)
 frzs := fun c ob xs q => b.frzs c ob xs (a.frzs c ob xs q)
 tbls := fun c ps q => by
  obtain ⟨m1, e1⟩ := a.tbls c ps q
  obtain ⟨m2, e2⟩ := b.tbls c _ e1
  exact ⟨m1 ++ m2, by rw [e2, Array.append_assoc]⟩
theorem Un.kept (k : ∀ b u, h.get? b = some u -> h'.get? b = some u) : Un fs ex H H h h' :=
 ⟨fun b ob q _ _ _ => k b ob q, fun b ob q _ _ _ => ⟨ob.slots, k b ob q⟩, fun _ _ _ n _ => n, fun b ob q _ => ⟨ob, k b ob q⟩, fun _ _ q => q, fun _ _ _ q => q, fun _ ps q => ⟨#[], by rw [q]; simp⟩⟩
theorem Un.refl : Un fs ex H H h h := Un.kept fun _ _ q => q
theorem Un.laid (k : ∀ b u, h.get? b = some u -> h'.get? b = some u) (hp : h.objs.size <= a) (hn : H a = none) : Un fs ex H (upd H a o) h h' where
 keep := fun b u q _ _ _ => k b u q
 slot := fun b u q _ _ _ => ⟨u.slots, k b u q⟩
 free := fun b u q n _ => by rw [aW (Mi (Mp (L5 q) hp))]; exact n
 there := fun b u q _ => ⟨u, k b u q⟩
 tups := fun b xs q => by rw [aW (cn q hn)]; exact q
 frzs := fun b u xs q => by rw [aW (cn q hn)]; exact q
 tbls := fun b ps q => ⟨#[], by rw [aW (cn q hn), q]; simp⟩
theorem Un.write (mu : Mut (H x)) (he : e = x \/ H e = some (.own x)) (k : ∀ b u, b ≠ e -> h.get? b = some u -> h'.get? b = some u) (heo : ∃ u, h'.get? e = some u) : Un fs ex H (upd H x o) h h' := by
 have hx : ∀ b, H b = none -> b ≠ x := fun b n z => by subst z; rw [n] at mu; exact mu
 have hb : ∀ b, H b = none -> b ≠ e := fun b n z => by
  subst z
  rcases he with r | r
  ·exact hx b n r
  ·rw [n] at r; cases r
 have hm : ∀ b u, H b = some u -> ¬ Mut (some u) -> b ≠ x := fun b u q nm z => by subst z; rw [q] at mu; exact nm mu
 refine ⟨fun b u q n _ _ => k b u (hb b n) q, fun b u q n _ _ => ⟨u.slots, k b u (hb b n) q⟩, fun b u q n _ => by rw [aW (hx b n)]; exact n, fun b u q _ => ?_,
  fun b xs q => by rw [aW (hm b _ q fun z => z)]; exact q, fun b u xs q => by rw [aW (hm b _ q fun z => z)]; exact q, fun b ps q => ⟨#[], by rw [aW (hm b _ q fun z => z), q]; simp⟩⟩
 by_cases hbe : b = e
 ·subst hbe; exact heo
 ·exact ⟨u, k b u hbe q⟩
end
noncomputable def trk (h : Heap) (H : Hp) : List Addr := (List.range h.objs.size).filter fun a => (H a).isSome
noncomputable def wG (h : Heap) (H : Hp) : Heap := W.hideAll h (trk h H)
theorem BQ (h : Heap) (H : Hp) : (wG h H).objs.size = h.objs.size := W.hideAll_size _ _
theorem DJ {h : Heap} {H : Hp} {b : Addr} {o : Obj} (e : h.get? b = some o) (n : H b = none) : (wG h H).get? b = some o :=
 W.hideAll_get _ e fun hm => by
  have q : (H b).isSome = true := (Md.mp hm).2
  rw [n] at q; simp at q
theorem FO {h : Heap} {H : Hp} {b : Addr} {o : Obj} (e : (wG h H).get? b = some o) : h.get? b = some o /\ H b = none := by
 have e' : h.get? b = some o := W.of_hideAll (trk h H) e
 refine ⟨e', ?_⟩
 cases q : H b with
 | none => rfl
 | some x =>
  have hm : b ∈ trk h H := Md.mpr ⟨MA.mpr (L5 e'), by simp [q]⟩
  have z : (wG h H).get? b = none := W.hideAll_none (trk h H) hm
  rw [z] at e; cases e
noncomputable def FU (g h : Heap) (L : Addr) : List (Addr × Obj) := (List.range h.objs.size).filterMap fun a => if a = L \/ (g.get? a).isSome = true then none else (h.get? a).map fun o => (a, o)
noncomputable def dR (g h : Heap) (L d : Addr) : List (Addr × Obj) := (FU g h L).filter fun p => decide (p.1 ≠ d)
structure Mod (K : W.Frag) (mg : Str -> Option Value) (base : Heap) : Prop where
 kin : K.In base
 glob : base.Ns mainGlobals mg
 blt : ∃ mb, base.Ns builtinsNs mb /\ ∀ x : Str, x ≠ "__name__" -> mb x = bootBuiltins x
 nolimit : base.NoLimit
structure Cx where
 prog : Program
 w : World
 K : W.Frag
 mg : Str -> Option Value
 base : Heap
 A : Around
 N : List Str
 s₀ : Shared
 H₀ : Hp
 env : Env
 outer : List Env
 stack : List Env
 ex : List Addr
 fn : Str -> Bool
 calm : Bool
 pn : List (Addr × Obj)
 xe : Value -> Shared -> Prop
noncomputable def frs (l : List Env) : List Addr := l.filterMap (·.frame)
noncomputable abbrev Cx.fs (X : Cx) : List Addr := frs X.outer
def Vis (sc : Scope) (x : Str) : Prop := sc.names.lookup x = some .local \/ sc.names.lookup x = some .cell \/ sc.names.lookup x = some .free
def Loc (sc : Scope) (x : Str) : Prop := sc.names.lookup x = some .local \/ sc.names.lookup x = some .cell
def Kv (env : Env) (h : Heap) (m : Str -> Option Value) (x : Str) (u : Value) : Prop :=
 (env.kindOf x = some .local /\ m x = some u) \/ ((env.kindOf x = some .cell \/ env.kindOf x = some .free) /\ ∃ c, env.cells.lookup x = some c /\ h.IsCell c (some u))
structure Cx.Ok (X : Cx) : Prop where
 mod : Mod X.K X.mg X.base
 kind : X.env.scope.kind = .function
 glob : X.env.globals = mainGlobals
 blt : X.env.builtins = builtinsNs
 above : X.s₀.heap.objs.size <= X.env.locals
 inj : ∀ x y c, X.env.cells.lookup x = some c -> X.env.cells.lookup y = some c -> x = y
 has : ∀ x, (X.env.kindOf x = some .cell \/ X.env.kindOf x = some .free) -> ∃ c, X.env.cells.lookup x = some c
 cab : ∀ x c, X.fn x = true -> X.env.cells.lookup x = some c -> X.s₀.heap.objs.size <= c
 hd : X.calm = true -> X.A.handled = none
 frames : X.A.frames = some X.stack
 stk : X.stack = X.outer \/ (X.stack = X.env :: X.outer /\ X.env.frame = some X.env.locals)
 exf : ∀ b ∈ X.ex, b ≠ X.env.locals /\ ∀ x c, X.env.cells.lookup x = some c -> c ≠ b
 bs : ∀ b o, X.base.get? b = some o -> X.s₀.heap.get? b = some o /\ X.H₀ b = none
 bsz : X.base.objs.size <= X.s₀.heap.objs.size
 noex : ∀ b o, X.base.get? b = some o -> b ∉ X.ex
 exfs : ∀ b ∈ X.ex, b ∉ X.fs
 funs : X.s₀.heap.FunFrames X.base X.outer
 frf : ∀ b ∈ X.fs, X.H₀ b = none
structure Inv (X : Cx) (pins : List (Addr × Obj)) (σ : List (Option V)) (H : Hp) (s : Shared) : Prop where
 ok : X.Ok
 os : s.os = X.s₀.os
 bare : AllBare s.gens
 base : Un X.fs X.ex X.H₀ H X.s₀.heap s.heap
 loc : ∃ m, s.heap.Ns X.env.locals m /\ ∀ (i : Nat) (x : Str) (v : V), X.N[i]? = some x -> σ[i]? = some (some v) -> Vis X.env.scope x -> ∃ u, RelV v u /\ Kv X.env s.heap m x u
 cell : ∀ x c, X.env.cells.lookup x = some c -> ∃ v, s.heap.IsCell c v
 free : H X.env.locals = none
 freeC : ∀ x c, X.env.cells.lookup x = some c -> H c = none
 pin : ∀ p ∈ X.pn ++ pins, s.heap.get? p.1 = some p.2 /\ H p.1 = none /\ p.1 ≠ X.env.locals /\ p.1 ∉ X.fs /\ ∀ v, p.2.data ≠ .cell v
 hok : HOk X.prog X.w H s.heap
 len : σ.length = X.N.length
section
variable {X : Cx} {pins : List (Addr × Obj)} {σ : List (Option V)} {H H' : Hp} {s : Shared} {h' : Heap}
theorem Cx.Ok.nofr (ok : X.Ok) {b : Addr} {o : Obj} (e : X.base.get? b = some o) : b ∉ X.fs := fun hb => by
 have := (ok.funs.mem hb).1
 rw [e] at this; cases this
theorem Inv.bs (I : Inv X pins σ H s) : ∀ b o, X.base.get? b = some o -> s.heap.get? b = some o /\ H b = none := fun b o e =>
 ⟨I.base.keep b o (I.ok.bs b o e).1 (I.ok.bs b o e).2 (I.ok.nofr e) (I.ok.noex b o e), I.base.free b o (I.ok.bs b o e).1 (I.ok.bs b o e).2 (I.ok.noex b o e)⟩
theorem Inv.bk (I : Inv X pins σ H s) : ∀ b o, X.base.get? b = some o -> s.heap.get? b = some o := fun b o e => (I.bs b o e).1
theorem Inv.mod (I : Inv X pins σ H s) : Mod X.K X.mg X.base := I.ok.mod
theorem Inv.kIn (I : Inv X pins σ H s) : X.K.In s.heap := I.ok.mod.kin.keeps I.bk
theorem Inv.fr (I : Inv X pins σ H s) : ∃ m, Fr X.base X.env.locals s.heap m :=
 let ⟨m, hn, _⟩ := I.loc
 ⟨m, hn, I.bk, Mm I.ok.bsz I.ok.above⟩
theorem Inv.lt (I : Inv X pins σ H s) : X.env.locals < s.heap.objs.size := let ⟨_, hn, _⟩ := I.loc; hn.lt
theorem Inv.sz (I : Inv X pins σ H s) : X.s₀.heap.objs.size <= s.heap.objs.size := Mm I.ok.above (MB I.lt)
theorem Inv.nofs (I : Inv X pins σ H s) {a : Addr} (h : s.heap.objs.size <= a) : a ∉ X.fs := fun hb => by
 obtain ⟨_, o, ho, _⟩ := I.ok.funs.mem hb
 exact absurd (Mp (L5 ho) (Mm I.sz h)) (Nat.lt_irrefl _)
theorem Inv.cne (I : Inv X pins σ H s) : ∀ x c, X.env.cells.lookup x = some c -> c ≠ X.env.locals := fun x c e z => by
 obtain ⟨v, o, ho, hd⟩ := I.cell x c e
 obtain ⟨m, ⟨o', es, ep, ho', hd', _⟩, _⟩ := I.loc
 rw [z, ho'] at ho; cases ho; rw [hd'] at hd; cases hd
theorem Inv.funs (I : Inv X pins σ H s) : s.heap.FunFrames X.base X.outer := by
 have all : ∀ (l : List Env), (∀ b ∈ frs l, b ∈ X.fs) -> X.s₀.heap.FunFrames X.base l -> s.heap.FunFrames X.base l := by
  intro l
  induction l with
  | nil => intro _ _; trivial
  | cons env r ih =>
   intro hs hl
   obtain ⟨hk, ⟨L, o, hf, hn, ho, hd⟩, hr⟩ := hl
   have hL : L ∈ X.fs := hs L (by unfold frs; rw [List.filterMap_cons, hf]; exact LV)
   obtain ⟨sl, e⟩ := I.base.slot L o ho (I.ok.frf L hL) hL fun z => I.ok.exfs L z hL
   exact ⟨hk, ⟨L, _, hf, hn, e, hd⟩, ih (fun b hb => hs b (by unfold frs; rw [List.filterMap_cons, hf]; exact LY _ hb)) hr⟩
 exact all X.outer (fun _ hb => hb) I.ok.funs
theorem Inv.stack (I : Inv X pins σ H s) : s.heap.FunFrames X.base X.stack := by
 rcases I.ok.stk with e | ⟨e, hf⟩
 ·rw [e]; exact I.funs
 ·rw [e]
  obtain ⟨m, hn, _⟩ := I.loc
  refine .cons (by rw [I.ok.kind]; decide) hf hn ?_ I.funs
  exact Heap.get?_none_of_le (Mm I.ok.bsz I.ok.above)
theorem Inv.stkSub (I : Inv X pins σ H s) : ∀ b ∈ frs X.stack, b ∈ X.env.locals :: X.fs := fun b hb => by
 rcases I.ok.stk with e | ⟨e, hf⟩
 ·rw [e] at hb; exact LY _ hb
 ·rw [e] at hb
  unfold frs at hb
  rw [List.filterMap_cons, hf] at hb
  exact hb
theorem Inv.stkFree (I : Inv X pins σ H s) : ∀ b ∈ frs X.stack, H b = none := fun b hb => by
 rcases L9.mp (I.stkSub b hb) with e | hb
 ·rw [e]; exact I.free
 ·obtain ⟨_, o, ho, _⟩ := I.ok.funs.mem hb
  exact I.base.free b o ho (I.ok.frf b hb) fun z => I.ok.exfs b z hb
theorem Inv.step {g' : Array GenState} {t' : Nat} {d' : Drawn} {ch : List Addr} (I : Inv X pins σ H s)
  (hch : ∀ b ∈ ch, (b ∈ X.ex \/ X.s₀.heap.objs.size <= b) /\ b ≠ X.env.locals /\ (∀ x c, X.env.cells.lookup x = some c -> c ≠ b) /\ ∀ p ∈ X.pn ++ pins, p.1 ≠ b)
  (keep : ∀ b o, b ≠ X.env.locals -> b ∉ X.fs -> b ∉ ch -> s.heap.get? b = some o -> H b = none -> h'.get? b = some o)
  (slot : ∀ b o, b ≠ X.env.locals -> b ∈ X.fs -> b ∉ ch -> s.heap.get? b = some o -> H b = none -> ∃ sl, h'.get? b = some { o with slots := sl }) (free : ∀ b o, b ∉ ch -> s.heap.get? b = some o -> H b = none -> H' b = none)
  (there : ∀ b o, b ∉ ch -> s.heap.get? b = some o -> ∃ o', h'.get? b = some o')
  (tups : ∀ b xs, H b = some (.tup xs) -> H' b = some (.tup xs)) (frzs : ∀ b o u, H b = some (.frz o u) -> H' b = some (.frz o u)) (tbls : ∀ b ps, H b = some (.tbl ps) -> ∃ more, H' b = some (.tbl (ps ++ more)))
  (ns : ∀ m, s.heap.Ns X.env.locals m -> h'.Ns X.env.locals m) (hok : HOk X.prog X.w H' h') (hg : AllBare g') :
  Inv X pins σ H' { s with heap := h', gens := g', drawn := d', toks := t' } := by
 have neL : ∀ b o, X.s₀.heap.get? b = some o -> b ≠ X.env.locals := fun b o e => Mi (Mp (L5 e) I.ok.above)
 have neC : ∀ b o, X.s₀.heap.get? b = some o -> b ∉ X.ex -> b ∉ ch := fun b o e hx hb => by
  rcases (hch b hb).1 with z | z
  ·exact hx z
  ·exact absurd (Mp (L5 e) z) (Nat.lt_irrefl _)
 have cellK : ∀ x c, X.env.cells.lookup x = some c -> ∀ v, s.heap.IsCell c v -> h'.IsCell c v := fun x c e v hpt0 => by
  obtain ⟨o, ho, hd⟩ := hpt0
  have nch : c ∉ ch := fun z => (hch c z).2.2.1 x c e rfl
  by_cases hc : c ∈ X.fs
  ·obtain ⟨sl, q⟩ := slot c o (I.cne x c e) hc nch ho (I.freeC x c e)
   exact ⟨_, q, hd⟩
  ·exact ⟨o, keep c o (I.cne x c e) hc nch ho (I.freeC x c e), hd⟩
 refine ⟨I.ok, I.os, hg, ⟨fun b o e n hb hx => ?_, fun b o e n hb hx => ?_, fun b o e n hx => ?_, fun b o e hx => ?_, fun b xs e => tups b xs (I.base.tups b xs e), fun b o xs e => frzs b o xs (I.base.frzs b o xs e), fun b ps e => ?_⟩, ?_, fun x c e => ?_, ?_, fun x c e => ?_, fun p hp => ?_, hok, I.len⟩
 ·exact keep b o (neL b o e) hb (neC b o e hx) (I.base.keep b o e n hb hx) (I.base.free b o e n hx)
 ·obtain ⟨sl, e1⟩ := I.base.slot b o e n hb hx
  obtain ⟨sl', e2⟩ := slot b _ (neL b o e) hb (neC b o e hx) e1 (I.base.free b o e n hx)
  exact ⟨sl', e2⟩
 ·obtain ⟨o', e1⟩ := I.base.there b o e hx
  exact free b o' (neC b o e hx) e1 (I.base.free b o e n hx)
 ·obtain ⟨o', e1⟩ := I.base.there b o e hx
  exact there b o' (neC b o e hx) e1
 ·obtain ⟨m1, e1⟩ := I.base.tbls b ps e
  obtain ⟨m2, e2⟩ := tbls b _ e1
  exact ⟨m1 ++ m2, by rw [e2, Array.append_assoc]⟩
 ·obtain ⟨m, hn, hl⟩ := I.loc
  refine ⟨m, ns m hn, fun i x v e1 e2 e3 => ?_⟩
  obtain ⟨u, r, l⟩ := hl i x v e1 e2 e3
  refine ⟨u, r, ?_⟩
  rcases l with l | ⟨k, c, e, z⟩
  ·exact .inl l
  ·exact .inr ⟨k, c, e, cellK x c e _ z⟩
 ·obtain ⟨v, z⟩ := I.cell x c e
  exact ⟨v, cellK x c e v z⟩
 ·obtain ⟨m, ⟨o, _, _, ho, _⟩, _⟩ := I.loc
  exact free _ o (fun z => (hch _ z).2.1 rfl) ho I.free
 ·obtain ⟨v, o, ho, hd⟩ := I.cell x c e
  exact free c o (fun z => (hch c z).2.2.1 x c e rfl) ho (I.freeC x c e)
 ·obtain ⟨e, n, ne, nf, d⟩ := I.pin p hp
  have nch : p.1 ∉ ch := fun z => (hch p.1 z).2.2.2 p hp rfl
  exact ⟨keep p.1 p.2 ne nf nch e n, free p.1 p.2 nch e n, ne, nf, d⟩
theorem Inv.un {t' : Nat} (I : Inv X pins σ H s) (u : Un X.fs [] H H' s.heap h') (hok : HOk X.prog X.w H' h') : Inv X pins σ H' { s with heap := h', toks := t' } := by
 obtain ⟨m, ⟨o, es, ep, ho, r⟩, _⟩ := id I.loc
 obtain ⟨sl, hL⟩ := u.any ho I.free (by simp)
 exact I.step (g' := s.gens) (d' := s.drawn) (ch := []) (fun _ z => nomatch z) (fun b o _ hb _ e n => u.keep b o e n hb (by simp)) (fun b o _ hb _ e n => u.slot b o e n hb (by simp)) (fun b o _ e n => u.free b o e n (by simp)) (fun b o _ e => u.there b o e (by simp)) u.tups u.frzs u.tbls (fun m' hm => by
  obtain ⟨o', es', ep', ho', r'⟩ := hm
  rw [ho] at ho'; cases ho'
  exact ⟨_, es', ep', hL, r'⟩) hok I.bare
theorem Inv.call {g' : Array GenState} {t' : Nat} {d' : Drawn} {ch : List Addr} (I : Inv X pins σ H s) (u : Un (frs X.stack) ch H H' s.heap h') (hok : HOk X.prog X.w H' h') (hg : AllBare g')
  (hch : ∀ b ∈ ch, (b ∈ X.ex \/ X.s₀.heap.objs.size <= b) /\ b ≠ X.env.locals /\ (∀ x c, X.env.cells.lookup x = some c -> c ≠ b) /\ ∀ p ∈ X.pn ++ pins, p.1 ≠ b) :
  Inv X pins σ H' { s with heap := h', gens := g', drawn := d', toks := t' } := by
 obtain ⟨m, ⟨o, es, ep, ho, r⟩, _⟩ := id I.loc
 obtain ⟨sl, hL⟩ := u.any ho I.free fun z => (hch _ z).2.1 rfl
 exact I.step (ch := ch) hch (fun b o hL hb hc e n => u.keep b o e n (fun z => (L9.mp (I.stkSub b z)).elim hL hb) hc) (fun b o _ _ hc e n => u.any e n hc) (fun b o hc e n => u.free b o e n hc) (fun b o hc e => u.there b o e hc) u.tups u.frzs u.tbls (fun m' hm => by
  obtain ⟨o', es', ep', ho', r'⟩ := hm
  rw [ho] at ho'; cases ho'
  exact ⟨_, es', ep', hL, r'⟩) hok hg
theorem Inv.turned {t' : Nat} {it : Addr} (I : Inv X pins σ H s) (k : ∀ b o, b ≠ it -> s.heap.get? b = some o -> h'.get? b = some o) (hn : H it = none) (hL : it ≠ X.env.locals)
  (h1 : it ∈ X.ex \/ X.s₀.heap.objs.size <= it) (h2 : ∀ x c, X.env.cells.lookup x = some c -> c ≠ it) (h3 : ∀ p ∈ X.pn ++ pins, p.1 ≠ it) : Inv X pins σ H { s with heap := h', toks := t' } := by
 have nit : ∀ b u, H b = some u -> b ≠ it := fun b u e z => by rw [z, hn] at e; cases e
 refine I.step (g' := s.gens) (d' := s.drawn) (ch := [it]) (fun b hb => ?_) (fun b o _ _ hc e _ => k b o (fun z => hc (by simp [z])) e) (fun b o _ _ hc e _ => ⟨o.slots, k b o (fun z => hc (by simp [z])) e⟩) (fun _ _ _ _ n => n)
  (fun b o hc e => ⟨o, k b o (fun z => hc (by simp [z])) e⟩) (fun _ _ e => e) (fun _ _ _ e => e) (fun b ps e => ⟨#[], by rw [e]; simp⟩) (fun m hm => ?_) (fun b u e => ?_) I.bare
 ·have e : b = it := by simpa using hb
  subst e
  exact ⟨h1, hL, h2, h3⟩
 ·obtain ⟨o, es, ep, ho, r⟩ := hm
  exact ⟨o, es, ep, k _ o (Ma hL) ho, r⟩
 ·refine (I.hok b u e).stay (fun c v hc q => k c v ?_ q) (fun _ q => q) fun _ _ q => q
  rcases hc with z | z
  ·rw [z]; exact nit b u e
  ·exact nit c _ z
theorem Inv.tok (I : Inv X pins σ H s) (t : Nat) : Inv X pins σ H { s with toks := t } := I.un (h' := s.heap) (t' := t) Un.refl I.hok
theorem Inv.kept {t' : Nat} (I : Inv X pins σ H s) (k : ∀ b u, s.heap.get? b = some u -> h'.get? b = some u) : Inv X pins σ H { s with heap := h', toks := t' } := I.un (Un.kept k) (I.hok.kept k)
theorem Inv.laid {a : Addr} {o : HO} {t' : Nat} (I : Inv X pins σ H s) (k : ∀ b u, s.heap.get? b = some u -> h'.get? b = some u) (hp : s.heap.objs.size <= a) (new : ObjOk X.prog X.w (upd H a o) h' a o) :
  Inv X pins σ (upd H a o) { s with heap := h', toks := t' } := I.un (Un.laid k hp (I.hok.fresh hp)) (I.hok.laid k hp new)
theorem Inv.write {x e : Addr} {o : HO} {t' : Nat} (I : Inv X pins σ H s) (mu : Mut (H x)) (he : e = x \/ H e = some (.own x)) (k : ∀ b u, b ≠ e -> s.heap.get? b = some u -> h'.get? b = some u) (heo : ∃ u, h'.get? e = some u)
  (new : ObjOk X.prog X.w (upd H x o) h' x o) : Inv X pins σ (upd H x o) { s with heap := h', toks := t' } := I.un (Un.write mu he k heo) (I.hok.write mu he k heo new)
theorem Inv.weak {σ' : List (Option V)} (I : Inv X pins σ H s) (hl : σ'.length = σ.length) (w : ∀ (i : Nat) v, σ'[i]? = some (some v) -> σ[i]? = some (some v)) : Inv X pins σ' H s :=
 ⟨I.ok, I.os, I.bare, I.base, let ⟨m, hn, hl'⟩ := I.loc; ⟨m, hn, fun i x v e1 e2 e3 => hl' i x v e1 (w i v e2) e3⟩, I.cell, I.free, I.freeC, I.pin, I.hok, hl.trans I.len⟩
theorem Inv.pins_of {pins' : List (Addr × Obj)} (I : Inv X pins σ H s) (h : ∀ p ∈ pins', s.heap.get? p.1 = some p.2 /\ H p.1 = none /\ p.1 ≠ X.env.locals /\ p.1 ∉ X.fs /\ ∀ v, p.2.data ≠ .cell v) : Inv X pins' σ H s :=
 ⟨I.ok, I.os, I.bare, I.base, I.loc, I.cell, I.free, I.freeC, fun p hp => (Mb.mp hp).elim (fun z => I.pin p (Me _ z)) (h p), I.hok, I.len⟩
theorem zo {N : List Str} (hN : N.Nodup) {i j : Nat} {x : Str} (a : N[i]? = some x) (b : N[j]? = some x) : i = j := by
 obtain ⟨h1, e1⟩ := LW.mp a
 obtain ⟨h2, e2⟩ := LW.mp b
 exact (List.getElem_inj hN).mp (e1.trans e2.symm)
theorem Cr {M : Model} {A : Around} {E : Value -> Shared -> Prop} {i : Nat} {x : Str} {v : V} {u : Value} {Q : Unit -> Shared -> Prop} (I : Inv X pins σ H s) (hN : X.N.Nodup) (hi : X.N[i]? = some x) (hx : Loc X.env.scope x) (r : RelV v u)
  (h : ∀ s', Inv X pins (σ.set i (some v)) H s' -> (∃ a, Heap.SameBut a s.heap s'.heap /\ (a = X.env.locals \/ X.env.cells.lookup x = some a)) -> Q () s') (hf : X.fn x = true \/ X.env.scope.names.lookup x = some .local := by first | exact .inl rfl | exact .inr rfl | assumption) : wpAny M A (storeName X.env x u) Q E s := by
 obtain ⟨m, hn, hl⟩ := id I.loc
 have hcls : (X.env.scope.kind == .class || (X.env.scope.kind == .module && X.env.locals != X.env.globals)) = false := by rw [I.ok.kind]; rfl
 have hiσ : i < σ.length := by rw [I.len]; exact (LW.mp hi).1
 have cne := I.cne
 have tracked : ∀ {a : Addr} {h' : Heap}, (∃ o, s.heap.get? a = some o /\ H a = none) -> Heap.SameBut a s.heap h' -> HOk X.prog X.w H h' := fun {a h'} ha hs b ob e => by
  obtain ⟨_, _, hfree⟩ := ha
  refine (I.hok b ob e).stay (fun c w' hc q => (hs.2 c ?_).trans q) (fun _ q => q) fun _ _ q => q
  rintro rfl
  rcases hc with rfl | hc
  ·rw [hfree] at e; cases e
  ·rw [hfree] at hc; cases hc
 rcases hx with hk | hk
 ·refine wpAny_storeName_local hk hn (fun h' hn' hs => ?_) hcls
  obtain ⟨oL, _, _, hoL, _⟩ := id hn
  refine h _ ⟨I.ok, I.os, I.bare, ⟨fun b o e n hb hx => ?_, fun b o e n hb hx => ?_, I.base.free, fun b o e hx => ?_, I.base.tups, I.base.frzs, I.base.tbls⟩, ⟨_, hn', fun j y v' e1 e2 e3 => ?_⟩, fun y c e => ?_, I.free, I.freeC, fun p hp => ?_, tracked ⟨oL, hoL, I.free⟩ hs, by simpa using I.len⟩ ⟨_, hs, .inl rfl⟩
  ·exact (hs.2 b (Mi (Mp (L5 e) I.ok.above))).trans (I.base.keep b o e n hb hx)
  ·obtain ⟨sl, e1⟩ := I.base.slot b o e n hb hx
   exact ⟨sl, (hs.2 b (Mi (Mp (L5 e) I.ok.above))).trans e1⟩
  ·obtain ⟨o', e1⟩ := I.base.there b o e hx
   exact ⟨o', (hs.2 b (Mi (Mp (L5 e) I.ok.above))).trans e1⟩
  ·by_cases hj : j = i
   ·subst hj
    rw [hi] at e1; cases e1
    rw [MK hiσ] at e2
    cases e2
    exact ⟨u, r, .inl ⟨hk, by simp⟩⟩
   ·rw [Ms (Ma hj)] at e2
    obtain ⟨u', r', q⟩ := hl j y v' e1 e2 e3
    refine ⟨u', r', ?_⟩
    rcases q with ⟨k, e⟩ | ⟨k, c, e, z⟩
    ·refine .inl ⟨k, ?_⟩
     have : y ≠ x := fun e => hj (zo hN e1 (e ▸ hi))
     simp [this, e]
    ·exact .inr ⟨k, c, e, z.sameBut hs (cne y c e)⟩
  ·obtain ⟨w', z⟩ := I.cell y c e
   exact ⟨w', z.sameBut hs (cne y c e)⟩
  ·obtain ⟨e, n, ne, nf, d⟩ := I.pin p hp
   exact ⟨(hs.2 p.1 ne).trans e, n, ne, nf, d⟩
 ·have hfn : X.fn x = true := by
   rcases hf with z | z
   ·exact z
   ·rw [z] at hk; cases hk
  obtain ⟨c, hc⟩ := I.ok.has x (.inl hk)
  obtain ⟨w', z⟩ := I.cell x c hc
  refine wpAny_storeName_cell I.ok.kind hk hc z (fun h' hc' hs => ?_)
  obtain ⟨oc, hoc, hocd⟩ := id z
  refine h { s with heap := h' } ⟨I.ok, I.os, I.bare, ⟨fun b o e n hb hx => ?_, fun b o e n hb hx => ?_, I.base.free, fun b o e hx => ?_, I.base.tups, I.base.frzs, I.base.tbls⟩, ⟨m, hn.sameBut hs (Ma (cne x c hc)), fun j y v' e1 e2 e3 => ?_⟩, fun y c' e => ?_, I.free, I.freeC, fun p hp => ?_, tracked ⟨oc, hoc, I.freeC x c hc⟩ hs, by simpa using I.len⟩ ⟨c, hs, .inr hc⟩
  ·exact (hs.2 b (Mi (Mp (L5 e) (I.ok.cab x c hfn hc)))).trans (I.base.keep b o e n hb hx)
  ·obtain ⟨sl, e1⟩ := I.base.slot b o e n hb hx
   exact ⟨sl, (hs.2 b (Mi (Mp (L5 e) (I.ok.cab x c hfn hc)))).trans e1⟩
  ·obtain ⟨o', e1⟩ := I.base.there b o e hx
   exact ⟨o', (hs.2 b (Mi (Mp (L5 e) (I.ok.cab x c hfn hc)))).trans e1⟩
  ·by_cases hj : j = i
   ·subst hj
    rw [hi] at e1; cases e1
    rw [MK hiσ] at e2
    cases e2
    exact ⟨u, r, .inr ⟨.inl hk, c, hc, hc'⟩⟩
   ·rw [Ms (Ma hj)] at e2
    obtain ⟨u', r', q⟩ := hl j y v' e1 e2 e3
    refine ⟨u', r', ?_⟩
    rcases q with q | ⟨k, c', e, z'⟩
    ·exact .inl q
    ·refine .inr ⟨k, c', e, z'.sameBut hs ?_⟩
     rintro rfl
     exact hj (zo hN e1 (I.ok.inj _ _ _ e hc ▸ hi))
  ·by_cases hcc : c' = c
   ·subst hcc; exact ⟨_, hc'⟩
   ·obtain ⟨w2, z2⟩ := I.cell y c' e
    exact ⟨w2, z2.sameBut hs hcc⟩
  ·obtain ⟨e, n, ne, nf, d⟩ := I.pin p hp
   refine ⟨(hs.2 p.1 ?_).trans e, n, ne, nf, d⟩
   intro q
   rw [q, hoc] at e
   have q' : oc = p.2 := Ml e
   exact d w' (by rw [<- q']; exact hocd)
theorem tz {M : Model} {A : Around} {E : Value -> Shared -> Prop} {i : Nat} {x : Str} {v : V} {u : Value} {Q : Unit -> Shared -> Prop} (I : Inv X pins σ H s) (hN : X.N.Nodup) (hi : X.N[i]? = some x) (hx : Loc X.env.scope x) (r : RelV v u)
  (h : ∀ s', Inv X pins (σ.set i (some v)) H s' -> Q () s') (hf : X.fn x = true \/ X.env.scope.names.lookup x = some .local := by first | exact .inl rfl | exact .inr rfl | assumption) : wpAny M A (storeName X.env x u) Q E s :=
 Cr I hN hi hx r (fun s' I' _ => h s' I') hf
theorem Inv.call' {s' : Shared} {ch : List Addr} (I : Inv X pins σ H s) (ho : s'.os = s.os) (u : Un (frs X.stack) ch H H' s.heap s'.heap) (hok : HOk X.prog X.w H' s'.heap) (hg : AllBare s'.gens)
  (hch : ∀ b ∈ ch, (b ∈ X.ex \/ X.s₀.heap.objs.size <= b) /\ b ≠ X.env.locals /\ (∀ x c, X.env.cells.lookup x = some c -> c ≠ b) /\ ∀ p ∈ X.pn ++ pins, p.1 ≠ b) : Inv X pins σ H' s' := by
 obtain ⟨h', g', d', t', o'⟩ := s'
 have e : o' = s.os := ho
 subst e
 exact I.call (g' := g') (t' := t') (d' := d') u hok hg hch
end
noncomputable abbrev XK := Value -> Option Addr -> Hp -> Prop
noncomputable abbrev St := List (Option V)
noncomputable abbrev VK := V -> Hp -> Prop
noncomputable abbrev TE := St -> Hp -> VK -> Prop
noncomputable abbrev TT := St -> Hp -> (Bool -> Hp -> Prop) -> Prop
noncomputable abbrev TA := St -> Hp -> (List V -> Hp -> Prop) -> Prop
structure Ends where
 nx : St -> Hp -> Prop
 rt : VK
 bk : St -> Hp -> Prop := fun _ _ => False
 ct : St -> Hp -> Prop := fun _ _ => False
noncomputable abbrev TS := Ends -> St -> Hp -> Prop
def EP (X : Cx) (pins : List (Addr × Obj)) (σ : St) (Q : VK) (u : Value) (s' : Shared) : Prop := ∃ v H', Inv X pins σ H' s' /\ RelV v u /\ Q v H'
def TP (X : Cx) (pins : List (Addr × Obj)) (σ : St) (Q : Bool -> Hp -> Prop) (b : Bool) (s' : Shared) : Prop := ∃ H', Inv X pins σ H' s' /\ Q b H'
def AP (X : Cx) (pins : List (Addr × Obj)) (σ : St) (Q : List V -> Hp -> Prop) (us : List Value) (s' : Shared) : Prop := ∃ vs H', Inv X pins σ H' s' /\ Vals vs us /\ Q vs H'
def SP (X : Cx) (pins : List (Addr × Obj)) (D : Ends) (f : Flow) (s' : Shared) : Prop :=
 match f with
 | .next => ∃ σ' H', Inv X pins σ' H' s' /\ D.nx σ' H'
 | .brk => ∃ σ' H', Inv X pins σ' H' s' /\ D.bk σ' H'
 | .cont => ∃ σ' H', Inv X pins σ' H' s' /\ D.ct σ' H'
 | .ret u => ∃ v σ' H', Inv X pins σ' H' s' /\ RelV v u /\ D.rt v H'
def PE (X : Cx) (e : Expr) (t : TE) : Prop :=
 ∀ (pins : List (Addr × Obj)) (s : Shared) (σ : St) (H : Hp) (Q : VK), Inv X pins σ H s -> t σ H Q -> wpAny (model X.prog X.w) X.A (eval e X.env) (EP X pins σ Q) X.xe s
def PT (X : Cx) (e : Expr) (t : TT) : Prop :=
 ∀ (pins : List (Addr × Obj)) (s : Shared) (σ : St) (H : Hp) (Q : Bool -> Hp -> Prop), Inv X pins σ H s -> t σ H Q -> wpAny (model X.prog X.w) X.A (isTrue e X.env (eval e X.env)) (TP X pins σ Q) X.xe s
def PW (X : Cx) (e : Expr) (t : TT) : Prop :=
 ∀ (whole : Sem Value) (pins : List (Addr × Obj)) (s : Shared) (σ : St) (H : Hp) (Q : Bool -> Hp -> Prop), Inv X pins σ H s -> t σ H Q -> wpAny (model X.prog X.w) X.A (isTrue e X.env whole) (TP X pins σ Q) X.xe s
theorem PW.pt {X : Cx} {e : Expr} {t : TT} (h : PW X e t) : PT X e t := h _
def PA (X : Cx) (es : List Expr) (t : TA) : Prop :=
 ∀ (pos : Pos) (pins : List (Addr × Obj)) (s : Shared) (σ : St) (H : Hp) (Q : List V -> Hp -> Prop), Inv X pins σ H s -> t σ H Q -> wpAny (model X.prog X.w) X.A (spliced (backTo pos (starEach es X.env))) (AP X pins σ Q) X.xe s
def PS (X : Cx) (st : Stmt) (t : TS) : Prop :=
 ∀ (pins : List (Addr × Obj)) (s : Shared) (σ : St) (H : Hp) (D : Ends), Inv X pins σ H s -> t D σ H -> wpAny (model X.prog X.w) X.A (exec st X.env) (SP X pins D) X.xe s
def PSs (X : Cx) (st : List Stmt) (t : TS) : Prop :=
 ∀ (pins : List (Addr × Obj)) (s : Shared) (σ : St) (H : Hp) (D : Ends), Inv X pins σ H s -> t D σ H -> wpAny (model X.prog X.w) X.A (execs st X.env) (SP X pins D) X.xe s
theorem thn {α : Type} {t : Sem α} {Q Q' : α -> Shared -> Prop} {M : Model} {A : Around} {E : Value -> Shared -> Prop} {s : Shared} (h : wpAny M A t Q E s) (hQ : ∀ a s, Q a s -> Q' a s) : wpAny M A t Q' E s := wpAny_mono h hQ fun _ _ x => x
section
variable {X : Cx}
noncomputable def iY (i : Nat) : TE := fun σ H Q => ∃ v, σ[i]? = some (some v) /\ Q v H
noncomputable def tC (v : V) : TE := fun _ H Q => Q v H
theorem Hj {i : Nat} {x : Str} {pos : Pos} (hN : X.N[i]? = some x) (hv : Vis X.env.scope x) (hd : (x == ("__debug__" : Str)) = false := by decide) (hcd : (x == ("__classdict__" : Str)) = false := by decide) : PE X (.Name x pos) (iY i) := by
 intro pins s σ H Q I h
 obtain ⟨v, e, h⟩ := h
 obtain ⟨m, hn, hl⟩ := I.loc
 obtain ⟨u, r, l⟩ := hl i x v hN e hv
 have fin : EP X pins σ Q u s := ⟨v, H, I, r, h⟩
 rcases l with ⟨hk, hm⟩ | ⟨hk, c, hc, hcell⟩
 ·exact wpAny_Name (wpAny_loadName_local I.ok.kind hk hn hm fin) hd
 ·rcases hk with hk | hk
  ·exact wpAny_Name (wpAny_loadName_cell I.ok.kind hk hc hcell fin) hd
  ·exact wpAny_Name (wpAny_loadName_free I.ok.kind hk hc hcell fin hcd) hd
theorem ag {i j pos} : PE X (.Constant (.int i) j pos) (tC (.int i)) := fun _ _ _ H _ I h => wpAny_Constant_int ⟨.int i, H, I.tok _, ⟨_, rfl⟩, h⟩
theorem fv {b j pos} : PE X (.Constant (.bool b) j pos) (tC (.bl b)) := fun _ _ _ H _ I h => Constant_bool ⟨.bl b, H, I, rfl, h⟩
theorem z9 {j pos} : PE X (.Constant .none j pos) (tC .non) := fun _ _ _ H _ I h => Constant_none ⟨.non, H, I, rfl, h⟩
def Gl (X : Cx) (x : Str) : Prop := X.env.kindOf x = some .globalImplicit
theorem A7 {E : Value -> Shared -> Prop} {pins : List (Addr × Obj)} {s : Shared} {σ : St} {H : Hp} {x : Str} {u : Value} {pos : Pos} {Q : Value -> Shared -> Prop} (I : Inv X pins σ H s) (hg : Gl X x) (hm : X.mg x = some u) (h : Q u s)
  (hd : (x == ("__debug__" : Str)) = false := by decide) : wpAny (model X.prog X.w) X.A (eval (.Name x pos) X.env) Q E s :=
 Calls.Name_function_global I.ok.kind hg (Calls.loadGlobal_global (by rw [I.ok.glob]; exact I.mod.glob.keeps I.bk) hm h) hd
theorem pO {E : Value -> Shared -> Prop} {pins : List (Addr × Obj)} {s : Shared} {σ : St} {H : Hp} {x : Str} {u : Value} {pos : Pos} {Q : Value -> Shared -> Prop} (I : Inv X pins σ H s) (hg : Gl X x) (hm : X.mg x = none) (hv : bootBuiltins x = some u) (h : Q u s)
  (hn : x ≠ "__name__" := by decide) (hd : (x == ("__debug__" : Str)) = false := by decide) : wpAny (model X.prog X.w) X.A (eval (.Name x pos) X.env) Q E s := by
 obtain ⟨mb, h1, h2⟩ := I.mod.blt
 exact Calls.Name_function_global I.ok.kind hg (Calls.loadGlobal_builtin (by rw [I.ok.glob]; exact I.mod.glob.keeps I.bk) hm (by rw [I.ok.blt]; exact h1.keeps I.bk) ((h2 x hn).trans hv) h) hd
theorem F6 {x : Str} {v : V} {u : Value} {pos : Pos} (hg : Gl X x) (hm : X.mg x = some u) (r : RelV v u) (hd : (x == ("__debug__" : Str)) = false := by decide) : PE X (.Name x pos) (tC v) :=
 fun _ _ _ H _ I h => A7 I hg hm ⟨v, H, I, r, h⟩ hd
theorem wK {x : Str} {v : V} {u : Value} {pos : Pos} (hg : Gl X x) (hm : X.mg x = none) (hv : bootBuiltins x = some u) (r : RelV v u) (hn : x ≠ "__name__" := by decide) (hd : (x == ("__debug__" : Str)) = false := by decide) : PE X (.Name x pos) (tC v) :=
 fun _ _ _ H _ I h => pO I hg hm hv ⟨v, H, I, r, h⟩ hn hd
variable {a b : Expr} {ta tb : TE} {pos : Pos}
def PC (X : Cx) (op : CmpOp) (a b : Expr) (t : TE) : Prop :=
 ∀ (pins : List (Addr × Obj)) (s : Shared) (σ : St) (H : Hp) (Q : VK), Inv X pins σ H s -> t σ H Q ->
  wpAny (model X.prog X.w) X.A (eval a X.env) (fun v s₁ => wpAny (model X.prog X.w) X.A (eval b X.env) (fun u s₂ => wpAny (model X.prog X.w) X.A (compareOp op v u) (EP X pins σ Q) X.xe s₂) X.xe s₁) X.xe s
noncomputable def tB (t : TE) : TT := fun σ H Q => t σ H fun x H1 => ∃ c, x = .bl c /\ Q c H1
theorem Em {op : CmpOp} {t : TE} (h : PC X op a b t) (h1 : behindInMarks op b = false := by first | exact nobehind _ (by decide) (by decide) | rfl) : PT X (.Compare a [op] [b] pos) (tB t) := by
 intro pins s σ H Q I hw
 refine wpAny_isTrue_Compare1 (thn (h pins s σ H _ I hw) fun v s1 h1 => thn h1 fun u s2 h2 => thn h2 fun c s3 hpt9 => ?_) h1
 obtain ⟨x, H1, I1, r1, q1⟩ := hpt9
 obtain ⟨d, rfl, q⟩ := q1
 cases r1
 exact wpAny_truthy_bool ⟨H1, I1, q⟩
variable {tA tB' : TT} {dR : List Expr}
noncomputable def I0 (t u : TT) : TT := fun σ H Q => t σ H fun c H1 => if c = true then u σ H1 Q else Q false H1
noncomputable def tOr (t u : TT) : TT := fun σ H Q => t σ H fun c H1 => if c = true then Q true H1 else u σ H1 Q
noncomputable def Im (t : TT) : TT := fun σ H Q => t σ H fun c H1 => Q (!c) H1
theorem ln (ha : PT X a tA) : PW X (.BoolOp .And [a] pos) tA := by
 intro wh pins s σ H Q I h
 refine isTrue_and (thn (ha pins s σ H Q I h) fun c s1 e => ?_)
 cases c with
 | true => exact isTrue_and_nil e
 | false => exact e
theorem sL (ha : PT X a tA) : PW X (.BoolOp .Or [a] pos) tA := by
 intro wh pins s σ H Q I h
 refine isTrue_or (thn (ha pins s σ H Q I h) fun c s1 e => ?_)
 cases c with
 | false => exact isTrue_or_nil e
 | true => exact e
theorem kD (ha : PT X a tA) (hb : PW X (.BoolOp .And (b :: dR) pos) tB') : PW X (.BoolOp .And (a :: b :: dR) pos) (I0 tA tB') := by
 intro wh pins s σ H Q I h
 refine isTrue_and (thn (ha pins s σ H _ I h) fun c s1 hpt9 => ?_)
 obtain ⟨H1, I1, q1⟩ := hpt9
 cases c with
 | true => exact hb wh pins s1 σ H1 Q I1 q1
 | false => exact ⟨H1, I1, q1⟩
theorem nZ (ha : PT X a tA) (hb : PW X (.BoolOp .Or (b :: dR) pos) tB') : PW X (.BoolOp .Or (a :: b :: dR) pos) (tOr tA tB') := by
 intro wh pins s σ H Q I h
 refine isTrue_or (thn (ha pins s σ H _ I h) fun c s1 hpt9 => ?_)
 obtain ⟨H1, I1, q1⟩ := hpt9
 cases c with
 | true => exact ⟨H1, I1, q1⟩
 | false => exact hb wh pins s1 σ H1 Q I1 q1
theorem k7 (ha : PT X a tA) : PT X (.UnaryOp .Not a pos) (Im tA) := by
 intro pins s σ H Q I h
 exact isTrue_not (ha pins s σ H (fun c H1 => Q (!c) H1) I h)
noncomputable def Gw (ta tb : TE) : TE := fun σ H Q => ta σ H fun x H1 => ∃ c, x = .bl c /\ if c = true then tb σ H1 Q else Q (.bl false) H1
theorem HL {op} {t : TE} (h : PE X a t) : PE X (.BoolOp op [a] pos) t := fun pins s σ H Q I hw => BoolOp_one (h pins s σ H Q I hw)
theorem HD (ha : PE X a ta) (hb : PE X (.BoolOp .And (b :: dR) pos) tb) : PE X (.BoolOp .And (a :: b :: dR) pos) (Gw ta tb) := by
 intro pins s σ H Q I h
 refine BoolOp_and (thn (ha pins s σ H _ I h) fun v s1 hpt9 => ?_)
 obtain ⟨x, H1, I1, r1, q1⟩ := hpt9
 obtain ⟨c, rfl, q1⟩ := q1
 cases r1
 refine wpAny_truthy_bool ?_
 cases c with
 | true => exact hb pins s1 σ H1 Q I1 q1
 | false => exact ⟨.bl false, H1, I1, rfl, q1⟩
end
def SqL (K : W.Frag) (H : Hp) (a : Addr) (xs : List V) : Prop :=
 Rd H a (.lst xs) \/
  ∃ (o : Obj) (its : Array Value) (n : Nat), K.lookup a = some o /\ o.cls = .type "list" /\ o.dict = none /\ o.data = .seq its n /\ its.size <= sizeLine /\ Vals xs its.toList
def SqT (K : W.Frag) (H : Hp) (a : Addr) (xs : List V) : Prop :=
 Rd H a (.tup xs) \/
  ∃ (o : Obj) (its : Array Value) (n : Nat), K.lookup a = some o /\ o.cls = .type "tuple" /\ o.data = .seq its n /\ its.size <= sizeLine /\ Vals xs its.toList
noncomputable def Kc : Value -> Option V
 | .none => some .non
 | .bool b => some (.bl b)
 | .int i _ => some (.int i)
 | .str x _ => some (.str x)
 | .bytes b _ => some (.byt b)
 | .float b _ => some (.flt b)
 | .ref a => some (.ref a)
 | .type n => some (.ty n)
 | _ => none
theorem RelV.abs {x : V} {u : Value} (r : RelV x u) : Kc u = some x := by
 cases x with
 | non => cases r; rfl
 | bl _ => cases r; rfl
 | int _ => obtain ⟨t, rfl⟩ := r; rfl
 | str _ => obtain ⟨t, rfl⟩ := r; rfl
 | byt _ => obtain ⟨t, rfl⟩ := r; rfl
 | flt _ => obtain ⟨t, rfl⟩ := r; rfl
 | ref _ => cases r; rfl
 | ty _ => cases r; rfl
theorem RelV.inj {x y : V} {u : Value} (r : RelV x u) (q : RelV y u) : x = y := Ml (r.abs.symm.trans q.abs)
theorem Vals.inj {xs ys : List V} {us : List Value} (h : Vals xs us) (k : Vals ys us) : xs = ys := by
 induction h generalizing ys with
 | nil => cases k; rfl
 | cons r t ih =>
  cases k with
  | cons r' t' => rw [r.inj r', ih t']
section
variable {X : Cx} {pins : List (Addr × Obj)} {σ : St} {H : Hp} {s : Shared} {a : Addr} {xs ys : List V}
theorem SqL.of {K : W.Frag} (h : H a = some (.lst xs)) : SqL K H a xs := .inl (.inl h)
theorem SqT.of {K : W.Frag} (h : H a = some (.tup xs)) : SqT K H a xs := .inl (.inl h)
theorem Inv.list (I : Inv X pins σ H s) (h : SqL X.K H a xs) : ∃ its : List Value, Vals xs its /\ PlainL s.heap a its.toArray /\ xs.length <= sizeLine := by
 rcases h with h | ⟨o, its, n, hk, hc, hd, hs, hz, r⟩
 ·obtain ⟨z, its, n, r, e⟩ := h.ok I.hok
  exact ⟨its, r, ⟨_, n, e, rfl, rfl, rfl⟩, z⟩
 ·refine ⟨its.toList, r, ⟨o, n, I.kIn a o hk, hc, hd, by simpa using hs⟩, ?_⟩
  have e := r.length
  simp only [MQ] at e
  lia
theorem Inv.tuple (I : Inv X pins σ H s) (h : SqT X.K H a xs) : ∃ its : List Value, Vals xs its /\ IsTup s.heap a its.toArray /\ xs.length <= sizeLine := by
 rcases h with h | ⟨o, its, n, hk, hc, hs, hz, r⟩
 ·obtain ⟨z, its, r, p⟩ := h.ok I.hok
  exact ⟨its, r, p, z⟩
 ·refine ⟨its.toList, r, ⟨o, I.kIn a o hk, hc, n, by simpa using hs⟩, ?_⟩
  have e := r.length
  simp only [MQ] at e
  lia
theorem Inv.list_inj (I : Inv X pins σ H s) (h : SqL X.K H a xs) (h' : SqL X.K H a ys) : xs = ys := by
 obtain ⟨its, r, ⟨o, n, e, _, _, d⟩, _⟩ := I.list h
 obtain ⟨its', r', ⟨o', n', e', _, _, d'⟩, _⟩ := I.list h'
 rw [e] at e'; cases e'
 rw [d] at d'
 injection d' with d1 _
 have : its = its' := by simpa using congrArg Array.toList d1
 subst this
 exact r.inj r'
theorem Inv.tuple_inj (I : Inv X pins σ H s) (h : SqT X.K H a xs) (h' : SqT X.K H a ys) : xs = ys := by
 obtain ⟨its, r, ⟨o, e, _, n, d⟩, _⟩ := I.tuple h
 obtain ⟨its', r', ⟨o', e', _, n', d'⟩, _⟩ := I.tuple h'
 rw [e] at e'; cases e'
 rw [d] at d'
 injection d' with d1 _
 have : its = its' := by simpa using congrArg Array.toList d1
 subst this
 exact r.inj r'
end
noncomputable abbrev Cx.wish (X : Cx) (E : Value -> Shared -> Prop) : Cx := { X with xe := E }
noncomputable abbrev Cx.nox (X : Cx) : Cx := X.wish fun _ _ => False
theorem Cx.Ok.wish {X : Cx} (ok : X.Ok) (E : Value -> Shared -> Prop) : (X.wish E).Ok :=
 ⟨ok.mod, ok.kind, ok.glob, ok.blt, ok.above, ok.inj, ok.has, ok.cab, ok.hd, ok.frames, ok.stk, ok.exf, ok.bs, ok.bsz, ok.noex, ok.exfs, ok.funs, ok.frf⟩
theorem Cx.Ok.unwish {X : Cx} {E : Value -> Shared -> Prop} (ok : (X.wish E).Ok) : X.Ok :=
 ⟨ok.mod, ok.kind, ok.glob, ok.blt, ok.above, ok.inj, ok.has, ok.cab, ok.hd, ok.frames, ok.stk, ok.exf, ok.bs, ok.bsz, ok.noex, ok.exfs, ok.funs, ok.frf⟩
section
variable {X : Cx} {pins : List (Addr × Obj)} {σ : St} {H : Hp} {s : Shared} {E : Value -> Shared -> Prop}
theorem Inv.wish (I : Inv X pins σ H s) (E : Value -> Shared -> Prop) : Inv (X.wish E) pins σ H s := ⟨I.ok.wish E, I.os, I.bare, I.base, I.loc, I.cell, I.free, I.freeC, I.pin, I.hok, I.len⟩
theorem Inv.unwish (I : Inv (X.wish E) pins σ H s) : Inv X pins σ H s := ⟨I.ok.unwish, I.os, I.bare, I.base, I.loc, I.cell, I.free, I.freeC, I.pin, I.hok, I.len⟩
theorem SP.unwish {D : Ends} {f : Flow} {s' : Shared} (h : SP (X.wish E) pins D f s') : SP X pins D f s' := by
 cases f with
 | next => obtain ⟨σ', H', I, q⟩ := h; exact ⟨σ', H', I.unwish, q⟩
 | brk => obtain ⟨σ', H', I, q⟩ := h; exact ⟨σ', H', I.unwish, q⟩
 | cont => obtain ⟨σ', H', I, q⟩ := h; exact ⟨σ', H', I.unwish, q⟩
 | ret u => obtain ⟨v, σ', H', I, r, q⟩ := h; exact ⟨v, σ', H', I.unwish, r, q⟩
theorem PSs.nox {st : List Stmt} {t : TS} (h : PSs X.nox st t) : PSs X st t := fun pins s σ H D I hw =>
 wpAny_mono (h pins s σ H D (I.wish _) hw) (fun _ _ q => q.unwish) fun _ _ z => False.elim z
end
section
variable {X : Cx} {st : Stmt} {dR : List Stmt} {t u : TS} {e : Expr} {te : TE} {pos : Pos}
noncomputable def BB : TS := fun D σ H => D.nx σ H
noncomputable def wx (t u : TS) : TS := fun D σ H => t { D with nx := u D } σ H
theorem bK : PSs X [] BB := fun _ _ σ H _ I h => wpAny_execs_nil ⟨σ, H, I, h⟩
theorem ai (h1 : PS X st t) (h2 : PSs X dR u) : PSs X (st :: dR) (wx t u) := by
 intro pins s σ H D I h
 refine wpAny_execs_cons (thn (h1 pins s σ H { D with nx := u D } I h) fun f s1 q => ?_)
 cases f with
 | next =>
  obtain ⟨σ', H', I', q⟩ := q
  exact h2 pins s1 σ' H' D I' q
 | ret v => exact q
 | brk => exact q
 | cont => exact q
theorem ap (h1 : PS X st t) : PSs X [st] t := by
 intro pins s σ H D I h
 refine wpAny_execs_cons (thn (h1 pins s σ H D I h) fun f s1 q => ?_)
 cases f with
 | next => exact wpAny_execs_nil q
 | ret v => exact q
 | brk => exact q
 | cont => exact q
theorem Inv.quiet {pins : List (Addr × Obj)} {σ : St} {H : Hp} {s : Shared} (I : Inv X pins σ H s) : interactive X.env = false := by simp [interactive, I.ok.kind]
noncomputable def vI (te : TE) : TS := fun D σ H => te σ H fun _ H1 => D.nx σ H1
theorem f8 (he : PE X e te) (hs : swapsWith e none pos.line X.env = pure false := by rfl) : PS X (.Expr e pos) (vI te) := by
 intro pins s σ H D I h
 exact wpAny_Expr_any (thn (he pins s σ H _ I h) fun v s1 ⟨x, H1, I1, r1, q1⟩ => ⟨σ, H1, I1, q1⟩) I.quiet hs
noncomputable def CG (te : TE) : TS := fun D σ H => te σ H D.rt
theorem a7 (he : PE X e te) : PS X (.Return (some e) pos) (CG te) := by
 intro pins s σ H D I h
 exact wpAny_Return_some (thn (he pins s σ H _ I h) fun v s1 ⟨x, H1, I1, r1, q1⟩ => ⟨x, σ, H1, I1, r1, q1⟩)
noncomputable def Fw (c : TT) (t u : TS) : TS := fun D σ H => c σ H fun b H1 => if b = true then t D σ H1 else u D σ H1
theorem dm {c : Expr} {a b : List Stmt} {tc : TT} (hc : PT X c tc) (ha : PSs X a t) (hb : PSs X b u) : PS X (.If c a b pos) (Fw tc t u) := by
 intro pins s σ H D I h
 refine wpAny_If (thn (hc pins s σ H _ I h) fun d s1 hpt9 => ?_)
 obtain ⟨H1, I1, q1⟩ := hpt9
 cases d with
 | true => exact ha pins s1 σ H1 D I1 q1
 | false => exact hb pins s1 σ H1 D I1 q1
end
noncomputable abbrev TG := V -> St -> Hp -> (St -> Hp -> Prop) -> Prop
noncomputable abbrev TGs := List V -> St -> Hp -> (St -> Hp -> Prop) -> Prop
def PG (X : Cx) (target : Expr) (t : TG) : Prop :=
 ∀ (pins : List (Addr × Obj)) (s : Shared) (σ : St) (H : Hp) (v : V) (u : Value) (Q : St -> Hp -> Prop), Inv X pins σ H s -> RelV v u -> t v σ H Q ->
  wpAny (model X.prog X.w) X.A (assign target X.env u) (fun _ s' => ∃ σ' H', Inv X pins σ' H' s' /\ Q σ' H') X.xe s
def PGs (X : Cx) (ts : List Expr) (t : TGs) : Prop :=
 ∀ (pins : List (Addr × Obj)) (s : Shared) (σ : St) (H : Hp) (vs : List V) (us : List Value) (Q : St -> Hp -> Prop), Inv X pins σ H s -> Vals vs us -> t vs σ H Q ->
  wpAny (model X.prog X.w) X.A (assignInOrder ((assignEach ts X.env).map (·.2)) us) (fun _ s' => ∃ σ' H', Inv X pins σ' H' s' /\ Q σ' H') X.xe s
noncomputable abbrev GI := V -> V -> V -> Hp -> (Hp -> Prop) -> Prop
def Jg (X : Cx) (t : GI) : Prop :=
 ∀ (pins : List (Addr × Obj)) (s : Shared) (σ : St) (H : Hp) (o i v : V) (ov iv u : Value) (Q : Hp -> Prop), Inv X pins σ H s -> RelV o ov -> RelV i iv -> RelV v u -> t o i v H Q ->
  wpAny (model X.prog X.w) X.A (setItem ov iv u) (fun _ s' => ∃ H', Inv X pins σ H' s' /\ Q H') X.xe s
noncomputable abbrev TIp := V -> V -> Hp -> VK -> Prop
def PIp (X : Cx) (op : Operator) (t : TIp) : Prop :=
 ∀ (pins : List (Addr × Obj)) (s : Shared) (σ : St) (H : Hp) (x y : V) (v u : Value) (Q : VK), Inv X pins σ H s -> RelV x v -> RelV y u -> t x y H Q ->
  wpAny (model X.prog X.w) X.A (inplaceOp op v u) (EP X pins σ Q) X.xe s
section
variable {X : Cx} {pos : Pos}
noncomputable def dY (i : Nat) : TG := fun v σ H Q => Q (σ.set i (some v)) H
theorem aD {i : Nat} {x : Str} (hN : X.N.Nodup) (hi : X.N[i]? = some x) (hx : Loc X.env.scope x) (hf : X.fn x = true \/ X.env.scope.names.lookup x = some .local := by first | exact .inl rfl | exact .inr rfl | assumption) : PG X (.Name x pos) (dY i) := by
 intro pins s σ H v u Q I r h
 exact wpAny_assign_Name (tz I hN hi hx r (fun s' I' => ⟨_, H, I', h⟩) hf)
noncomputable def HG : TGs := fun vs σ H Q => vs = [] /\ Q σ H
noncomputable def D8 (t : TG) (u : TGs) : TGs := fun vs σ H Q => ∃ v r, vs = v :: r /\ t v σ H fun σ' H' => u r σ' H' Q
theorem gu : PGs X [] HG := by
 intro pins s σ H vs us Q I r h
 obtain ⟨e, h⟩ := h
 subst e
 cases r
 exact assignInOrder_nil ⟨σ, H, I, h⟩
theorem bn {e : Expr} {es : List Expr} {t : TG} {u : TGs} (h1 : PG X e t) (h2 : PGs X es u)
  (hs : (assignEach (e :: es) X.env).map (·.2) = assign e X.env :: (assignEach es X.env).map (·.2) := by rfl) : PGs X (e :: es) (D8 t u) := by
 intro pins s σ H vs us Q I r h
 obtain ⟨v, vr, e1, h⟩ := h
 subst e1
 cases r with
 | cons r rr =>
  rw [hs]
  refine assignInOrder_cons (thn (h1 pins s σ H _ _ _ I r h) fun _ s1 hpt9 => ?_)
  obtain ⟨σ1, H1, I1, q1⟩ := hpt9
  exact h2 pins s1 σ1 H1 _ _ Q I1 rr q1
noncomputable def GS (K : W.Frag) (n : Nat) (t : TGs) : TG := fun v σ H Q => ∃ a xs, v = .ref a /\ SqT K H a xs /\ xs.length = n /\ t xs σ H Q
theorem jt {es : List Expr} {k : Nat} {t : TGs} {n : Nat} (hc : X.calm = true) (h : PGs X es t)
  (hn : (assignEach es X.env).length = n := by rfl) (hst : (assignEach es X.env).findIdx? (·.1) = none := by rfl) : PG X (.Tuple es k pos) (GS X.K n t) := by
 intro pins s σ H v u Q I r hw
 obtain ⟨a, xs, e1, hq, hl, hw⟩ := hw
 subst e1
 cases r
 obtain ⟨its, rv, ht, hz⟩ := I.tuple hq
 refine assign_Tuple_tuple (I.ok.hd hc) ht (by simp [hn, <- hl, rv.length]) hst fun h' hx => ?_
 have I1 : Inv X pins σ H { s with heap := h' } := I.kept (t' := s.toks) fun b o e => hx b o (Mi (L5 e)) e
 exact h pins _ σ H xs _ Q I1 (by simpa using rv) hw
noncomputable def HX (to ti : TE) (t : GI) : TG := fun v σ H Q => to σ H fun o H1 => ti σ H1 fun i H2 => t o i v H2 fun H3 => Q σ H3
theorem He {o i : Expr} {to ti : TE} {t : GI} (ho : PE X o to) (hi : PE X i ti) (hs : Jg X t)
  (ha : ∀ v, assign (.Subscript o i pos) X.env v = (do
   let ov ← holding [v] (eval o X.env)
   let iv ← holding [v, ov] (eval i X.env)
   standAt pos
   holding [v, ov, iv] (setItem ov iv v)
   release [v, ov, iv] []) := by intro _; rfl) : PG X (.Subscript o i pos) (HX to ti t) := by
 intro pins s σ H v u Q I r h
 rw [ha]
 refine LQ (My (thn (ho pins s σ H _ I h) fun ov s1 hpt9 => ?_))
 obtain ⟨x, H1, I1, r1, q1⟩ := hpt9
 refine LQ (My (thn (hi pins s1 σ H1 _ I1 q1) fun iv s2 hpt9 => ?_))
 obtain ⟨y, H2, I2, r2, q2⟩ := hpt9
 refine LQ (wpAny_standAt (LQ (My (thn (hs pins s2 σ H2 x y v ov iv u _ I2 r1 r2 r q2) fun _ s3 hpt9 => ?_))))
 obtain ⟨H3, I3, q3⟩ := hpt9
 exact wpAny_release ⟨σ, H3, I3, q3⟩
noncomputable def uz (te : TE) (g : TG) : TS := fun D σ H => te σ H fun x H1 => g x σ H1 D.nx
theorem GW {tg e : Expr} {te : TE} {g : TG} (he : PE X e te) (hg : PG X tg g) (hs : swapsWithSole [tg] e pos.line X.env = pure false := by rfl) (hw : swappedStores [tg] e X.env = pure none := by rfl)
  (h1 : (assignEach [tg] X.env).map (·.2) = [assign tg X.env] := by rfl) : PS X (.Assign [tg] e pos) (uz te g) := by
 intro pins s σ H D I h
 refine wpAny_Assign_stores (thn (he pins s σ H _ I h) fun v s1 hpt9 => ?_) hs hw
 obtain ⟨x, H1, I1, r1, q1⟩ := hpt9
 rw [h1]
 exact thn (hg pins s1 σ H1 x v _ I1 r1 q1) fun _ s2 q => q
theorem aS {i : Nat} {x : Str} {e : Expr} {te : TE} {pos' : Pos} (hN : X.N.Nodup) (hi : X.N[i]? = some x) (hx : Loc X.env.scope x) (he : PE X e te) (hs : swapsWith e (some (.Name x pos')) pos.line X.env = pure false := by rfl) (hf : X.fn x = true \/ X.env.scope.names.lookup x = some .local := by first | exact .inl rfl | exact .inr rfl | assumption) :
  PS X (.Assign [.Name x pos'] e pos) (uz te (dY i)) := by
 intro pins s σ H D I h
 refine wpAny_Assign_Name (thn (he pins s σ H _ I h) fun v s1 hpt9 => ?_) hs
 obtain ⟨y, H1, I1, r1, q1⟩ := hpt9
 exact tz I1 hN hi hx r1 (fun s2 I2 => ⟨_, H1, I2, q1⟩) hf
noncomputable def Jh (i : Nat) (te : TE) (ti : TIp) : TS := fun D σ H => ∃ x, σ[i]? = some (some x) /\ te σ H fun y H1 => ti x y H1 fun z H2 => D.nx (σ.set i (some z)) H2
theorem Hi {i : Nat} {x : Str} {e : Expr} {te : TE} {op : Operator} {ti : TIp} {pos' : Pos} (hN : X.N.Nodup) (hi : X.N[i]? = some x) (hx : Loc X.env.scope x) (he : PE X e te) (ho : PIp X op ti) (hf : X.fn x = true \/ X.env.scope.names.lookup x = some .local := by first | exact .inl rfl | exact .inr rfl | assumption) :
  PS X (.AugAssign (.Name x pos') op e pos) (Jh i te ti) := by
 intro pins s σ H D I h
 obtain ⟨v, e1, h⟩ := h
 obtain ⟨m, hn, hl⟩ := I.loc
 have vis : Vis X.env.scope x := by rcases hx with k | k; exact .inl k; exact .inr (.inl k)
 obtain ⟨u, r, l⟩ := hl i x v hi e1 vis
 refine wpAny_AugAssign_Name ?_
 have go : wpAny (model X.prog X.w) X.A (eval e X.env) (fun w s₂ => wpAny (model X.prog X.w) X.A (inplaceOp op u w) (fun r s₃ => wpAny (model X.prog X.w) X.A (storeName X.env x r) (fun _ => SP X pins D .next) X.xe s₃) X.xe s₂) X.xe s := by
  refine thn (he pins s σ H _ I h) fun w s1 hpt9 => ?_
  obtain ⟨y, H1, I1, r1, q1⟩ := hpt9
  refine thn (ho pins s1 σ H1 v y u w _ I1 r r1 q1) fun z s2 hpt9 => ?_
  obtain ⟨zv, H2, I2, r2, q2⟩ := hpt9
  exact tz I2 hN hi hx r2 (fun s3 I3 => ⟨_, H2, I3, q2⟩) hf
 rcases l with ⟨hk, hm⟩ | ⟨hk, c, hc, hcell⟩
 ·exact wpAny_loadName_local I.ok.kind hk hn hm go
 ·rcases hk with hk | hk
  ·exact wpAny_loadName_cell I.ok.kind hk hc hcell go
  ·rcases hx with k | k
   ·have : X.env.scope.names.lookup x = some .free := hk
    rw [k] at this; cases this
   ·have : X.env.scope.names.lookup x = some .free := hk
    rw [k] at this; cases this
noncomputable def ipI (f : Int -> Int -> Int) : TIp := fun x y H Q => ∃ i j, x = .int i /\ y = .int j /\ Q (.int (f i j)) H
theorem GU : PIp X .Add (ipI fun i j => i + j) := by
 intro pins s σ H x y v u Q I r1 r2 h
 obtain ⟨i, j, e1, e2, q⟩ := h
 subst e1; subst e2
 obtain ⟨t, rfl⟩ := r1
 obtain ⟨t', rfl⟩ := r2
 exact iadd_int ⟨.int _, H, I.tok _, ⟨_, rfl⟩, q⟩
end
section
variable {X : Cx} {pos : Pos}
noncomputable def EN (c : TT) (tb : TS) : TS := fun D σ H => ∃ W : Nat -> St -> Hp -> Prop, (∃ m, W m σ H) /\ ∀ m σ H, W m σ H ->
 c σ H fun b H1 => if b = true then ∃ N : St -> Hp -> Prop, (∀ σ' H', N σ' H' -> ∃ m', m' < m /\ W m' σ' H') /\ tb { D with nx := N, ct := N, bk := D.nx } σ H1 else D.nx σ H1
theorem sX {c : Expr} {body : List Stmt} {tc : TT} {tb : TS} (hp : PassesOwn (model X.prog X.w) X.A X.env X.xe) (hc : PT X c tc) (hb : PSs X body tb) : PS X (.While c body [] pos) (EN tc tb) := by
 intro pins s σ H D I h
 obtain ⟨W, ⟨m0, w0⟩, turn⟩ := h
 refine wpAny_While (codeAny_whileLoop (fun n s' => ∃ σ' H', Inv X pins σ' H' s' /\ W n σ' H') ?_ m0 ⟨σ, H, I, w0⟩)
 rintro n s1 ⟨σ1, H1, I1, w1⟩
 refine wpAny_passesOwn hp (thn (hc pins s1 σ1 H1 _ I1 (turn n σ1 H1 w1)) fun b s2 hpt9 => ?_)
 obtain ⟨H2, I2, q2⟩ := hpt9
 cases b with
 | true =>
  obtain ⟨N, hN, q2⟩ := q2
  rw [LO rfl]
  refine wpAny_passesOwn hp (thn (hb pins s2 σ1 H2 _ I2 q2) fun f s3 q3 => ?_)
  cases f with
  | next =>
   obtain ⟨σ3, H3, I3, n3⟩ := q3
   obtain ⟨m', hm, w3⟩ := hN σ3 H3 n3
   exact ⟨m', hm, σ3, H3, I3, w3⟩
  | cont =>
   obtain ⟨σ3, H3, I3, n3⟩ := q3
   obtain ⟨m', hm, w3⟩ := hN σ3 H3 n3
   exact ⟨m', hm, σ3, H3, I3, w3⟩
  | brk => exact q3
  | ret v => exact q3
 | false =>
  rw [LP MH]
  exact wpAny_execs_nil ⟨σ1, H2, I2, q2⟩
end
structure It where
 go : Nat -> Hp -> Prop
 yld : Nat -> Hp -> V -> Hp -> Prop
 stop : Nat -> Hp -> Prop
def rS (X : Cx) (pins : List (Addr × Obj)) (H : Hp) (b : Addr) : Prop :=
 H b = none /\ b ≠ X.env.locals /\ b ∉ X.fs /\ (b ∈ X.ex \/ X.s₀.heap.objs.size <= b) /\ (∀ x c, X.env.cells.lookup x = some c -> c ≠ b) /\ ∀ p ∈ X.pn ++ pins, p.1 ≠ b
theorem Inv.fpOk {X : Cx} {pins : List (Addr × Obj)} {σ : St} {H H' : Hp} {s : Shared} {b : Addr} (I : Inv X pins σ H s) (hb : s.heap.objs.size <= b) (hn : H' b = none) : rS X pins H' b := by
 refine ⟨hn, Nat.ne_of_gt (Mp I.lt hb), I.nofs hb, .inr (Mm I.sz hb), fun x c e z => ?_, fun p hp z => ?_⟩
 ·obtain ⟨v, q⟩ := I.cell x c e
  exact absurd (Mp q.lt (by rw [z]; exact hb)) (Nat.lt_irrefl _)
 ·exact absurd (Mp (L5 (I.pin p hp).1) (by rw [z]; exact hb)) (Nat.lt_irrefl _)
structure Turn (P : Program) (w : World) (K : W.Frag) (tg : Expr) (J : It) (fp : List Addr) (it : Addr) (tn : Nat -> Heap -> Prop) : Prop where
 mem : it ∈ fp
 obj : ∀ i h, tn i h -> ∀ b ∈ fp, ∃ o, h.get? b = some o /\ ∀ v, o.data ≠ .cell v
 keep : ∀ i h h', tn i h -> (∀ b ∈ fp, ∀ o, h.get? b = some o -> h'.get? b = some o) -> tn i h'
 item : ∀ (X : Cx), X.prog = P -> X.w = w -> X.K = K -> X.calm = true -> ∀ (i : Nat) (pins : List (Addr × Obj)) (s : Shared) (σ : St) (H : Hp) (E : Value -> Shared -> Prop), Inv X pins σ H s -> (∀ b ∈ fp, rS X pins H b) -> tn i s.heap -> J.go i H ->
  wpAny (model P w) X.A (pyNext (.ref it)) (fun r s1 => ∃ u, r = some u /\
   wpAny (model P w) X.A (letOwnedTupleGo tg (.ref it) u) (fun _ s2 => ∃ x H', Inv X pins σ H' s2 /\ RelV x u /\ J.yld i H x H' /\ tn (i + 1) s2.heap /\ ∀ b ∈ fp, H' b = none) E s1) E s
 done : ∀ (X : Cx), X.prog = P -> X.w = w -> X.K = K -> X.calm = true -> ∀ (i : Nat) (pins : List (Addr × Obj)) (s : Shared) (σ : St) (H : Hp) (E : Value -> Shared -> Prop), Inv X pins σ H s -> (∀ b ∈ fp, rS X pins H b) -> tn i s.heap -> J.stop i H ->
  wpAny (model P w) X.A (pyNext (.ref it)) (fun r s1 => r = none /\ Inv X pins σ H s1) E s
 self : ∀ (A : Around) (i : Nat) (s : Shared) (Q : Value -> Shared -> Prop) (E : Value -> Shared -> Prop), tn i s.heap -> Q (.ref it) s -> wpAny (model P w) A (pyIter (.ref it)) Q E s
noncomputable abbrev TI := St -> Hp -> (It -> Hp -> Prop) -> Prop
def PIE (X : Cx) (pins : List (Addr × Obj)) (σ : St) (tg : Expr) (R : It -> Hp -> Prop) (itv : Value) (s2 : Shared) : Prop :=
 ∃ (it : Addr) (fp : List Addr) (tn : Nat -> Heap -> Prop) (J : It) (H' : Hp), itv = .ref it /\ Inv X pins σ H' s2 /\ Turn X.prog X.w X.K tg J fp it tn /\ tn 0 s2.heap /\ (∀ b ∈ fp, rS X pins H' b) /\ R J H'
def PI (X : Cx) (tg iter : Expr) (wi : TI) : Prop :=
 ∀ (pins : List (Addr × Obj)) (s : Shared) (σ : St) (H : Hp) (R : It -> Hp -> Prop), Inv X pins σ H s -> wi σ H R ->
  wpAny (model X.prog X.w) X.A (eval iter X.env) (fun v s1 => wpAny (model X.prog X.w) X.A (pyIter v) (PIE X pins σ tg R) X.xe s1) X.xe s
theorem Bn {M : Model} {A : Around} {E : Value -> Shared -> Prop} {s : Shared} {tg : Expr} {it : Addr} {u : Value} {o : Obj} {n : String} {vs : Array Value} {Q : Unit -> Shared -> Prop} (ho : s.heap.get? it = some o) (hc : o.cls = .type n) (hd : o.data = .fields vs)
  (hn : ["enumerate", "zip", "dict_itemiterator", "dict_reverseitemiterator", "odict_iterator", "itertools.zip_longest", "itertools.pairwise"].contains n = false) (hQ : Q () s) : wpAny M A (letOwnedTupleGo tg (.ref it) u) Q E s := by
 unfold letOwnedTupleGo
 cases tg <;> first
  | exact LS hQ
  | (cases u <;> first
    | exact LS hQ
    | (refine LQ (wpAny_load ho ?_)
       rw [hc, hd]
       show wpAny M A (if (["enumerate", "zip", "dict_itemiterator", "dict_reverseitemiterator", "odict_iterator", "itertools.zip_longest", "itertools.pairwise"].contains n && vs[0]? == some (rawInt _)) = true then _ else _) Q E s
       rw [LP (by intro h; rw [hn, Bool.false_and] at h; cases h)]
       exact LS hQ))
noncomputable def Itl (K : W.Frag) (a : Addr) : It :=
 ⟨fun i H => ∃ xs x, SqL K H a xs /\ xs[i]? = some x, fun i H x H' => H' = H /\ ∀ xs, SqL K H a xs -> xs[i]? = some x, fun i H => ∃ xs, SqL K H a xs /\ xs.length <= i⟩
noncomputable def Itt (K : W.Frag) (a : Addr) : It :=
 ⟨fun i H => ∃ xs x, SqT K H a xs /\ xs[i]? = some x, fun i H x H' => H' = H /\ ∀ xs, SqT K H a xs -> xs[i]? = some x, fun i H => ∃ xs, SqT K H a xs /\ xs.length <= i⟩
noncomputable def Itr (lo : Int) (n : Nat) : It := ⟨fun i _ => i < n, fun i H x H' => H' = H /\ x = .int (lo + i), fun i _ => n <= i⟩
theorem CQ {P : Program} {w : World} {K : W.Frag} {tg : Expr} (a it : Addr) : Turn P w K tg (Itl K a) [it] it (fun i h => h.IsListIter it a i) where
 mem := by simp
 obj := fun i h st b hb => by
  have e : b = it := by simpa using hb
  subst e
  obtain ⟨o, e, c, d⟩ := st
  exact ⟨o, e, fun v z => by rw [d] at z; cases z⟩
 keep := fun i h h' st k => st.at fun o e => k it (by simp) o e
 item := by
  intro X hP hw hK hc i pins s σ H E I hf st hg
  subst hP hw hK
  obtain ⟨xs, x, hq, hx⟩ := hg
  obtain ⟨its, rv, p, hz⟩ := I.list hq
  obtain ⟨u, hu, ru⟩ := rv.get hx
  obtain ⟨f0, f1, f2, f3, f4, f5⟩ := hf it (by simp)
  refine wpAny_pyNext_list_item st p.isList (x := u) (by simpa using hu) fun h' st' sb => ?_
  have I1 : Inv X pins σ H { s with heap := h' } := I.turned (t' := s.toks) (fun b o hb e => (sb.2 b hb).trans e) f0 f1 f3 f4 f5
  obtain ⟨o, e, c, d⟩ := id st'
  exact ⟨u, rfl, Bn (s := { s with heap := h' }) e c d (by decide) ⟨x, H, I1, ru, ⟨rfl, fun ys hy => by rw [I.list_inj hy hq]; exact hx⟩, st', fun b hb => (hf b hb).1⟩⟩
 done := by
  intro X hP hw hK hc i pins s σ H E I hf st hg
  subst hP hw hK
  obtain ⟨xs, hq, hx⟩ := hg
  obtain ⟨its, rv, p, hz⟩ := I.list hq
  obtain ⟨f0, f1, f2, f3, f4, f5⟩ := hf it (by simp)
  have hl := rv.length
  exact wpAny_pyNext_list_end (I.ok.hd hc) st p.isList (by simp; lia) fun h' eb => ⟨rfl, I.turned (t' := s.toks) (fun b o hb e => eb b o hb e) f0 f1 f3 f4 f5⟩
 self := fun _ _ _ _ _ st h => wpAny_pyIter_listiter st h
theorem Ad {P : Program} {w : World} {K : W.Frag} {tg : Expr} (a it : Addr) : Turn P w K tg (Itt K a) [it] it (fun i h => h.IsTupleIter it a i) where
 mem := by simp
 obj := fun i h st b hb => by
  have e : b = it := by simpa using hb
  subst e
  obtain ⟨o, e, c, d⟩ := st
  exact ⟨o, e, fun v z => by rw [d] at z; cases z⟩
 keep := fun i h h' st k => st.at fun o e => k it (by simp) o e
 item := by
  intro X hP hw hK hc i pins s σ H E I hf st hg
  subst hP hw hK
  obtain ⟨xs, x, hq, hx⟩ := hg
  obtain ⟨its, rv, p, hz⟩ := I.tuple hq
  obtain ⟨u, hu, ru⟩ := rv.get hx
  obtain ⟨f0, f1, f2, f3, f4, f5⟩ := hf it (by simp)
  refine wpAny_pyNext_tuple_item st (show s.heap.IsTuple a its.toArray from p) (x := u) (by simpa using hu) fun h' st' sb => ?_
  have I1 : Inv X pins σ H { s with heap := h' } := I.turned (t' := s.toks) (fun b o hb e => (sb.2 b hb).trans e) f0 f1 f3 f4 f5
  obtain ⟨o, e, c, d⟩ := id st'
  exact ⟨u, rfl, Bn (s := { s with heap := h' }) e c d (by decide) ⟨x, H, I1, ru, ⟨rfl, fun ys hy => by rw [I.tuple_inj hy hq]; exact hx⟩, st', fun b hb => (hf b hb).1⟩⟩
 done := by
  intro X hP hw hK hc i pins s σ H E I hf st hg
  subst hP hw hK
  obtain ⟨xs, hq, hx⟩ := hg
  obtain ⟨its, rv, p, hz⟩ := I.tuple hq
  obtain ⟨f0, f1, f2, f3, f4, f5⟩ := hf it (by simp)
  have hl := rv.length
  exact wpAny_pyNext_tuple_end (I.ok.hd hc) st (show s.heap.IsTuple a its.toArray from p) (by simp; lia) fun h' eb => ⟨rfl, I.turned (t' := s.toks) (fun b o hb e => eb b o hb e) f0 f1 f3 f4 f5⟩
 self := fun _ _ _ _ _ st h => wpAny_pyIter_tupleiter st h
theorem Ak {P : Program} {w : World} {K : PySem.W.Frag} {tg : Expr} (it : Addr) (lo : Int) (n : Nat) : Turn P w K tg (Itr lo n) [it] it (fun i h => IsRangeIter h it (lo + (i : Nat) * 1) ((n : Int) - (i : Nat)) 1) where
 mem := by simp
 obj := fun i h st b hb => by
  have e : b = it := by simpa using hb
  subst e
  exact ⟨_, st, fun v z => by
   have z' : Data.fields _ = Data.cell v := z
   cases z'⟩
 keep := fun i h h' st k => k it (by simp) _ st
 item := by
  intro X hP hw hK hc i pins s σ H E I hf st hg
  subst hP hw hK
  obtain ⟨f0, f1, f2, f3, f4, f5⟩ := hf it (by simp)
  have W := Walks.range (prog := X.prog) (w := X.w) (I.ok.hd hc) it lo 1 n
  refine W.item i s _ _ hg st fun v h' tk hv st' kk => ?_
  obtain ⟨t, rfl⟩ := hv
  have I1 : Inv X pins σ H { s with heap := h', toks := tk } := I.turned (fun b o hb e => kk b o (by simpa using hb) e) f0 f1 f3 f4 f5
  refine ⟨_, rfl, Bn (s := { s with heap := h', toks := tk }) (n := "range_iterator") st' rfl rfl (by decide) ⟨.int (lo + i), H, I1, ⟨t, ?_⟩, ⟨rfl, rfl⟩, st', fun b hb => (hf b hb).1⟩⟩
  rw [Int.mul_one]
 done := by
  intro X hP hw hK hc i pins s σ H E I hf st hg
  subst hP hw hK
  obtain ⟨f0, f1, f2, f3, f4, f5⟩ := hf it (by simp)
  exact wpAny_pyNext_range_end (I.ok.hd hc) st (by have : n <= i := hg; lia) fun h' eb => ⟨rfl, I.turned (t' := s.toks) (fun b o hb e => eb b o hb e) f0 f1 f3 f4 f5⟩
 self := fun _ _ _ _ _ st h => wpAny_pyIter_rangeiter st h
section
variable {X : Cx} {tg : Expr}
theorem xU {pins : List (Addr × Obj)} {σ : St} {H : Hp} {s : Shared} {R : It -> Hp -> Prop} {E : Value -> Shared -> Prop} {lo hi : Int} {t u v : Tok} {tk : Nat} (I : Inv X pins σ H s) (h1 : -(2 ^ 62) <= lo) (h2 : lo < 2 ^ 62) (h3 : -(2 ^ 62) <= hi) (h4 : hi < 2 ^ 62)
  (q : R (Itr lo (hi - lo).toNat) H) : wpAny (model X.prog X.w) X.A (pyIter (.ref s.heap.objs.size)) (PIE X pins σ tg R) E { s with heap := s.heap.push { cls := .type "range", data := .fields #[.int lo t, .int hi u, .int 1 v] }, toks := tk } := by
 refine wpAny_pyIter_range (IsRange.new ..) (small_one h1 h2 h3 h4) ?_
 have I1 : Inv X pins σ H { s with heap := s.heap.push { cls := .type "range", data := .fields #[.int lo t, .int hi u, .int 1 v] }, toks := tk } := I.kept fun b o e => Mg _ e
 refine ⟨(s.heap.push { cls := .type "range", data := .fields #[.int lo t, .int hi u, .int 1 v] }).objs.size, [(s.heap.push { cls := .type "range", data := .fields #[.int lo t, .int hi u, .int 1 v] }).objs.size], _, _, H, rfl,
  I1.kept (t' := tk) fun b o e => Mg _ e, Ak _ lo (hi - lo).toNat, ?_, fun b hb => ?_, q⟩
 ·have e1 : lo + ((0 : Nat) : Int) * 1 = lo := by simp
  have e2 : (((hi - lo).toNat : Nat) : Int) - ((0 : Nat) : Int) = Builtin.Range.rangeSize lo hi 1 := by rw [rangeSize_one]; split <;> lia
  show IsRangeIter _ _ (lo + ((0 : Nat) : Int) * 1) ((((hi - lo).toNat : Nat) : Int) - ((0 : Nat) : Int)) 1
  rw [e1, e2]
  exact Mu _ rfl
 ·have e : b = (s.heap.push { cls := .type "range", data := .fields #[.int lo t, .int hi u, .int 1 v] }).objs.size := by simpa using hb
  subst e
  exact I1.fpOk (LU _) (I1.hok.fresh (LU _))
noncomputable def Ga (ta : TA) : TI := fun σ H R => ta σ H fun vs H1 => ∃ j : Int, vs = [.int j] /\ -(2 ^ 62) <= j /\ j < 2 ^ 62 /\ R (Itr 0 j.toNat) H1
noncomputable def Gn (ta : TA) : TI := fun σ H R => ta σ H fun vs H1 => ∃ i j : Int, vs = [.int i, .int j] /\ (-(2 ^ 62) <= i /\ i < 2 ^ 62 /\ -(2 ^ 62) <= j /\ j < 2 ^ 62) /\ R (Itr i (j - i).toNat) H1
theorem gG {a : Expr} {ta : TA} {p pos : Pos} (hg : Gl X "range") (hm : X.mg "range" = none) (ha : PA X [a] ta) (hs : starEach [a] X.env = [(false, eval a X.env)] := by rfl) : PI X tg (.Call (.Name "range" p) [a] [] pos) (Ga ta) := by
 intro pins s σ H R I h
 refine Call_ (pO I hg hm boot_range (PyProof.Rows.callWith_type1 (thn (ha pos pins s σ H _ I h) fun us s1 hpt9 => ?_) hs rfl))
 obtain ⟨vs, H1, I1, r1, q1⟩ := hpt9
 obtain ⟨j, e, q1, q2, q⟩ := q1
 subst e
 cases r1 with
 | cons r rr =>
  cases rr
  obtain ⟨t, rfl⟩ := r
  exact call_range_1 (xU I1 (by lia) (by lia) q1 q2 (by simpa using q))
theorem u5 {a b : Expr} {ta : TA} {p pos : Pos} (hg : Gl X "range") (hm : X.mg "range" = none) (ha : PA X [a, b] ta) (hs : starEach [a, b] X.env = [(false, eval a X.env), (false, eval b X.env)] := by rfl) (hs2 : starEach [b] X.env = [(false, eval b X.env)] := by rfl) :
  PI X tg (.Call (.Name "range" p) [a, b] [] pos) (Gn ta) := by
 intro pins s σ H R I h
 refine Call_ (pO I hg hm boot_range (PyProof.Rows.callWith_type1 (thn (ha pos pins s σ H _ I h) fun us s1 hpt9 => ?_) (by rw [hs, hs2]) (by rw [hs2]; rfl)))
 obtain ⟨vs, H1, I1, r1, q1⟩ := hpt9
 obtain ⟨i, j, e, ⟨q1, q2, q3, q4⟩, q⟩ := q1
 subst e
 cases r1 with
 | cons r rr =>
  cases rr with
  | cons r' rr =>
   cases rr
   obtain ⟨t, rfl⟩ := r
   obtain ⟨t', rfl⟩ := r'
   exact call_range_2 (xU I1 q1 q2 q3 q4 q)
noncomputable def Cy (wi : TI) (g : TG) (tb : TS) : TS := fun D σ H => wi σ H fun J H1 => ∃ W : Nat -> Nat -> St -> Hp -> Prop, (∃ m, W 0 m σ H1) /\ ∀ i m σ H, W i m σ H ->
 (J.stop i H /\ D.nx σ H) \/ (J.go i H /\ ∃ N : St -> Hp -> Prop, (∀ σ' H', N σ' H' -> ∃ m', m' < m /\ W (i + 1) m' σ' H') /\ ∀ x H', J.yld i H x H' -> g x σ H' fun σ2 H2 => tb { D with nx := N, ct := N, bk := D.nx } σ2 H2)
noncomputable def pq (fp : List Addr) (h : Heap) : List (Addr × Obj) := fp.filterMap fun b => (h.get? b).map fun o => (b, o)
theorem gP {fp : List Addr} {h : Heap} {b : Addr} {o : Obj} (hb : b ∈ fp) (e : h.get? b = some o) : (b, o) ∈ pq fp h := List.mem_filterMap.mpr ⟨b, hb, by rw [e]; rfl⟩
theorem CT {fp : List Addr} {h : Heap} {p : Addr × Obj} (hp : p ∈ pq fp h) : p.1 ∈ fp /\ h.get? p.1 = some p.2 := by
 obtain ⟨b, hb, e⟩ := List.mem_filterMap.mp hp
 cases q : h.get? b with
 | none => rw [q] at e; cases e
 | some o =>
  rw [q] at e
  have e' : (b, o) = p := Ml e
  subst e'
  exact ⟨hb, q⟩
theorem Inv.pinned {pins : List (Addr × Obj)} {σ : St} {H : Hp} {s : Shared} {fp : List Addr} (I : Inv X pins σ H s) (hf : ∀ b ∈ fp, rS X pins H b) (ho : ∀ b ∈ fp, ∃ o, s.heap.get? b = some o /\ ∀ v, o.data ≠ .cell v) : Inv X (pins ++ pq fp s.heap) σ H s :=
 I.pins_of fun p hp => (Mb.mp hp).elim (fun z => I.pin p (L0 _ z)) fun z => by
  obtain ⟨hb, e⟩ := CT z
  obtain ⟨f0, f1, f2, _⟩ := hf p.1 hb
  obtain ⟨o, e', d⟩ := ho p.1 hb
  rw [e] at e'; cases e'
  exact ⟨e, f0, f1, f2, d⟩
theorem Inv.unpinned {pins pl : List (Addr × Obj)} {σ : St} {H : Hp} {s : Shared} (I : Inv X (pins ++ pl) σ H s) : Inv X pins σ H s := I.pins_of fun p hp => I.pin p (L0 _ (Me _ hp))
theorem c6 {iter : Expr} {body : List Stmt} {wi : TI} {g : TG} {tb : TS} {pos : Pos} (hp : PassesOwn (model X.prog X.w) X.A X.env X.xe) (hc : X.calm = true) (hi : PI X tg iter wi) (hg : PG X tg g) (hb : PSs X body tb)
  (hs : ∀ x, foldedSetIterable iter X.env x = pure x := by intro _; rfl) : PS X (.For tg iter body [] pos) (Cy wi g tb) := by
 intro pins s σ H D I h
 refine wpAny_For (thn (hi pins s σ H _ I h) fun v s1 h1 => thn h1 fun itv s2 h2 => ?_) hs
 obtain ⟨it, fp, tn, J, H2, e, I2, T, st2, f2, W, ⟨m0, w0⟩, turn⟩ := h2
 subst e
 -- what stays true of the iterator's objects through the loop
 have stat : ∀ {H' : Hp}, (∀ b ∈ fp, H' b = none) -> ∀ b ∈ fp, rS X pins H' b := fun hn b hb => ⟨hn b hb, (f2 b hb).2⟩
 refine codeAny_forLoop_any (fun n s' => ∃ i σ' H', Inv X pins σ' H' s' /\ tn i s'.heap /\ (∀ b ∈ fp, H' b = none) /\ W i n σ' H') ?_ m0 ⟨0, σ, H2, I2, st2, fun b hb => (f2 b hb).1, w0⟩
 rintro n s3 ⟨i, σ3, H3, I3, st3, fr3, w3⟩
 rcases turn i n σ3 H3 w3 with ⟨stop, qn⟩ | ⟨go, N, hN, step⟩
 ·refine wpAny_passesOwn hp (thn (T.done X rfl rfl rfl hc i pins s3 σ3 H3 X.xe I3 (stat fr3) st3 stop) fun r s4 ⟨hr, I4⟩ => ?_)
  subst hr
  exact wpAny_execs_nil ⟨σ3, H3, I4, qn⟩
 ·refine wpAny_passesOwn hp (thn (T.item X rfl rfl rfl hc i pins s3 σ3 H3 X.xe I3 (stat fr3) st3 go) fun r s4 ⟨u, hr, h4⟩ => ?_)
  subst hr
  refine wpAny_passesOwn hp (thn h4 fun _ s5 hpt9 => ?_)
  obtain ⟨x, H5, I5, r5, y5, st5, fr5⟩ := hpt9
  have I5' := I5.pinned (stat fr5) (T.obj _ _ st5)
  refine wpAny_passesOwn hp (thn (hg _ s5 σ3 H5 x u _ I5' r5 (step x H5 y5)) fun _ s6 hpt9 => ?_)
  obtain ⟨σ6, H6, I6, q6⟩ := hpt9
  refine wpAny_passesOwn hp (thn (hb _ s6 σ6 H6 _ I6 q6) fun f s7 q7 => ?_)
  have again : ∀ {σ7 : St} {H7 : Hp}, Inv X (pins ++ pq fp s5.heap) σ7 H7 s7 -> N σ7 H7 -> ∃ m, m < n /\ ∃ i σ' H', Inv X pins σ' H' s7 /\ tn i s7.heap /\ (∀ b ∈ fp, H' b = none) /\ W i m σ' H' := fun {σ7 H7} I7 n7 => by
   obtain ⟨m', hm, w7⟩ := hN σ7 H7 n7
   refine ⟨m', hm, i + 1, σ7, H7, I7.unpinned, T.keep _ _ _ st5 fun b hb o e => (I7.pin (b, o) (L0 _ (L0 _ (gP hb e)))).1, fun b hb => ?_, w7⟩
   obtain ⟨o, e, d⟩ := T.obj _ _ st5 b hb
   exact (I7.pin (b, o) (L0 _ (L0 _ (gP hb e)))).2.1
  cases f with
  | next => obtain ⟨σ7, H7, I7, n7⟩ := q7; exact again I7 n7
  | cont => obtain ⟨σ7, H7, I7, n7⟩ := q7; exact again I7 n7
  | brk => obtain ⟨σ7, H7, I7, q7⟩ := q7; exact ⟨σ7, H7, I7.unpinned, q7⟩
  | ret v => obtain ⟨x7, σ7, H7, I7, r7, q7⟩ := q7; exact ⟨x7, σ7, H7, I7.unpinned, r7, q7⟩
end
noncomputable abbrev R2 := V -> V -> Hp -> VK -> Prop
def OpR (X : Cx) (f : Value -> Value -> Sem Value) (r : R2) : Prop :=
 ∀ (pins : List (Addr × Obj)) (s : Shared) (σ : St) (H : Hp) (x y : V) (v u : Value) (Q : VK), Inv X pins σ H s -> RelV x v -> RelV y u -> r x y H Q ->
  wpAny (model X.prog X.w) X.A (f v u) (EP X pins σ Q) X.xe s
def UnR (X : Cx) (f : Value -> Sem Value) (r : V -> Hp -> VK -> Prop) : Prop :=
 ∀ (pins : List (Addr × Obj)) (s : Shared) (σ : St) (H : Hp) (x : V) (v : Value) (Q : VK), Inv X pins σ H s -> RelV x v -> r x H Q ->
  wpAny (model X.prog X.w) X.A (f v) (EP X pins σ Q) X.xe s
def CallR (X : Cx) (f : Value) (r : List V -> Hp -> VK -> Prop) : Prop :=
 ∀ (pins : List (Addr × Obj)) (s : Shared) (σ : St) (H : Hp) (xs : List V) (us : List Value) (Q : VK), Inv X pins σ H s -> Vals xs us -> r xs H Q ->
  wpAny (model X.prog X.w) X.A (call f us) (EP X pins σ Q) X.xe s
def Kk (X : Cx) (r : V -> Hp -> (Bool -> Hp -> Prop) -> Prop) : Prop :=
 ∀ (pins : List (Addr × Obj)) (s : Shared) (σ : St) (H : Hp) (x : V) (v : Value) (Q : Bool -> Hp -> Prop), Inv X pins σ H s -> RelV x v -> r x H Q ->
  wpAny (model X.prog X.w) X.A (truthy v) (TP X pins σ Q) X.xe s
noncomputable def tOp (r : R2) (ta tb : TE) : TE := fun σ H Q => ta σ H fun x H1 => tb σ H1 fun y H2 => r x y H2 Q
noncomputable def tUn (r : V -> Hp -> VK -> Prop) (ta : TE) : TE := fun σ H Q => ta σ H fun x H1 => r x H1 Q
noncomputable def rI (C : Int -> Int -> Prop) (g : Int -> Int -> V) : R2 := fun x y H Q => ∃ i j, x = .int i /\ y = .int j /\ C i j /\ Q (g i j) H
noncomputable def rI0 (g : Int -> Int -> V) : R2 := fun x y H Q => ∃ i j, x = .int i /\ y = .int j /\ Q (g i j) H
noncomputable def rU (g : Int -> V) : V -> Hp -> VK -> Prop := fun x H Q => ∃ i, x = .int i /\ Q (g i) H
section
variable {X : Cx} {a b c : Expr} {ta tb tc : TE} {pos : Pos}
theorem Hu (ha : PE X a ta) (hb : PE X b tb) {pins : List (Addr × Obj)} {s : Shared} {σ : St} {H : Hp} {R : V -> V -> Hp -> Prop} (I : Inv X pins σ H s)
  (h : ta σ H fun x H1 => tb σ H1 fun y H2 => R x y H2) {Q : Value -> Shared -> Prop} {f : Value -> Value -> Sem Value}
  (hf : ∀ v u s2 x y H2, Inv X pins σ H2 s2 -> RelV x v -> RelV y u -> R x y H2 -> wpAny (model X.prog X.w) X.A (f v u) Q X.xe s2) :
  wpAny (model X.prog X.w) X.A (eval a X.env) (fun v s₁ => wpAny (model X.prog X.w) X.A (eval b X.env) (fun u s₂ => wpAny (model X.prog X.w) X.A (f v u) Q X.xe s₂) X.xe s₁) X.xe s := by
 refine thn (ha pins s σ H _ I h) fun v s1 hpt9 => ?_
 obtain ⟨x, H1, I1, r1, q1⟩ := hpt9
 refine thn (hb pins s1 σ H1 _ I1 q1) fun u s2 hpt9 => ?_
 obtain ⟨y, H2, I2, r2, q2⟩ := hpt9
 exact hf v u s2 x y H2 I2 r1 r2 q2
theorem aN {op : Operator} {r : R2} (ho : OpR X (binaryOp op) r) (ha : PE X a ta) (hb : PE X b tb) : PE X (.BinOp a op b pos) (tOp r ta tb) := by
 intro pins s σ H Q I h
 exact wpAny_BinOp (Hu ha hb I h fun v u s2 x y H2 I2 rx ry q => ho pins s2 σ H2 x y v u Q I2 rx ry q)
theorem uN {op : UnaryOp} {r : V -> Hp -> VK -> Prop} (ho : UnR X (unaryOp op) r) (ha : PE X a ta) : PE X (.UnaryOp op a pos) (tUn r ta) := by
 intro pins s σ H Q I h
 exact UnaryOp_ (thn (ha pins s σ H _ I h) fun v s1 ⟨x, H1, I1, r1, q1⟩ => ho pins s1 σ H1 x v Q I1 r1 q1)
theorem opI {f : Value -> Value -> Sem Value} {C : Int -> Int -> Prop} {g : Int -> Int -> Int}
  (rule : ∀ (i j : Int) (t u : Tok) (s : Shared) (Q : Value -> Shared -> Prop) (E : Value -> Shared -> Prop), C i j -> Q (.int (g i j) s.toks) { s with toks := s.toks + 1 } -> wpAny (model X.prog X.w) X.A (f (.int i t) (.int j u)) Q E s) :
  OpR X f (rI C fun i j => .int (g i j)) := by
 intro pins s σ H x y v u Q I rx ry h
 obtain ⟨i, j, rfl, rfl, hc, q⟩ := h
 obtain ⟨t, rfl⟩ := rx
 obtain ⟨t', rfl⟩ := ry
 exact rule i j t t' s _ _ hc ⟨.int (g i j), H, I.tok _, ⟨_, rfl⟩, q⟩
theorem Jc {f : Value -> Value -> Sem Value} {g : Int -> Int -> Int}
  (rule : ∀ (i j : Int) (t u : Tok) (s : Shared) (Q : Value -> Shared -> Prop) (E : Value -> Shared -> Prop), Q (.int (g i j) s.toks) { s with toks := s.toks + 1 } -> wpAny (model X.prog X.w) X.A (f (.int i t) (.int j u)) Q E s) :
  OpR X f (rI0 fun i j => .int (g i j)) := by
 intro pins s σ H x y v u Q I rx ry h
 obtain ⟨i, j, rfl, rfl, q⟩ := h
 obtain ⟨t, rfl⟩ := rx
 obtain ⟨t', rfl⟩ := ry
 exact rule i j t t' s _ _ ⟨.int (g i j), H, I.tok _, ⟨_, rfl⟩, q⟩
theorem FT {f : Value -> Value -> Sem Value} {g : Int -> Int -> Bool}
  (rule : ∀ (i j : Int) (t u : Tok) (s : Shared) (Q : Value -> Shared -> Prop) (E : Value -> Shared -> Prop), Q (.bool (g i j)) s -> wpAny (model X.prog X.w) X.A (f (.int i t) (.int j u)) Q E s) :
  OpR X f (rI0 fun i j => .bl (g i j)) := by
 intro pins s σ H x y v u Q I rx ry h
 obtain ⟨i, j, rfl, rfl, q⟩ := h
 obtain ⟨t, rfl⟩ := rx
 obtain ⟨t', rfl⟩ := ry
 exact rule i j t t' s _ _ ⟨.bl (g i j), H, I, rfl, q⟩
def I9 (i j : Int) : Prop := 0 < j /\ j < 1073741824
def Hy (i j : Int) : Prop := 0 <= j /\ j <= 1000000 /\ i.natAbs < 2 ^ 64
def CMul (i j : Int) : Prop := (-(2 ^ 64) < i /\ i < 2 ^ 64) \/ (-(2 ^ 64) < j /\ j < 2 ^ 64)
theorem CMul.ok {i j : Int} (h : CMul i j) : IntMulOk i j := by
 rcases h with ⟨h1, h2⟩ | ⟨h1, h2⟩
 ·exact .of_left (intBits_le_64 h1 h2)
 ·exact .of_right (intBits_le_64 h1 h2)
theorem op_add : OpR X (binaryOp .Add) (rI0 fun i j => .int (i + j)) := Jc fun _ _ _ _ _ _ _ q => add_int q
theorem di : OpR X (binaryOp .Sub) (rI0 fun i j => .int (i - j)) := Jc fun _ _ _ _ _ _ _ q => sub_int q
theorem EK : OpR X (binaryOp .Mult) (rI CMul fun i j => .int (i * j)) := opI fun _ _ _ _ _ _ _ hc q => mul_int q hc.ok
theorem iG : OpR X (binaryOp .FloorDiv) (rI I9 fun i j => .int (i / j)) := opI fun i j _ _ _ _ _ hc q => by
 have h1 : (0 : Int) < j := hc.1
 have h2 : j < 1073741824 := hc.2
 exact floordiv_int (by lia) (by rw [Int.fdiv_eq_ediv_of_nonneg i (by lia)]; exact q) (.inl (PyProof.noPylong_small (by lia)))
theorem jx : OpR X (binaryOp .Mod) (rI (fun _ j => 0 < j) fun i j => .int (i % j)) := opI fun i j _ _ _ _ _ hc q => by
 have h1 : (0 : Int) < j := hc
 exact mod_int' (by lia) (by rw [Int.fmod_eq_emod_of_nonneg i (by lia)]; exact q)
theorem zW : OpR X (binaryOp .Pow) (rI Hy fun i j => .int (i ^ j.toNat)) := opI fun _ _ _ _ _ _ _ hc q => pow_int_small hc.1 hc.2.1 hc.2.2 q
theorem unI {f : Value -> Sem Value} {g : Int -> Int}
  (rule : ∀ (i : Int) (t : Tok) (s : Shared) (Q : Value -> Shared -> Prop) (E : Value -> Shared -> Prop), Q (.int (g i) s.toks) { s with toks := s.toks + 1 } -> wpAny (model X.prog X.w) X.A (f (.int i t)) Q E s) :
  UnR X f (rU fun i => .int (g i)) := by
 intro pins s σ H x v Q I rx h
 obtain ⟨i, rfl, q⟩ := h
 obtain ⟨t, rfl⟩ := rx
 exact rule i t s _ _ ⟨.int (g i), H, I.tok _, ⟨_, rfl⟩, q⟩
theorem oT : UnR X (unaryOp .USub) (rU fun i => .int (-i)) := unI fun _ _ _ _ _ q => neg_int q
end
section
variable {X : Cx} {a b c : Expr} {ta tb tc : TE} {pos : Pos}
theorem DG {pins : List (Addr × Obj)} {σ : St} {H : Hp} {s : Shared} {Q : VK} {k k' : Bool} (I : Inv X pins σ H s) (q : Q (.bl k) H) (e : k = k') : EP X pins σ Q (.bool k') s := by
 subst e
 exact ⟨.bl k, H, I, rfl, q⟩
theorem nX : OpR X (compareOp .Lt) (rI0 fun i j => .bl (decide (i < j))) := FT fun _ _ _ _ _ _ _ q => lt_int q
theorem yp : OpR X (compareOp .LtE) (rI0 fun i j => .bl (decide (i <= j))) := FT fun _ _ _ _ _ _ _ q => le_int q
theorem u0 : OpR X (compareOp .Gt) (rI0 fun i j => .bl (decide (j < i))) := FT fun _ _ _ _ _ _ _ q => gt_int q
theorem Gs : OpR X (compareOp .GtE) (rI0 fun i j => .bl (decide (j <= i))) := FT fun _ _ _ _ _ _ _ q => ge_int q
theorem HP : OpR X (compareOp .Is) (fun x y H Q => y = .non /\ Q (.bl (decide (x = .non))) H) := by
 intro pins s σ H x y v u Q I rx ry h
 obtain ⟨rfl, q⟩ := h
 cases ry
 refine is_none_gen (DG I q ?_)
 cases x <;> first
  | (cases rx; rfl)
  | (obtain ⟨t, rfl⟩ := rx; rfl)
theorem FH : OpR X (compareOp .IsNot) (fun x y H Q => y = .non /\ Q (.bl (!decide (x = .non))) H) := by
 intro pins s σ H x y v u Q I rx ry h
 obtain ⟨rfl, q⟩ := h
 cases ry
 refine isnot_none_gen (DG I q ?_)
 cases x <;> first
  | (cases rx; rfl)
  | (obtain ⟨t, rfl⟩ := rx; rfl)
theorem OpR.or {f : Value -> Value -> Sem Value} {r r' : R2} (h : OpR X f r) (h' : OpR X f r') : OpR X f (fun x y H Q => r x y H Q \/ r' x y H Q) := by
 intro pins s σ H x y v u Q I rx ry q
 rcases q with q | q
 ·exact h pins s σ H x y v u Q I rx ry q
 ·exact h' pins s σ H x y v u Q I rx ry q
theorem aY (b : Expr) {op : CmpOp} (h : op ≠ .In := by decide) (h2 : op ≠ .NotIn := by decide) : behindInMarks op b = false := by
 have e1 : (op == CmpOp.In) = false := by cases op <;> first | rfl | exact absurd rfl h
 have e2 : (op == CmpOp.NotIn) = false := by cases op <;> first | rfl | exact absurd rfl h2
 cases b <;> simp [behindInMarks, e1, e2]
theorem lv {op : CmpOp} {r : R2} (ho : OpR X (compareOp op) r) (ha : PE X a ta) (hb : PE X b tb) (hm : behindInMarks op b = false) : PE X (.Compare a [op] [b] pos) (tOp r ta tb) := by
 intro pins s σ H Q I h
 exact wpAny_Compare1 (Hu ha hb I h fun v u s2 x y H2 I2 rx ry q => ho pins s2 σ H2 x y v u Q I2 rx ry q) hm
noncomputable def GB (t : TE) : TT := fun σ H Q => t σ H fun x H' => ∃ k, x = .bl k /\ Q k H'
theorem aP {op : CmpOp} {r : R2} (ho : OpR X (compareOp op) r) (ha : PE X a ta) (hb : PE X b tb) (hm : behindInMarks op b = false) : PT X (.Compare a [op] [b] pos) (GB (tOp r ta tb)) := by
 intro pins s σ H Q I h
 refine wpAny_isTrue_Compare1 (thn (ha pins s σ H _ I h) fun v s1 ⟨x, H1, I1, r1, q1⟩ => thn (hb pins s1 σ H1 _ I1 q1) fun u s2 ⟨y, H2, I2, r2, q2⟩ =>
  thn (ho pins s2 σ H2 x y v u _ I2 r1 r2 q2) fun c s3 ⟨z, H3, I3, r3, k, e, q3⟩ => ?_) hm
 subst e
 cases r3
 exact wpAny_truthy_bool ⟨H3, I3, q3⟩
def Dw (K : W.Frag) (x : V) (H : Hp) (k : Bool) : Prop :=
 match x with
 | .non => k = false
 | .bl b => k = b
 | .int i => k = (i != 0)
 | .str y => y.length <= sizeLine /\ k = ((y.length : Int) != 0)
 | .byt y => y.size <= sizeLine /\ k = ((y.size : Int) != 0)
 | .ref p => (∃ xs, SqL K H p xs /\ k = !xs.isEmpty) \/ (∃ xs, SqT K H p xs /\ k = !xs.isEmpty) \/ ∃ kvs, H p = some (.dK kvs) /\ k = !kvs.isEmpty
 | _ => False
theorem AE {κ : Type} {kvs : List (κ × V)} {vs : List (κ × Value)} (r : KV kvs vs) : (!vs.isEmpty) = !kvs.isEmpty := by
 cases r <;> rfl
theorem sP {xs : List V} {its : List Value} (r : Vals xs its) : (!its.toArray.isEmpty) = !xs.isEmpty := by
 cases r <;> simp
theorem pD : (sizeLine : Nat) < 2 ^ 63 := by rw [sizeLine_eq]; decide
theorem GV : Kk X (fun x H Q => ∃ k, Dw X.K x H k /\ Q k H) := by
 intro pins s σ H x v Q I rx h
 obtain ⟨k, e, q⟩ := h
 have hl := pD
 have hs : sizeLine = 16777216 := sizeLine_eq
 cases x with
 | non =>
  cases rx
  have e' : k = false := e
  subst e'
  exact truthy_none ⟨H, I, q⟩
 | bl b =>
  cases rx
  have e' : k = b := e
  subst e'
  exact wpAny_truthy_bool ⟨H, I, q⟩
 | int i =>
  obtain ⟨t, rfl⟩ := rx
  have e' : k = (i != 0) := e
  subst e'
  exact PySem.P.truthy_int ⟨H, I, q⟩
 | str y =>
  obtain ⟨t, rfl⟩ := rx
  obtain ⟨hy, e'⟩ : y.length <= sizeLine /\ k = ((y.length : Int) != 0) := e
  subst e'
  exact PySem.P.truthy_str (by lia) ⟨H, I.tok _, q⟩
 | byt y =>
  obtain ⟨t, rfl⟩ := rx
  obtain ⟨hy, e'⟩ : y.size <= sizeLine /\ k = ((y.size : Int) != 0) := e
  subst e'
  exact W.truthy_bytes (by lia) ⟨H, I.tok _, q⟩
 | ref p =>
  cases rx
  have e' : (∃ xs, SqL X.K H p xs /\ k = !xs.isEmpty) \/ (∃ xs, SqT X.K H p xs /\ k = !xs.isEmpty) \/ ∃ kvs, H p = some (.dK kvs) /\ k = !kvs.isEmpty := e
  rcases e' with ⟨xs, hx, e'⟩ | ⟨xs, hx, e'⟩ | ⟨kvs, hx, e'⟩
  ·subst e'
   obtain ⟨its, r, pl, hz⟩ := I.list hx
   have hlen := r.length
   exact wpAny_truthy_list pl.isList (by simp only [L8]; lia) ⟨H, I.tok _, by rw [sP r]; exact q⟩
  ·subst e'
   obtain ⟨its, r, pl, hz⟩ := I.tuple hx
   have hlen := r.length
   exact truthy_tuple pl (by simp only [L8]; lia) ⟨H, I.tok _, by rw [sP r]; exact q⟩
  ·subst e'
   obtain ⟨hz, hS, vs, r, m⟩ : kvs.length <= sizeLine /\ (p == sysModules) = false /\ ∃ vs, KV kvs vs /\ s.heap.DictOf (bU X.prog X.w) p vs := I.hok p _ hx
   have hlen : kvs.length = vs.length := Paired.length r
   exact wpAny_truthy_dict hS m (by lia) ⟨H, I.tok _, by rw [AE r]; exact q⟩
 | _ => exact (show False from e).elim
theorem dc (ha : PE X a ta) (he : ∀ whole, isTrue a X.env whole = (do let v ← whole; standAt a.pos; holding [v] (truthy v))) :
  PT X a (fun σ H Q => ta σ H fun x H' => ∃ k, Dw X.K x H' k /\ Q k H') := by
 intro pins s σ H Q I h
 exact isTrue_plain (thn (ha pins s σ H _ I h) fun v s1 ⟨x, H1, I1, r1, q1⟩ => GV pins s1 σ H1 x v Q I1 r1 q1) (he _)
theorem Ai : OpR X (binaryOp .Add) (fun x y H Q => ∃ i j, x = .str i /\ y = .str j /\ i.length + j.length <= sizeLine /\ Q (.str (i ++ j)) H) := by
 intro pins s σ H x y v u Q I rx ry h
 obtain ⟨i, j, rfl, rfl, hz, q⟩ := h
 obtain ⟨t, rfl⟩ := rx
 obtain ⟨t', rfl⟩ := ry
 exact add_str (fun t' tk => ⟨.str (i ++ j), H, I.tok _, ⟨_, rfl⟩, q⟩) hz
theorem DV {x : V} {us : List Value} (r : Vals [x] us) : ∃ u, us = [u] /\ RelV x u := by
 cases r with
 | cons r1 r2 => cases r2; exact ⟨_, rfl, r1⟩
theorem Gi {x y : V} {us : List Value} (r : Vals [x, y] us) : ∃ u w', us = [u, w'] /\ RelV x u /\ RelV y w' := by
 cases r with
 | cons r1 r2 =>
  cases r2 with
  | cons r3 r4 => cases r4; exact ⟨_, _, rfl, r1, r3⟩
theorem BG (hc : X.calm = true) : CallR X (.builtin "max") (fun xs H Q => ∃ i j, xs = [.int i, .int j] /\ Q (.int (if j > i then j else i)) H) := by
 intro pins s σ H xs us Q I r h
 obtain ⟨i, j, rfl, q⟩ := h
 obtain ⟨u, w', rfl, ⟨t, rfl⟩, ⟨t', rfl⟩⟩ := Gi r
 refine max_two_ints (I.ok.hd hc) fun h' tk k => ⟨_, H, I.kept k, ?_, q⟩
 by_cases hj : j > i
 ·rw [LO hj, LO hj]; exact ⟨_, rfl⟩
 ·rw [LP hj, LP hj]; exact ⟨_, rfl⟩
theorem vF (hc : X.calm = true) : CallR X (.builtin "min") (fun xs H Q => ∃ i j, xs = [.int i, .int j] /\ Q (.int (if j < i then j else i)) H) := by
 intro pins s σ H xs us Q I r h
 obtain ⟨i, j, rfl, q⟩ := h
 obtain ⟨u, w', rfl, ⟨t, rfl⟩, ⟨t', rfl⟩⟩ := Gi r
 refine min_two_ints (I.ok.hd hc) fun h' tk k => ⟨_, H, I.kept k, ?_, q⟩
 by_cases hj : j < i
 ·rw [LO hj, LO hj]; exact ⟨_, rfl⟩
 ·rw [LP hj, LP hj]; exact ⟨_, rfl⟩
def Id (K : W.Frag) (x : V) (H : Hp) (n : Nat) : Prop :=
 match x with
 | .str y => y.length <= sizeLine /\ n = y.length
 | .byt y => y.size <= sizeLine /\ n = y.size
 | .ref p => (∃ xs, SqL K H p xs /\ n = xs.length) \/ ∃ xs, SqT K H p xs /\ n = xs.length
 | _ => False
theorem E2 : CallR X (.builtin "len") (fun xs H Q => ∃ x n, xs = [x] /\ Id X.K x H n /\ Q (.int n) H) := by
 intro pins s σ H xs us Q I r h
 obtain ⟨x, n, rfl, e, q⟩ := h
 obtain ⟨u, rfl, rx⟩ := DV r
 have hl := pD
 have hs : sizeLine = 16777216 := sizeLine_eq
 cases x with
 | str y =>
  obtain ⟨t, rfl⟩ := rx
  obtain ⟨hy, e'⟩ : y.length <= sizeLine /\ n = y.length := e
  subst e'
  exact len_str (by lia) ⟨.int _, H, I.tok _, ⟨_, rfl⟩, q⟩
 | byt y =>
  obtain ⟨t, rfl⟩ := rx
  obtain ⟨hy, e'⟩ : y.size <= sizeLine /\ n = y.size := e
  subst e'
  exact W.len_bytes (by lia) ⟨.int _, H, I.tok _, ⟨_, rfl⟩, q⟩
 | ref p =>
  cases rx
  have e' : (∃ xs, SqL X.K H p xs /\ n = xs.length) \/ ∃ xs, SqT X.K H p xs /\ n = xs.length := e
  rcases e' with ⟨xs, hx, e'⟩ | ⟨xs, hx, e'⟩
  ·subst e'
   obtain ⟨its, r', pl, hz⟩ := I.list hx
   have hlen := r'.length
   exact Calls.call_len_list pl.isList (by simp only [L8]; lia) ⟨.int xs.length, H, I.tok _, ⟨_, by simp only [L8]; rw [hlen]⟩, q⟩
  ·subst e'
   obtain ⟨its, r', pl, hz⟩ := I.tuple hx
   have hlen := r'.length
   exact len_tuple pl (by simp only [L8]; lia) ⟨.int xs.length, H, I.tok _, ⟨_, by simp only [L8]; rw [hlen]⟩, q⟩
 | _ => exact (show False from e).elim
end
structure ObjM (h : Heap) (x dx C : Addr) (mA : Str -> Option Value) : Prop where
 obj : h.get? x = some (W.instObj C dx)
 ns : h.Ns1 dx mA
 ne : dx ≠ x
theorem B5 {h : Heap} {dx : Addr} {mA : Str -> Option Value} (n : h.Ns1 dx mA) : ∃ od, h.get? dx = some od /\ ∀ name, W.lookIn name od = some (mA name) := by
 obtain ⟨o, es, ep, ho, hd, hk, _, hm⟩ := n
 refine ⟨o, ho, fun name => ?_⟩
 have e := hm name
 unfold nsFind findBy at e
 rw [<- Array.find?_toList] at e
 unfold W.lookIn
 rw [hd]
 dsimp only
 split
 ·rename_i y q
  rw [q] at e
  exact congrArg some e
 ·rename_i q
  rw [q] at e
  have a : es.toList.any (·.refKey) = false := by
   rw [List.any_eq_false]
   intro y hy
   obtain ⟨z, t, hkey⟩ := hk y (Array.mem_toList_iff.mp hy)
   simp [DictEntry.refKey, hkey]
  have a' : ¬ es.toList.any (·.refKey) = true := by rw [a]; exact MH
  rw [LP a']
  exact congrArg some e
theorem ObjM.look {h : Heap} {x dx C : Addr} {mA : Str -> Option Value} (I : ObjM h x dx C mA) : ∃ od, W.InstAt h x (W.instObj C dx) C (some od) /\ ∀ name, W.lookIn name od = some (mA name) :=
 let ⟨od, ho, hl⟩ := B5 I.ns
 ⟨od, ⟨I.obj, rfl, rfl, ho⟩, hl⟩
section
variable {prog : Program} {w : World} {A : Around} {E : Value -> Shared -> Prop} {s : Shared} {K : W.Frag} {x dx C f : Addr} {mA : Str -> Option Value} {name : Str} {v : Value}
end
section
variable {P : Program} {w : World} {H H' : Hp} {h h' : Heap} {a C dx : Addr} {fs fs' : List (Str × V)}
theorem FA (hok : HOk P w H h) (e : H a = some (.ins C dx fs)) : ∃ mA, ObjM h a dx C mA /\ (∀ f, RelO (fs.lookup f) (mA f)) /\ PySem.Within mA (fs.map (·.1)) /\ fs.length <= 1000 /\ H dx = some (.own a) := by
 obtain ⟨d, z, ne, ob, mA, n, r, q⟩ := (show ObjOk P w H h a (.ins C dx fs) from hok a _ e)
 exact ⟨mA, ⟨ob, n, ne⟩, r, q, z, d⟩
end
structure Cls (K : W.Frag) (C : Addr) : Prop where
 pg : W.plainGet K C Str.empty = true
 hd : W.hasDictIn K C = true
 po : W.plainOver K C = true
 sa : W.findIn K (.ref C) "__setattr__" = some (some (.builtin "object.__setattr__"))
theorem Cls.get {K : W.Frag} {C : Addr} (c : Cls K C) (f : Str) : W.plainGet K C f = true := c.pg
structure Con (K : W.Frag) (C : Addr) (f : Str) (v : V) (u : Value) : Prop where
 at_ : W.findIn K (.ref C) f = some (some u)
 rel : RelV v u
 get : W.specialIn K u "__get__" = some none
 cp : W.copiedNames.contains f = false
structure Meth (K : W.Frag) (C : Addr) (m : Str) (f : Addr) : Prop where
 at_ : W.findIn K (.ref C) m = some (some (.ref f))
 fn : W.isFn K (.ref f) = true
 kp : W.keepIn K (.ref f) = true
section
variable {X : Cx} {pins : List (Addr × Obj)} {σ : St} {H : Hp} {s : Shared} {a C dx : Addr} {fs : List (Str × V)} {f : Str} {v : V} {A : Around} {E : Value -> Shared -> Prop}
end
section
variable {X : Cx} {o e value : Expr} {f : Str} {pos pos' tpos : Pos} {ta tv : TE}
end
section
variable {X : Cx} {pins : List (Addr × Obj)} {σ : St} {H : Hp} {s : Shared} {A : Around} {E : Value -> Shared -> Prop} {Q : Value -> Shared -> Prop} {c : Value} {b : Bool}
inductive TyOf (K : W.Frag) (H : Hp) : V -> Value -> Prop where
 | non : TyOf K H .non (.type "NoneType")
 | bl (x : Bool) : TyOf K H (.bl x) (.type "bool")
 | int (i : Int) : TyOf K H (.int i) (.type "int")
 | str (x : Str) : TyOf K H (.str x) (.type "str")
 | flt (x : UInt64) : TyOf K H (.flt x) (.type "float")
 | lst {a : Addr} {xs : List V} (e : H a = some (.lst xs)) : TyOf K H (.ref a) (.type "list")
 | frz {a : Addr} {o : Obj} {xs : List V} (e : H a = some (.frz o (.lst xs))) : TyOf K H (.ref a) (.type "list")
 | tup {a : Addr} {xs : List V} (e : H a = some (.tup xs)) : TyOf K H (.ref a) (.type "tuple")
 | dK {a : Addr} {kvs : List (Key × V)} (e : H a = some (.dK kvs)) : TyOf K H (.ref a) (.type "dict")
 | dT {a : Addr} {kvs : List (List Key × V)} (e : H a = some (.dT kvs)) : TyOf K H (.ref a) (.type "dict")
 | ins {a C dx : Addr} {fs : List (Str × V)} (e : H a = some (.ins C dx fs)) (cl : Cls K C) (ha : W.findIn K (.ref C) "__class__" = some (some (.builtin "object.__class__")))
   (hn : W.specialIn K (.builtin "object.__class__") "__get__" = some (some (.builtin "getset_descriptor.__get__"))) (htk : W.takesIn K (.builtin "object.__class__") = some true)
   (hm : W.mroIn K C (.type "object") = some true) : TyOf K H (.ref a) (.ref C)
theorem lq {x : V} {u t : Value} (I : Inv X pins σ H s) (rx : RelV x u) (ty : TyOf X.K H x t) (e : W.kitOne X.K t c = some b) (h : ∀ tk, Q (.bool b) { s with toks := tk }) :
  wpAny (model X.prog X.w) A (call (.builtin "isinstance") [u, c]) Q E s := by
 cases ty with
 | non => cases (show u = Value.none from rx); exact W.kia_one W.kitx_none I.kIn True.intro e (fun z => nomatch z) h
 | bl y => cases (show u = Value.bool y from rx); exact W.kia_one W.kitx_bool I.kIn True.intro e (fun z => nomatch z) h
 | int i => obtain ⟨t, q⟩ := (show ∃ t, u = Value.int i t from rx); cases q; exact W.kia_one W.kitx_int I.kIn True.intro e (fun z => nomatch z) h
 | str y => obtain ⟨t, q⟩ := (show ∃ t, u = Value.str y t from rx); cases q; exact W.kia_one W.kitx_str I.kIn True.intro e (fun z => nomatch z) h
 | flt y => obtain ⟨t, q⟩ := (show ∃ t, u = Value.float y t from rx); cases q; exact W.kia_one W.kitx_float I.kIn True.intro e (fun z => nomatch z) h
 | @lst a xs ea =>
  cases (show u = Value.ref a from rx)
  obtain ⟨_, _, n, _, h1⟩ := (show ObjOk X.prog X.w H s.heap a (.lst xs) from I.hok a _ ea)
  exact W.kia_one W.kitx_list I.kIn ⟨_, h1, rfl⟩ e (fun z => nomatch z) h
 | @frz a ob xs ea =>
  cases (show u = Value.ref a from rx)
  obtain ⟨_, _, _, n, _, h1⟩ := (show ObjOk X.prog X.w H s.heap a (.frz ob (.lst xs)) from I.hok a _ ea)
  exact W.kia_one W.kitx_list I.kIn ⟨_, h1, rfl⟩ e (fun z => nomatch z) h
 | @tup a xs ea =>
  cases (show u = Value.ref a from rx)
  obtain ⟨_, _, _, p⟩ := (show ObjOk X.prog X.w H s.heap a (.tup xs) from I.hok a _ ea)
  obtain ⟨o, h1, h2, _⟩ := p
  exact W.kia_one W.kitx_tuple I.kIn ⟨o, h1, h2⟩ e (fun z => nomatch z) h
 | @dK a kvs ea =>
  cases (show u = Value.ref a from rx)
  obtain ⟨_, _, vs, _, p⟩ := (show ObjOk X.prog X.w H s.heap a (.dK kvs) from I.hok a _ ea)
  obtain ⟨o, es, ep, h1, h2, _⟩ := p
  exact W.kia_one W.kitx_dict I.kIn ⟨o, h1, h2.1⟩ e (fun z => nomatch z) h
 | @dT a kvs ea =>
  cases (show u = Value.ref a from rx)
  obtain ⟨_, _, xs, _, o, es, ep, h1, h2, _⟩ := (show ObjOk X.prog X.w H s.heap a (.dT kvs) from I.hok a _ ea)
  exact W.kia_one W.kitx_dict I.kIn ⟨o, h1, h2.1⟩ e (fun z => nomatch z) h
 | @ins a C dx fs ea cl ha hn htk hm =>
  cases (show u = Value.ref a from rx)
  obtain ⟨mA, O, _⟩ := FA I.hok ea
  obtain ⟨od, J, _⟩ := O.look
  exact W.kia_one (W.kitx_own (cl.get _) cl.hd ha hn htk hm) I.kIn J e (fun z => nomatch z) h
end
structure Room (k : Nat) (A : Around) : Prop where
 hd : A.handled = none
 dp : A.depth + 3 * k + 5 < recursionLimit
 un : A.units + 16 * k + 200 < cLine
theorem Room.mono {j k : Nat} {A : Around} (r : Room k A) (h : j <= k) : Room j A := ⟨r.hd, by have := r.dp; lia, by have := r.un; lia⟩
theorem Room.deeper {k : Nat} {A : Around} (r : Room (k + 1) A) (env : Env) : Room k (A.deeper env) :=
 ⟨r.hd, by have := r.dp; show A.depth + 1 + 3 * k + 5 < _; lia, by have := r.un; show A.units + 3 + 16 * k + 200 < _; lia⟩
theorem Room.depth {k : Nat} {A : Around} (r : Room k A) : A.depth < recursionLimit := by have := r.dp; lia
theorem Room.units {k : Nat} {A : Around} (r : Room k A) : A.units + 64 < cLine := by have := r.un; lia
noncomputable def um : TA := fun _ H Q => Q [] H
noncomputable def kX (ta : TE) (tr : TA) : TA := fun σ H Q => ta σ H fun x H1 => tr σ H1 fun xs H2 => Q (x :: xs) H2
section
variable {X : Cx} {e : Expr} {es : List Expr} {te : TE} {t : TA} {pos : Pos}
theorem ak : PA X [] um := fun _ _ _ _ H Q I h => Calls.spliced_nil ⟨[], H, I, .nil, h⟩
theorem ad (ha : PE X e te) (hr : PA X es t) (hs : starEach (e :: es) X.env = (false, eval e X.env) :: starEach es X.env := by rfl) : PA X (e :: es) (kX te t) := by
 intro pos pins s σ H Q I h
 rw [hs]
 show wpAny _ _ (spliced ((false, eval e X.env) :: backTo pos (starEach es X.env))) _ _ s
 refine Calls.spliced_cons (thn (ha pins s σ H _ I h) fun u s1 hpt9 => ?_)
 obtain ⟨x, H1, I1, r1, q1⟩ := hpt9
 exact thn (hr pos pins s1 σ H1 _ I1 q1) fun us s2 ⟨xs, H2, I2, r2, q2⟩ => ⟨x :: xs, H2, I2, .cons r1 r2, q2⟩
noncomputable def Iq (t : TA) : TE := fun σ H Q => t σ H fun xs H1 => xs.length <= sizeLine /\ ∀ p, H1 p = none -> Q (.ref p) (upd H1 p (.tup xs))
noncomputable def IQ (t : TA) : TE := fun σ H Q => t σ H fun xs H1 => xs.length <= sizeLine /\ ∀ p, H1 p = none -> Q (.ref p) (upd H1 p (.lst xs))
theorem c7 {x1} (h : PA X es t) : PE X (.Tuple es x1 pos) (Iq t) := by
 intro pins s σ H Q I hq
 refine wpAny_Tuple_spliced (thn (h pos pins s σ H _ I hq) fun us s1 ⟨xs, H1, I1, r, z, q⟩ => ⟨by rw [<- r.length]; exact z, ?_⟩)
 have hf : H1 s1.heap.objs.size = none := I1.hok.fresh (LU _)
 refine ⟨.ref s1.heap.objs.size, upd H1 s1.heap.objs.size (.tup xs), I1.laid (t' := s1.toks) (fun b u e => Mg _ e) (LU _) ?_, rfl, q _ hf⟩
 exact ⟨z, us, r, ⟨_, Mu _ rfl, rfl, _, rfl⟩⟩
theorem gN (h : PA X es t) : PE X (.List es pos) (IQ t) := by
 intro pins s σ H Q I hq
 refine wpAny_List_spliced (thn (h pos pins s σ H _ I hq) fun us s1 ⟨xs, H1, I1, r, z, q⟩ => ⟨by rw [<- r.length]; exact z, ?_⟩)
 have hf : H1 s1.heap.objs.size = none := I1.hok.fresh (LU _)
 refine ⟨.ref s1.heap.objs.size, upd H1 s1.heap.objs.size (.lst xs), I1.laid (t' := s1.toks) (fun b u e => Mg _ e) (LU _) ?_, rfl, q _ hf⟩
 exact ⟨z, us, 0, r, Mu _ rfl⟩
end
noncomputable abbrev Sp := List V -> Hp -> VK -> XK -> Prop
noncomputable abbrev CXT := List Env -> Hp -> Shared -> XK -> Value -> Shared -> Prop
structure Env0 (P : Program) (w : World) (K : W.Frag) (mg : Str -> Option Value) (base : Heap) (A : Around) (outer : List Env) (s : Shared) (H : Hp) : Prop where
 frames : A.frames = some outer
 mod : Mod K mg base
 bs : ∀ b o, base.get? b = some o -> s.heap.get? b = some o /\ H b = none
 bsz : base.objs.size <= s.heap.objs.size
 funs : s.heap.FunFrames base outer
 frf : ∀ b ∈ frs outer, H b = none
 hok : HOk P w H s.heap
 bare : AllBare s.gens
def CE (outer : List Env) (P : Program) (w : World) (H : Hp) (s : Shared) (Q : VK) (u : Value) (s' : Shared) : Prop :=
 ∃ v H', s'.os = s.os /\ AllBare s'.gens /\ Un (frs outer) [] H H' s.heap s'.heap /\ HOk P w H' s'.heap /\ RelV v u /\ Q v H'
def CR (CX : CXT) (outer : List Env) (P : Program) (w : World) (H : Hp) (s : Shared) (Q : VK) (E : XK) (r : Result) (s' : Shared) : Prop :=
 match r with
 | .ok (.ret u) => CE outer P w H s Q u s'
 | .ok _ => False
 | .error e => CX outer H s E e s'
structure FnOk (P : Program) (w : World) (K : W.Frag) (mg : Str -> Option Value) (base : Heap) (CX : CXT) (k : Nat) (f : Addr) (fd : FuncData) (ps : List Str) (sp : Sp) : Prop where
 len : ∀ vs H Q E, sp vs H Q E -> vs.length = ps.length
 run : ∀ (A : Around) (outer : List Env) (s : Shared) (H : Hp) (args : Args) (us : List Value) (vs : List V) (Q : VK) (E : XK), Room k A -> Env0 P w K mg base A outer s H -> BindsTo s fd args (ps.zip us) -> Vals vs us -> sp vs H Q E ->
  codeAny (model P w) A (.call (.ref f) args) (CR CX outer P w H s Q E) s
section
variable {X : Cx} {pins : List (Addr × Obj)} {σ : St} {H : Hp} {s s' : Shared}
theorem Inv.env0 (I : Inv X pins σ H s) : Env0 X.prog X.w X.K X.mg X.base X.A X.stack s H :=
 ⟨I.ok.frames, I.ok.mod, I.bs, Mm I.ok.bsz I.sz, I.stack, I.stkFree, I.hok, I.bare⟩
theorem Inv.after {Q : VK} {u : Value} (I : Inv X pins σ H s) (h : CE X.stack X.prog X.w H s Q u s') : EP X pins σ Q u s' := by
 obtain ⟨v, H', os, bare, un, hok, r, q⟩ := h
 obtain ⟨hh, g, d, t, os'⟩ := s'
 obtain rfl : os' = s.os := os
 exact ⟨v, H', I.call (h' := hh) (g' := g) (d' := d) (t' := t) (ch := []) un hok bare (fun b z => absurd z (by simp)), r, q⟩
end
noncomputable def Bl (sp : Sp) (dvs : List V) (E : XK) (t : TA) : TE := fun σ H Q => t σ H fun vs H1 => sp (vs ++ dvs) H1 Q E
def Binds (K : W.Frag) (fd : FuncData) (ps : List Str) (ds : List Value) : Prop :=
 ∀ (s : Shared) (us : List Value), K.In s.heap -> (us ++ ds).length = ps.length -> BindsTo s fd ⟨us, []⟩ (ps.zip (us ++ ds))
theorem Binds.all {K : W.Frag} {fd : FuncData} {ps : List Str} (h : ∀ us : List Value, us.length = ps.length -> bindArgs fd ⟨us, []⟩ = pure (ps.zip us)) : Binds K fd ps [] := fun s us _ hl => by
 rw [Mv] at hl ⊢
 exact .of_eq (h us hl)
def zR (CX : CXT) (X : Cx) (E : XK) : Prop := ∀ (pins : List (Addr × Obj)) (σ : St) (H : Hp) (s : Shared) (e : Value) (s' : Shared), Inv X pins σ H s -> CX X.stack H s E e s' -> X.xe e s'
section
variable {X : Cx} {CX : CXT} {k : Nat} {f C : Addr} {fd : FuncData} {ps : List Str} {sp : Sp} {dvs : List V} {ds : List Value} {E : XK} {x m : Str} {p pos apos : Pos} {e o : Expr} {es : List Expr} {ta : TE} {t : TA}
theorem Hm {pins : List (Addr × Obj)} {σ : St} {H : Hp} {s : Shared} {Q : VK} {us : List Value} {vs : List V} (F : FnOk X.prog X.w X.K X.mg X.base CX k f fd ps sp) (hr : Room k X.A) (hb : Binds X.K fd ps ds) (hd : Vals dvs ds) (hx : zR CX X E)
  (I : Inv X pins σ H s) (r : Vals vs us) (h : sp (vs ++ dvs) H Q E) : wpAny (model X.prog X.w) X.A (call (.ref f) us) (EP X pins σ Q) X.xe s := by
 have r2 : Vals (vs ++ dvs) (us ++ ds) := r.append hd
 have hl : (us ++ ds).length = ps.length := by rw [<- r2.length]; exact F.len _ _ _ _ h
 refine wpAny_call (codeAny_mono (F.run X.A X.stack s H ⟨us, []⟩ (us ++ ds) (vs ++ dvs) Q E hr I.env0 (hb s us I.kIn hl) r2 h) fun r s' hq => ?_)
 cases r with
 | error e => exact hx pins σ H s e s' I hq
 | ok fl =>
  cases fl with
  | ret u => exact I.after hq
  | next => exact False.elim hq
  | brk => exact False.elim hq
  | cont => exact False.elim hq
theorem a8 (F : FnOk X.prog X.w X.K X.mg X.base CX k f fd ps sp) (hr : Room k X.A) (hg : Gl X x) (hm : X.mg x = some (.ref f)) (hk : W.keepIn X.K (.ref f) = true) (hb : Binds X.K fd ps ds) (hd : Vals dvs ds) (hx : zR CX X E)
  (ha : PA X (e :: es) t) (hdb : (x == ("__debug__" : Str)) = false := by decide) (he : starEach (e :: es) X.env = (false, eval e X.env) :: starEach es X.env := by rfl) (hpl : (backTo pos (starEach es X.env)).any (·.1) = false := by rfl) :
  PE X (.Call (.Name x p) (e :: es) [] pos) (Bl sp dvs E t) := by
 intro pins s σ H Q I h
 refine wpAny_Call_Name_kw (A7 I hg hm ?_ hdb)
 refine W.callWith_K (h₀ := X.base) I.ok.mod.kin hk (thn (ha pos pins s σ H _ I h) fun us s1 ⟨vs, H1, I1, r, q⟩ => ⟨I1.kIn, ?_⟩) he hpl
 exact Hm F hr hb hd hx I1 r q
structure Mk (K : W.Frag) (C f : Addr) : Prop where
 makes : W.makesIn K C = true
 init : W.findIn K (.ref C) "__init__" = some (some (.ref f))
 fn : W.isFn K (.ref f) = true
 kp : W.keepIn K (.ref C) = true
end
section
variable {X : Cx} {CX : CXT} {k : Nat} {f C : Addr} {fd : FuncData} {ps ks : List Str} {sp : Sp} {E : XK} {x m : Str} {p pos apos kpos : Pos} {e o : Expr} {es : List Expr} {kws : List Keyword} {te ta : TE} {t tk : TA} {nm : Option Str}
structure KBinds (K : W.Frag) (fd : FuncData) (ps ks : List Str) (g : List Value -> List Value -> List Value) (gV : List V -> List V -> List V) : Prop where
 to : ∀ (s : Shared) (us ws : List Value), K.In s.heap -> (g us ws).length = ps.length -> BindsTo s fd ⟨us, ks.zip ws⟩ (ps.zip (g us ws))
 rel : ∀ {vs : List V} {us : List Value} {zs : List V} {ws : List Value}, Vals vs us -> Vals zs ws -> Vals (gV vs zs) (g us ws)
variable {g : List Value -> List Value -> List Value} {gV : List V -> List V -> List V}
end
structure FnScope (N P : List Str) (sc : Scope) : Prop where
 kind : sc.kind = .function
 co : sc.isCoroutine = false
 gen : sc.isGenerator = false
 nd : N.Nodup
 pre : N.take P.length = P
 par : ∀ x ∈ P, sc.names.lookup x = some .local \/ sc.names.lookup x = some .cell
 nofree : ∀ y ∈ sc.names, y.2 ≠ .free
theorem vh {kindOf : Str -> Option NameKind} {x : Str} : ∀ {binds : List (Str × Value)} {m : Str -> Option Value}, (∀ v, (x, v) ∉ binds) -> bindL kindOf binds m x = m x
 | [], _, _ => rfl
 | (n, v) :: r, m, h => by
  unfold bindL
  rw [vh fun w hw => h w (LY _ hw)]
  split
  ·have : x ≠ n := by rintro rfl; exact h v LV
   simp [this]
  ·rfl
theorem vC {kindOf : Str -> Option NameKind} {x : Str} : ∀ {binds : List (Str × Value)} {m : Str -> Option Value}, (∀ v, (x, v) ∉ binds) -> bindC kindOf binds m x = m x
 | [], _, _ => rfl
 | (n, v) :: r, m, h => by
  unfold bindC
  rw [vC fun w hw => h w (LY _ hw)]
  split
  ·rfl
  ·have : x ≠ n := by rintro rfl; exact h v LV
   simp [this]
theorem uR {kindOf : Str -> Option NameKind} {x : Str} {v : Value} : ∀ {P : List Str} {vs : List Value} {i : Nat} {m : Str -> Option Value}, P.Nodup -> P[i]? = some x -> vs[i]? = some v -> kindOf x = some .local ->
  bindL kindOf (P.zip vs) m x = some v
 | [], _, _, _, _, h, _, _ => by simp at h
 | _ :: _, [], _, _, _, _, h, _ => by simp at h
 | p :: P, w :: vs, 0, m, nd, h1, h2, hk => by
  simp at h1 h2; subst h1; subst h2
  show bindL kindOf ((p, w) :: P.zip vs) m p = _
  unfold bindL
  rw [vh fun v hv => (Mq.mp nd).1 (List.of_mem_zip hv).1, LO hk]
  simp
 | p :: P, w :: vs, i + 1, m, nd, h1, h2, hk => by
  show bindL kindOf ((p, w) :: P.zip vs) m x = _
  unfold bindL
  exact uR (i := i) (Mq.mp nd).2 (by simpa using h1) (by simpa using h2) hk
theorem vo {kindOf : Str -> Option NameKind} {x : Str} {v : Value} : ∀ {P : List Str} {vs : List Value} {i : Nat} {m : Str -> Option Value}, P.Nodup -> P[i]? = some x -> vs[i]? = some v -> kindOf x ≠ some .local ->
  bindC kindOf (P.zip vs) m x = some v
 | [], _, _, _, _, h, _, _ => by simp at h
 | _ :: _, [], _, _, _, _, h, _ => by simp at h
 | p :: P, w :: vs, 0, m, nd, h1, h2, hk => by
  simp at h1 h2; subst h1; subst h2
  show bindC kindOf ((p, w) :: P.zip vs) m p = _
  unfold bindC
  rw [vC fun v hv => (Mq.mp nd).1 (List.of_mem_zip hv).1, LP hk]
  simp
 | p :: P, w :: vs, i + 1, m, nd, h1, h2, hk => by
  show bindC kindOf ((p, w) :: P.zip vs) m x = _
  unfold bindC
  exact vo (i := i) (Mq.mp nd).2 (by simpa using h1) (by simpa using h2) hk
noncomputable def aM (N : List Str) (vs : List V) : St := vs.map some ++ List.replicate (N.length - vs.length) none
noncomputable def Co (CX : CXT) (P : Program) (w : World) (K : W.Frag) (mg : Str -> Option Value) (base : Heap) (N : List Str) (qual : Str) (scope : Scope) (f : Addr) (cd : Value) (A : Around) (outer : List Env) (s : Shared) (H : Hp) (E : XK) : Cx where
 prog := P
 w := w
 K := K
 mg := mg
 base := base
 A := A.deeper (envOfC qual scope s.heap.objs.size f cd)
 N := N
 s₀ := s
 H₀ := H
 env := envOfC qual scope s.heap.objs.size f cd
 outer := outer
 stack := envOfC qual scope s.heap.objs.size f cd :: outer
 ex := []
 calm := true
 fn := fun _ => true
 pn := []
 xe := fun e s' => wpAny (model P w) (A.deeper (envOfC qual scope s.heap.objs.size f cd)) (leaving (envOfC qual scope s.heap.objs.size f cd) e) (fun _ s'' => CX outer H s E e s'') (fun e' s'' => CX outer H s E e' s'') s'
theorem xS {sc : Scope} {n : Nat} {x : Str} (h : sc.names.lookup x = some .cell) : ∃ c, (cellsFrom n sc.names []).lookup x = some c := by
 have q := W.cellsFrom_some sc.names n [] (.inl h)
 exact Option.isSome_iff_exists.mp q
theorem Cg {CX : CXT} {P : Program} {w : World} {K : W.Frag} {mg : Str -> Option Value} {base : Heap} {N ps : List Str} {qual : Str} {scope : Scope} {f : Addr} {cd : Value} {A : Around} {outer : List Env} {s s1 : Shared} {H : Hp} {E : XK} {us : List Value} {vs : List V}
  (S : FnScope N ps scope) (hd : A.handled = none) (e0 : Env0 P w K mg base A outer s H) (hl : vs.length = ps.length) (r : Vals vs us)
  (x : InCallC s s.heap.objs.size (bindL (envOfC qual scope s.heap.objs.size f cd).kindOf (ps.zip us) fun _ => none) (cellsFrom (s.heap.objs.size + 1) scope.names []) (bindC (envOfC qual scope s.heap.objs.size f cd).kindOf (ps.zip us) fun _ => none) s1) :
  Inv (Co CX P w K mg base N qual scope f cd A outer s H E) [] (aM N vs) H s1 := by
 have hpl : ps.length <= N.length := by have := congrArg List.length S.pre; rw [List.length_take] at this; lia
 obtain ⟨h1, tk, rfl, hk⟩ := x.done
 have noA : ∀ b : Addr, b ∉ (Co CX P w K mg base N qual scope f cd A outer s H E).ex := fun b z => absurd (show b ∈ ([] : List Addr) from z) (by simp)
 refine ⟨⟨e0.mod, S.kind, rfl, rfl, LU _, fun y z c h1 h2 => ?_, fun y hy => ?_, fun y c _ h => ?_, fun _ => hd, Around.frames_deeper e0.frames, .inr ⟨rfl, rfl⟩, fun b z => absurd z (noA b), e0.bs, e0.bsz, fun b _ _ => noA b, fun b z => absurd z (noA b), e0.funs, e0.frf⟩,
  rfl, e0.bare, Un.kept hk, ⟨_, x.toInCall.ns, fun i y v h1 h2 h3 => ?_⟩, fun y c h => ⟨_, x.cell y c h⟩, e0.hok.fresh (LU _), fun y c h => ?_, fun p hp => absurd (show p ∈ ([] : List (Addr × Obj)) from hp) (by simp), e0.hok.kept hk, ?_⟩
 ·exact name_of_addr x.apart (PySem.mem_of_lookup h1) (PySem.mem_of_lookup h2)
 ·have hy : scope.names.lookup y = some .cell \/ scope.names.lookup y = some .free := hy
  rcases hy with hy | hy
  ·exact xS hy
  ·exact absurd rfl (S.nofree _ (PySem.mem_of_lookup hy))
 ·exact MB (x.above y c (PySem.mem_of_lookup h))
 ·have hi : i < vs.length := by
   unfold aM at h2
   by_cases hi : i < vs.length
   ·exact hi
   ·rw [MY (by simpa using hi)] at h2
    rw [List.getElem?_replicate] at h2
    split at h2 <;> cases h2
  have ha : vs[i]? = some v := by
   unfold aM at h2
   rw [Mn (by simpa using hi), L3] at h2
   cases e : vs[i]? with
   | none => rw [e] at h2; cases h2
   | some a => rw [e] at h2; cases h2; rfl
  obtain ⟨u, hu, rv⟩ := r.get ha
  have hp : ps[i]? = some y := by
   rw [<- S.pre, List.getElem?_take_of_lt (by lia)]; exact h1
  have ndP : ps.Nodup := by rw [<- S.pre]; exact S.nd.sublist (List.take_sublist _ _)
  refine ⟨u, rv, ?_⟩
  rcases S.par y (ML hp) with k | k
  ·exact .inl ⟨k, uR ndP hp hu k⟩
  ·obtain ⟨c, e⟩ := xS (n := s.heap.objs.size + 1) k
   refine .inr ⟨.inl k, c, e, ?_⟩
   have q := x.cell y c e
   rw [vo ndP hp hu (by show scope.names.lookup y ≠ _; rw [k]; decide)] at q
   exact q
 ·exact e0.hok.fresh (MB (x.above y c (PySem.mem_of_lookup h)))
 ·unfold aM
  show _ = N.length
  rw [LZ, LR, List.length_replicate]
  lia
theorem Ic {CX : CXT} {P : Program} {w : World} {K : W.Frag} {mg : Str -> Option Value} {base : Heap} {k : Nat} {f : Addr} {name qual : Str} {params : Arguments} {body : List Stmt} {scope : Scope} {dV kV doc pm cdv ct oc : Value} {an od : Option Addr}
  {osl : Array (Option Value)} {N ps : List Str} {sp : Sp} (lk : K.lookup f = some ⟨oc, od, .func (W.fnOf name qual params body scope dV kV doc pm an cdv ct), osl⟩) (hcd : W.codeIn K cdv qual = true) (S : FnScope N ps scope)
  (len : ∀ vs H Q E, sp vs H Q E -> vs.length = ps.length)
  (hbody : ∀ (A : Around) (outer : List Env) (s : Shared) (H : Hp) (vs : List V) (Q : VK) (E : XK), Room k (A.deeper (envOfC qual scope s.heap.objs.size f cdv)) -> sp vs H Q E ->
   ∃ t, PSs (Co CX P w K mg base N qual scope f cdv A outer s H E) body t /\ t { nx := fun _ H' => Q .non H', rt := Q } (aM N vs) H) :
  FnOk P w K mg base CX (k + 1) f (W.fnOf name qual params body scope dV kV doc pm an cdv ct) ps sp := by
 refine ⟨len, fun A outer s H args us vs Q E hr e0 hb r hsp => ?_⟩
 have hl := len _ _ _ _ hsp
 have KX : K.In s.heap := e0.mod.kin.keeps fun b o e => (e0.bs b o e).1
 have lim : s.heap.NoLimit := e0.mod.nolimit.keeps fun b o e => (e0.bs b o e).1
 have hkind : ∀ y ∈ ps.zip us, scope.names.lookup y.1 = some .local \/ (scope.names.lookup y.1 = some .cell /\ ((cellsFrom (s.heap.objs.size + 1) scope.names []).lookup y.1).isSome = true) := fun hpt0 hy => by
  obtain ⟨n, v⟩ := hpt0
  rcases S.par n (List.of_mem_zip hy).1 with q | q
  ·exact .inl q
  ·exact .inr ⟨q, W.cellsFrom_some _ _ _ (.inl q)⟩
 refine codeAny_call_function hr.depth (KX _ _ lk) rfl S.co S.gen rfl (W.codeRec_of KX hcd) (hb _ _ _ _ ?_)
 refine wpAny_newFunctionEnv_cells S.kind hkind fun env he s1 x => ?_
 subst he
 refine ⟨lim.keeps x.toInCall.keep, codeAny_func ?_⟩
 obtain ⟨t, ht, hq⟩ := hbody A outer s H vs Q E (hr.deeper _) hsp
 have I : Inv (Co CX P w K mg base N qual scope f cdv A outer s H E) [] (aM N vs) H s1 := Cg S hr.hd e0 hl r x
 refine wpAny_mono (ht [] s1 (aM N vs) H _ I hq) (fun fl s' hs => ?_) fun e s' hs => hs
 have fin : ∀ {σ' : St} {H' : Hp} {v : V} {u : Value}, Inv (Co CX P w K mg base N qual scope f cdv A outer s H E) [] σ' H' s' -> RelV v u -> Q v H' -> CE outer P w H s Q u s' :=
  fun {σ' H' v u} J rv q => ⟨v, H', J.os, J.bare, J.base, J.hok, rv, q⟩
 cases fl with
 | ret u =>
  obtain ⟨v, σ', H', J, rv, q⟩ := hs
  exact fin J rv q
 | next =>
  obtain ⟨σ', H', J, q⟩ := hs
  exact fin (v := V.non) (u := Value.none) J rfl q
 | brk =>
  obtain ⟨_, _, _, q⟩ := hs
  exact False.elim q
 | cont =>
  obtain ⟨_, _, _, q⟩ := hs
  exact False.elim q
section
variable {X : Cx} {x : Str} {p pos : Pos} {e : Expr} {es : List Expr} {t : TA} {id T : String} {r : List V -> Hp -> VK -> Prop}
noncomputable def tCB (r : List V -> Hp -> VK -> Prop) (t : TA) : TE := fun σ H Q => t σ H fun vs H1 => r vs H1 Q
theorem bo (hc : CallR X (.builtin id) r) (hg : Gl X x) (hm : X.mg x = none) (hv : bootBuiltins x = some (.builtin id)) (ha : PA X (e :: es) t) (hn : x ≠ "__name__" := by decide) (hdb : (x == ("__debug__" : Str)) = false := by decide)
  (he : starEach (e :: es) X.env = (false, eval e X.env) :: starEach es X.env := by rfl) (hpl : (backTo pos (starEach es X.env)).any (·.1) = false := by rfl) : PE X (.Call (.Name x p) (e :: es) [] pos) (tCB r t) := by
 intro pins s σ H Q I h
 refine wpAny_Call_Name_kw (pO I hg hm hv ?_ hn hdb)
 exact PyProof.Rows.callWith_builtin1 (thn (ha pos pins s σ H _ I h) fun us s1 ⟨vs, H1, I1, r1, q1⟩ => hc pins s1 σ H1 vs us Q I1 r1 q1) he hpl
theorem jq (hc : CallR X (.type T) r) (hg : Gl X x) (hm : X.mg x = none) (hv : bootBuiltins x = some (.type T)) (ha : PA X (e :: es) t) (hn : x ≠ "__name__" := by decide) (hdb : (x == ("__debug__" : Str)) = false := by decide)
  (he : starEach (e :: es) X.env = (false, eval e X.env) :: starEach es X.env := by rfl) (hpl : (backTo pos (starEach es X.env)).any (·.1) = false := by rfl) : PE X (.Call (.Name x p) (e :: es) [] pos) (tCB r t) := by
 intro pins s σ H Q I h
 refine wpAny_Call_Name_kw (pO I hg hm hv ?_ hn hdb)
 exact PyProof.Rows.callWith_type1 (thn (ha pos pins s σ H _ I h) fun us s1 ⟨vs, H1, I1, r1, q1⟩ => hc pins s1 σ H1 vs us Q I1 r1 q1) he hpl
end
end L2
namespace HT
open PySem PyProof.Rows
noncomputable def aQ : List Int -> List Int -> Bool
 | [], [] => false
 | [], _ :: _ => true
 | _ :: _, [] => false
 | x :: xs, y :: ys => if x = y then aQ xs ys else decide (x < y)
theorem sr (x y : Int) (xs ys : List Int) : aQ (x :: xs) (y :: ys) = if x = y then aQ xs ys else decide (x < y) := rfl
theorem uB : aQ [] [] = false := rfl
theorem tO (y : Int) (ys : List Int) : aQ [] (y :: ys) = true := rfl
theorem si (x : Int) (xs : List Int) : aQ (x :: xs) [] = false := rfl
theorem DC (A : Around) (s : Shared) (a : Int) (t : Tok) (c : Int) (u : Tok) : ∃ e, SeqAt.EqAt A s (.int a t) (.int c u) e /\ (e = true ↔ a = c) :=
 ⟨(a == c), SeqAt.EqAt.int_int a t c u, by simp⟩
theorem DW (A : Around) (s : Shared) (a : Int) (t : Tok) (c : Int) (u : Tok) (prog : Program) (w : World) (E : Value -> Shared -> Prop) (Q : Value -> Shared -> Prop) (h : Q (.bool (decide (a < c))) s) :
  wpAny (model prog w) A (richCompare .Lt (.int a t) (.int c u)) Q E s :=
 (PyProof.Rows.lt_int h : wpAny (model prog w) A (compareOp .Lt (.int a t) (.int c u)) Q E s)
section
open PySem.SeqAt
open PySem.AutoSeq1 (wpAny_loadPart')
open PySem.MeetsSeq PySem.MeetsSeq2 PySem.MeetsSeq3
theorem ui (l b : Addr) (items items2 : Array Value) (n n2 : Nat) (dd dd2 : Option Addr) (sl sl2 : Array (Option Value)) (ns ms : List Int) (hi : IntsAre items.toList ns) (hj : IntsAre items2.toList ms) :
  Meets (Builtin.«tuple.__lt__» ⟨[.ref l, .ref b], []⟩)
   (fun _ R s => s.heap.get? l = some { cls := .type "tuple", dict := dd, data := .seq items n, slots := sl } /\ s.heap.get? b = some { cls := .type "tuple", dict := dd2, data := .seq items2 n2, slots := sl2 } /\
    R (.ok (.ret (.bool (aQ ns ms)))) s) :=
 .of_wp fun prog w A R s h => by
  obtain ⟨hp, g, d, tk, os⟩ := s; obtain ⟨hl, hb, h⟩ := h
  have f2 := AutoSeq1.sub_tuple_tuple
  have z1 : items.size = ns.length := by rw [<- hi.length]; simp
  have z2 : items2.size = ms.length := by rw [<- hj.length]; simp
  wp_walk using wpAny_loadPart' hl, wpAny_loadPart' hb, wpAny_forIn_list _ (fun dR b s' => b.1 = none /\ s' = ⟨hp, g, d, tk, os⟩ /\ ∃ (vs ws : List Value) (ns' ms' : List Int), dR = vs.zip ws /\
   IntsAre vs ns' /\ IntsAre ws ms' /\ ns'.length + items2.size = ms'.length + items.size /\ R (.ok (.ret (.bool (aQ ns' ms')))) ⟨hp, g, d, tk, os⟩) _
  case turn =>
   rintro ⟨y, x⟩ dR b s' ⟨hb', rfl, vs, ws, ns', ms', hz, hvi, hwi, hlen, hR⟩
   cases hvi with
   | nil => rw [List.zip_nil_left] at hz; cases hz
   | cons a t hvi' =>
    cases hwi with
    | nil => rw [List.zip_nil_right] at hz; cases hz
    | cons c u hwi' =>
     rw [MR] at hz
     injection hz with hyx hrest
     injection hyx with hy hx
     subst hy hx
     rw [sr] at hR
     simp only [Mh] at hlen
     obtain ⟨e, he, hiff⟩ := DC A.in1 ⟨hp, g, d, tk, os⟩ a t c u
     refine LQ (he prog w _ _ ?_)
     cases e with
     | true =>
      rw [LO (hiff.mp rfl)] at hR
      wp_walk
      exact ⟨rfl, rfl, _, _, _, _, hrest, hvi', hwi', by lia, hR⟩
     | false =>
      rw [LP (fun q => absurd (hiff.mpr q) MH)] at hR
      have hri := DW A.in1 ⟨hp, g, d, tk, os⟩ a t c u prog w
      wp_walk using hri
      exact ⟨_, rfl, by simpa using hR⟩
  case fin =>
   rintro ⟨b1, b2⟩ s' ⟨hb', rfl, vs, ws, ns', ms', hz, hvi, hwi, hlen, hR⟩
   simp only at hb'
   subst hb'
   have hv : aQ ns' ms' = decide (items.size < items2.size) := by
    cases hvi with
    | nil =>
     cases hwi with
     | nil =>
      simp only [List.length_nil] at hlen
      rw [uB]
      exact (LX (by lia)).symm
     | cons c u hw =>
      simp only [List.length_nil, Mh] at hlen
      rw [tO]
      exact (L6 (by lia)).symm
    | cons a t hv =>
     cases hwi with
     | nil =>
      simp only [List.length_nil, Mh] at hlen
      rw [si]
      exact (LX (by lia)).symm
     | cons c u hw =>
      rw [MR] at hz
      cases hz
   rw [hv] at hR
   wp_walk
   exact ⟨_, rfl, by simpa [Builtin.Tuple.tupleCompareSizes] using hR⟩
  case h =>
   exact ⟨rfl, rfl, items.toList, items2.toList, ns, ms, rfl, hi, hj, by lia, h⟩
end
section
variable {prog : Program} {w : World} {A : Around} {E : Value -> Shared -> Prop} {s : Shared}
theorem t7 {l b : Addr} {items items2 : Array Value} {ns ms : List Int} {Q : Value -> Shared -> Prop} (hl : IsTup s.heap l items) (hb : IsTup s.heap b items2) (hi : IntsAre items.toList ns) (hj : IntsAre items2.toList ms)
  (hu : A.units < cLine) (h : Q (.bool (aQ ns ms)) s) : wpAny (model prog w) A (compareOp .Lt (.ref l) (.ref b)) Q E s := by
 obtain ⟨⟨cls, dd, data, sl⟩, ho, hc, n, hd⟩ := id hl
 obtain ⟨⟨cls2, dd2, data2, sl2⟩, ho2, hc2, n2, hd2⟩ := id hb
 simp only at hc hd hc2 hd2
 subst hc hd hc2 hd2
 exact richCompare_meets_room (op := .Lt) ⟨_, ho, rfl⟩ ⟨_, ho2, rfl⟩ PySem.F.slot_tuple_lt PySem.F.entry_tuple_lt (PySem.F.args_tuple_lt_2 _ _) (ui l b items items2 n n2 dd dd2 sl sl2 ns ms hi hj)
  ⟨ho, ho2, show Value.bool (aQ ns ms) ≠ Value.notImplemented /\ Q (.bool (aQ ns ms)) s from ⟨(fun x => nomatch x), h⟩⟩ hu
theorem F2 {t b : Addr} {vs ws : List Value} {Q : Value -> Shared -> Prop} (ht : IsTup s.heap t vs.toArray) (hb : IsTup s.heap b ws.toArray) (hv : vs ≠ [])
  (h1 : ws = [] -> Q (.ref t) s) (h2 : ws ≠ [] -> Q (.ref s.heap.objs.size) { s with heap := s.heap.push { cls := .type "tuple", data := .seq (vs ++ ws).toArray } })
  (hsz : vs.length + ws.length <= sizeLine) : wpAny (model prog w) A (binaryOp .Add (.ref t) (.ref b)) Q E s := by
 obtain ⟨⟨cls, dd, data, sl⟩, ho, hc, n, hd⟩ := id ht
 obtain ⟨⟨cls2, dd2, data2, sl2⟩, ho2, hc2, n2, hd2⟩ := id hb
 simp only at hc hd hc2 hd2
 subst hc hd hc2 hd2
 have e : vs.toArray ++ ws.toArray = (vs ++ ws).toArray := by simp
 by_cases hw : ws = []
 ·exact concat_meets ⟨_, ho, rfl⟩ ⟨_, ho2, rfl⟩ noFill_tuple_add seq_tuple_add PySem.F.slot_tuple_add PySem.F.entry_tuple_add (PySem.F.args_tuple_add_2 _ _)
   (tuple_addW1 t b vs.toArray ws.toArray n n2 dd dd2 sl sl2 (by simpa using hv) (by simp [hw])) ⟨ho, ho2, h1 hw⟩
 ·refine concat_meets ⟨_, ho, rfl⟩ ⟨_, ho2, rfl⟩ noFill_tuple_add seq_tuple_add PySem.F.slot_tuple_add PySem.F.entry_tuple_add (PySem.F.args_tuple_add_2 _ _)
   (tuple_addW2 t b vs.toArray ws.toArray n n2 dd dd2 sl sl2 (by simpa using hv) (by simpa using hw) (by rw [L8, L8]; exact hsz)) ⟨ho, ho2, ?_⟩
  rw [e]
  exact h2 hw
noncomputable def sIx (n d : Nat) : Option Int -> Nat
 | none => d
 | some v => if v < 0 then (v + (n : Int)).toNat else min v.toNat n
theorem G4 (n d : Nat) (hd : d <= n) (o : Option Int) : sIx n d o <= n := by
 cases o with
 | none => exact hd
 | some v =>
  show (if v < 0 then (v + (n : Int)).toNat else min v.toNat n) <= n
  by_cases hv : v < 0
  ·rw [LO hv]; lia
  ·rw [LP hv]; exact Nat.min_le_right _ _
theorem AX (v : Int) (n d : Nat) : (if v < 0 then max (v + (n : Int)) 0 else min v (n : Int)) = ((sIx n d (some v) : Nat) : Int) := by
 show (if v < 0 then max (v + (n : Int)) 0 else min v (n : Int)) = (((if v < 0 then (v + (n : Int)).toNat else min v.toNat n) : Nat) : Int)
 by_cases hv : v < 0
 ·simp only [LO hv]; lia
 ·simp only [LP hv]; lia
theorem AG (lo hi : Option Int) (n : Nat) : Builtin.Slice.sliceAdjust lo hi 1 (n : Int) = (((sIx n 0 lo : Nat) : Int), ((sIx n n hi : Nat) : Int)) := by
 have h1 : ¬ ((1 : Int) < 0) := by lia
 unfold Builtin.Slice.sliceAdjust
 simp only [h1, if_false]
 refine Prod.ext ?_ ?_
 ·cases lo with
  | none => rfl
  | some v => exact AX v n 0
 ·cases hi with
  | none => rfl
  | some v => exact AX v n n
theorem zu (i j : Nat) : Builtin.Slice.slicePlaces (i : Int) (j : Int) 1 = j - i := by
 unfold Builtin.Slice.slicePlaces
 have h1 : (1 : Int) > 0 := by lia
 simp only [h1, if_true, Int.ediv_one]
 split <;> lia
theorem uc {v : Value} {o : Option Int} {Q : Option Int -> Shared -> Prop} (p : IsPart v o) (h : Q o s) : wpAny (model prog w) A (Builtin.Slice.slicePartIndex v) Q E s := by
 cases p with
 | none => exact slicePart_none h
 | int i t => exact slicePart_int h
theorem jd {sl : Addr} {vl vu : Value} {lo hi : Option Int} {n : Nat} {Q : Int × Int × Nat -> Shared -> Prop} (hs : s.heap.IsSliceOf sl vl vu .none) (pl : IsPart vl lo) (pu : IsPart vu hi)
  (h : Q (((sIx n 0 lo : Nat) : Int), 1, sIx n n hi - sIx n 0 lo) s) : wpAny (model prog w) A (Builtin.Slice.sliceApplied (.ref sl) (pure (n : Int))) Q E s := by
 obtain ⟨os, hos, hcs, hds⟩ := id hs
 unfold Builtin.Slice.sliceApplied Builtin.Slice.sliceFields
 refine LQ (LQ (wpAny_field hos hds (x := vl) rfl (LQ (wpAny_field hos hds (x := vu) rfl (LQ (wpAny_field hos hds (x := .none) rfl (LS ?_)))))))
 refine LQ (slicePart_none ?_)
 show wpAny _ _ (if ((1 : Int) == 0) = true then _ else _) _ _ s
 rw [LP (by decide)]
 refine LQ (uc pl (LQ (uc pu (LQ (LS ?_)))))
 show wpAny _ _ (match Builtin.Slice.sliceAdjust lo hi 1 (n : Int) with | (lo, hi) => pure (lo, (1 : Int), Builtin.Slice.slicePlaces lo hi 1)) _ _ s
 rw [AG lo hi n]
 show wpAny _ _ (pure (((sIx n 0 lo : Nat) : Int), (1 : Int), Builtin.Slice.slicePlaces ((sIx n 0 lo : Nat) : Int) ((sIx n n hi : Nat) : Int) 1)) _ _ s
 rw [zu]
 exact LS h
theorem Dl (xs : Array Value) (i k : Nat) : ((List.range k).filterMap fun (m : Nat) => xs[((i : Int) + (m : Int) * 1).toNat]?).toArray = ((xs.toList.drop i).take k).toArray := by
 have e : (fun (m : Nat) => xs[((i : Int) + (m : Int) * 1).toNat]?) = fun m => xs[i + m]? := by
  funext m
  have : ((i : Int) + (m : Int) * 1).toNat = i + m := by lia
  rw [this]
 rw [e]
 have := pick_run xs i k
 rw [List.filterMap_map] at this
 have e2 : ((fun x => xs[x]?) ∘ fun x => i + x) = fun m => xs[i + m]? := rfl
 rw [e2] at this
 rw [this]
theorem og {t sl : Addr} {items : Array Value} {vl vu : Value} {lo hi : Option Int} {Q : Value -> Shared -> Prop} (ht : IsTup s.heap t items) (hs : s.heap.IsSliceOf sl vl vu .none) (pl : IsPart vl lo) (pu : IsPart vu hi)
  (hw : ¬ (sIx items.size 0 lo = 0 /\ sIx items.size items.size hi = items.size))
  (h : Q (.ref s.heap.objs.size) { s with heap := s.heap.push { cls := .type "tuple", data := .seq ((items.toList.drop (sIx items.size 0 lo)).take (sIx items.size items.size hi - sIx items.size 0 lo)).toArray } })
  (hsz : items.size <= sizeLine) : wpAny (model prog w) A (getItem (.ref t) (.ref sl)) Q E s := by
 have htake : sizeOk (.seq ((items.toList.drop (sIx items.size 0 lo)).take (sIx items.size items.size hi - sIx items.size 0 lo)).toArray) := by
  show ((items.toList.drop (sIx items.size 0 lo)).take (sIx items.size items.size hi - sIx items.size 0 lo)).toArray.size <= sizeLine
  rw [L8, List.length_take, List.length_drop, MQ]
  omega
 have hj : sIx items.size items.size hi <= items.size := G4 _ _ (LU _) hi
 obtain ⟨os, hos, hcs, hds⟩ := id hs
 have hTs : s.TypeIs (.ref sl) "slice" := ⟨os, hos, hcs⟩
 unfold getItem
 try with_reducible refine My ?_
 first | refine LQ (LS ?_) | skip
 refine LQ (wpAny_sequenceKey ht.typeIs (by decide) ?_)
 refine LQ (wpAny_callSpecial?_slot (name := Str.ofString "__getitem__") ht.typeIs PyProof.Rows.slot_tuple_getitem
  (wpAny_call_entry PyProof.Rows.slot_tuple_getitem ht.typeIs entry_tuple_getitem ?_ (args_tuple_getitem _ _)))
 show wpAny _ _ (Builtin.Tuple.tupleItemsOf (.ref t) >>= _) _ _ s
 refine LQ (tupleItemsOf_ ht ?_)
 refine LQ (wpAny_typeOf hTs ?_)
 rw [LO (by decide)]
 refine LQ (jd hs pl pu ?_)
 have hno : ¬ ((((sIx items.size 0 lo : Nat) : Int) == 0 && (1 : Int) == 1 && (sIx items.size items.size hi - sIx items.size 0 lo) == items.size) = true) := by
  intro q
  rw [Mw, Mw] at q
  have q1 : ((sIx items.size 0 lo : Nat) : Int) = 0 := eq_of_beq q.1.1
  have q2 : sIx items.size items.size hi - sIx items.size 0 lo = items.size := eq_of_beq q.2
  exact hw ⟨by omega, by omega⟩
 show wpAny _ _ (if (((sIx items.size 0 lo : Nat) : Int) == 0 && (1 : Int) == 1 && (sIx items.size items.size hi - sIx items.size 0 lo) == items.size) = true then _ else _) _ _ s
 rw [LP hno, Dl]
 first
  | exact LQ (m := Builtin.Tuple.tupleExact _) (MS (LS ⟨_, rfl, LS h⟩) htake)
  | exact LQ (m := Builtin.Tuple.tupleExact _) (MS (LQ (LS (LS ⟨_, rfl, LS h⟩))) htake)
  | exact LQ (LQ (m := Builtin.Tuple.tupleExact _) (MS (LS (LS ⟨_, rfl, LS h⟩)) htake))
  | exact LQ (LQ (m := Builtin.Tuple.tupleExact _) (MS (LS ⟨_, rfl, LS h⟩) htake))
end
end HT
namespace L2
open PySem PySem.Spec PyProof.Rows
noncomputable abbrev TO := St -> Hp -> (Option Int -> Hp -> Prop) -> Prop
def PO (X : Cx) (e : Option Expr) (t : TO) : Prop :=
 ∀ (pins : List (Addr × Obj)) (s : Shared) (σ : St) (H : Hp) (Q : Option Int -> Hp -> Prop), Inv X pins σ H s -> t σ H Q ->
  wpAny (model X.prog X.w) X.A (evalPart e X.env) (fun u s' => ∃ o H', Inv X pins σ H' s' /\ IsPart u o /\ Q o H') X.xe s
noncomputable def Ba : TO := fun _ H Q => Q none H
noncomputable def Go (t : TE) : TO := fun σ H Q => t σ H fun x H1 => ∃ i, x = .int i /\ Q (some i) H1
theorem j9 {ns : List Int} : ∀ {us : List Value}, Vals (ns.map V.int) us -> IntsAre us ns := by
 induction ns with
 | nil => intro us r; rw [List.map_nil] at r; cases r; exact .nil
 | cons n ns ih =>
  intro us r
  rw [L1] at r
  cases r with
  | cons r1 r2 =>
   obtain ⟨t, e⟩ := r1
   subst e
   exact .cons n t (ih r2)
section
variable {X : Cx} {e : Expr} {te : TE} {lo hi : Option Expr} {tl th : TO} {pos p2 : Pos}
theorem jC : PO X none Ba := by
 intro pins s σ H Q I h
 rw [evalPart_none]
 exact LS ⟨none, H, I, .none, h⟩
theorem gB (h : PE X e te) : PO X (some e) (Go te) := by
 intro pins s σ H Q I hw
 rw [evalPart_some]
 refine thn (h pins s σ H _ I hw) fun u s1 hpt9 => ?_
 obtain ⟨x, H1, I1, r1, q1⟩ := hpt9
 obtain ⟨i, rfl, q⟩ := q1
 obtain ⟨t, rfl⟩ := r1
 exact ⟨some i, H1, I1, .int i t, q⟩
def SlR (X : Cx) (r : V -> Option Int -> Option Int -> Hp -> VK -> Prop) : Prop :=
 ∀ (pins : List (Addr × Obj)) (s : Shared) (σ : St) (H : Hp) (x : V) (v vl vu : Value) (lo hi : Option Int) (sl : Addr) (Q : VK), Inv X pins σ H s -> RelV x v -> s.heap.IsSliceOf sl vl vu .none -> IsPart vl lo -> IsPart vu hi -> r x lo hi H Q ->
  ∃ T id, typeLookup (.type T) "__getitem__" = pure (some (.builtin id)) /\ s.TypeIs v T /\ wpAny (model X.prog X.w) X.A (getItem v (.ref sl)) (EP X pins σ Q) X.xe s
theorem SlR.or {r r' : V -> Option Int -> Option Int -> Hp -> VK -> Prop} (h : SlR X r) (h' : SlR X r') : SlR X (fun x lo hi H Q => r x lo hi H Q \/ r' x lo hi H Q) := by
 intro pins s σ H x v vl vu lo hi sl Q I rx hs pl pu q
 rcases q with q | q
 ·exact h pins s σ H x v vl vu lo hi sl Q I rx hs pl pu q
 ·exact h' pins s σ H x v vl vu lo hi sl Q I rx hs pl pu q
noncomputable def tSl (r : V -> Option Int -> Option Int -> Hp -> VK -> Prop) (te : TE) (tl th : TO) : TE := fun σ H Q => te σ H fun x H1 => tl σ H1 fun l H2 => th σ H2 fun u H3 => r x l u H3 Q
theorem gg {r : V -> Option Int -> Option Int -> Hp -> VK -> Prop} (hr : SlR X r) (he : PE X e te) (hl : PO X lo tl) (hu : PO X hi th) : PE X (.Subscript e (.Slice lo hi none p2) pos) (tSl r te tl th) := by
 intro pins s σ H Q I h
 refine Subscript_ (thn (he pins s σ H _ I h) fun v s1 hpt9 => ?_)
 obtain ⟨x, H1, I1, r1, q1⟩ := hpt9
 refine wpAny_Slice (thn (hl pins s1 σ H1 _ I1 q1) fun vl s2 ⟨l, H2, I2, pl, q2⟩ => thn (hu pins s2 σ H2 _ I2 q2) fun vu s3 hpt9 => ?_)
 obtain ⟨u, H3, I3, pu, q3⟩ := hpt9
 rw [evalPart_none]
 refine LS ?_
 have I4 : Inv X pins σ H3 { s3 with heap := s3.heap.push { cls := .type "slice", data := .fields #[vl, vu, .none] } } := I3.kept (t' := s3.toks) fun b ob q => Mg _ q
 obtain ⟨T, id, hT, ht, hg⟩ := hr pins { s3 with heap := s3.heap.push { cls := .type "slice", data := .fields #[vl, vu, .none] } } σ H3 x v vl vu l u s3.heap.objs.size Q I4 r1 (Heap.IsSliceOf.new ..) pl pu q3
 show wpAny (model X.prog X.w) X.A (subscriptTail e (.Slice lo hi none p2) v (.ref s3.heap.objs.size)) (EP X pins σ Q) X.xe { s3 with heap := s3.heap.push { cls := .type "slice", data := .fields #[vl, vu, .none] } }
 exact tail_any (ops := [.ref s3.heap.objs.size, v]) ht hT hg (by with_unfolding_all rfl)
noncomputable def nv (xs : List V) (lo hi : Option Int) : List V := (xs.drop (HT.sIx xs.length 0 lo)).take (HT.sIx xs.length xs.length hi - HT.sIx xs.length 0 lo)
theorem qz (xs : List V) (lo hi : Option Int) : (nv xs lo hi).length <= xs.length := by
 unfold nv
 rw [List.length_take, List.length_drop]
 lia
noncomputable def JV (K : W.Frag) : V -> Option Int -> Option Int -> Hp -> VK -> Prop := fun x lo hi H Q => ∃ a xs, x = .ref a /\ SqT K H a xs /\
 ¬ (HT.sIx xs.length 0 lo = 0 /\ HT.sIx xs.length xs.length hi = xs.length) /\ ∀ p, H p = none -> Q (.ref p) (upd H p (.tup (nv xs lo hi)))
theorem GE : SlR X (JV X.K) := by
 intro pins s σ H x v vl vu lo hi sl Q I rx hs pl pu h
 obtain ⟨a, xs, rfl, hx, hw, q⟩ := h
 cases rx
 obtain ⟨its, r, ht, hz⟩ := I.tuple hx
 have hlen : its.toArray.size = xs.length := by rw [L8]; exact r.length.symm
 refine ⟨"tuple", _, PyProof.Rows.slot_tuple_getitem.lookup, ht.typeIs, ?_⟩
 refine HT.og ht hs pl pu (by rw [hlen]; exact hw) ?_ (by rw [hlen]; exact hz)
 rw [hlen]
 refine ⟨.ref s.heap.objs.size, _, I.laid (t' := s.toks) (o := .tup (nv xs lo hi)) (fun b ob q => Mg _ q) (LU _) ?_, rfl, q _ (I.hok.fresh (LU _))⟩
 exact ⟨Mm (qz xs lo hi) hz, _, (r.drop (HT.sIx xs.length 0 lo)).take (HT.sIx xs.length xs.length hi - HT.sIx xs.length 0 lo), IsTup.new _ _⟩
noncomputable def Ha (K : W.Frag) : R2 := fun x y H Q => ∃ a b ns ms, x = .ref a /\ y = .ref b /\ SqT K H a (ns.map V.int) /\ SqT K H b (ms.map V.int) /\ Q (.bl (HT.aQ ns ms)) H
theorem Hb (hu : X.A.units < cLine) : OpR X (compareOp .Lt) (Ha X.K) := by
 intro pins s σ H x y v u Q I rx ry h
 obtain ⟨a, b, ns, ms, rfl, rfl, ha, hb, q⟩ := h
 cases rx
 cases ry
 obtain ⟨its, r1, p1, _⟩ := I.tuple ha
 obtain ⟨its2, r2, p2, _⟩ := I.tuple hb
 have i1 : IntsAre its.toArray.toList ns := j9 r1
 have i2 : IntsAre its2.toArray.toList ms := j9 r2
 exact HT.t7 p1 p2 i1 i2 hu ⟨.bl (HT.aQ ns ms), H, I, rfl, q⟩
theorem Vals.nil_iff {xs : List V} {us : List Value} (r : Vals xs us) : us = [] ↔ xs = [] := by
 cases r with
 | nil => simp
 | cons _ _ => simp
end
noncomputable def ixN (n : Nat) (i : Int) : Option Nat := if 0 <= i then (if i < n then some i.toNat else none) else if -(n : Int) <= i then some (i + n).toNat else none
noncomputable def atI {α : Type} (xs : List α) (i : Int) : Option α := (ixN xs.length i).bind fun j => xs[j]?
theorem AY {n : Nat} {i : Int} {j : Nat} (h : ixN n i = some j) : seqIndex? i n = some j /\ j < n /\ -(n : Int) <= i /\ i < n := by
 unfold ixN at h
 by_cases h0 : 0 <= i
 ·rw [LO h0] at h
  by_cases h1 : i < n
  ·rw [LO h1] at h
   have e : i.toNat = j := Ml h
   exact ⟨by rw [seqIndex_of h0 h1, e], by lia, by lia, h1⟩
  ·rw [LP h1] at h; cases h
 ·rw [LP h0] at h
  by_cases h1 : -(n : Int) <= i
  ·rw [LO h1] at h
   have e : (i + n).toNat = j := Ml h
   exact ⟨by rw [seqIndex_neg (by lia) h1, e], by lia, h1, by lia⟩
  ·rw [LP h1] at h; cases h
theorem vY {α : Type} {xs : List α} {i : Int} {v : α} (h : atI xs i = some v) : ∃ j, seqIndex? i xs.length = some j /\ xs[j]? = some v /\ j < xs.length /\ -(xs.length : Int) <= i /\ i < xs.length := by
 unfold atI at h
 cases e : ixN xs.length i with
 | none => rw [e] at h; cases h
 | some j =>
  rw [e] at h
  obtain ⟨h1, h2, h3, h4⟩ := AY e
  exact ⟨j, h1, h, h2, h3, h4⟩
def Fm (b : Expr) : Prop := ∀ o i, subscripted b false o i = operate [o, i] (getItem o i)
def IxR (X : Cx) (r : R2) : Prop :=
 ∀ (value slice : Expr) (pins : List (Addr × Obj)) (s : Shared) (σ : St) (H : Hp) (x y : V) (v u : Value) (Q : VK), Inv X pins σ H s -> RelV x v -> RelV y u -> r x y H Q ->
  subscripted slice false v u = operate [v, u] (getItem v u) -> wpAny (model X.prog X.w) X.A (subscriptTail value slice v u) (EP X pins σ Q) X.xe s
def MtR (X : Cx) (id : String) (r : V -> List V -> Hp -> VK -> Prop) : Prop :=
 ∀ (pins : List (Addr × Obj)) (s : Shared) (σ : St) (H : Hp) (x : V) (xs : List V) (v : Value) (us : List Value) (Q : VK), Inv X pins σ H s -> RelV x v -> Vals xs us -> r x xs H Q ->
  wpAny (model X.prog X.w) X.A (call (.builtin id) (v :: us)) (EP X pins σ Q) X.xe s
section
variable {X : Cx} {a b : Expr} {ta tb : TE} {pos : Pos}
theorem IxR.or {r r' : R2} (h : IxR X r) (h' : IxR X r') : IxR X (fun x y H Q => r x y H Q \/ r' x y H Q) := by
 intro value slice pins s σ H x y v u Q I rx ry q hs
 rcases q with q | q
 ·exact h value slice pins s σ H x y v u Q I rx ry q hs
 ·exact h' value slice pins s σ H x y v u Q I rx ry q hs
theorem aG {r : R2} (hr : IxR X r) (ha : PE X a ta) (hb : PE X b tb) (hs : Fm b) : PE X (.Subscript a b pos) (tOp r ta tb) := by
 intro pins s σ H Q I h
 exact Subscript_ (Hu ha hb I h fun v u s2 x y H2 I2 rx ry q => hr a b pins s2 σ H2 x y v u Q I2 rx ry q (hs _ _))
noncomputable def IB (K : W.Frag) : R2 := fun x y H Q => ∃ p xs i v, x = .ref p /\ y = .int i /\ SqL K H p xs /\ atI xs i = some v /\ Q v H
noncomputable def Jb (K : W.Frag) : R2 := fun x y H Q => ∃ p xs i v, x = .ref p /\ y = .int i /\ SqT K H p xs /\ atI xs i = some v /\ Q v H
noncomputable def IG : R2 := fun x y H Q => ∃ z i c, x = .str z /\ y = .int i /\ z.length <= sizeLine /\ atI z.cps.toList i = some c /\ Q (.str ⟨#[c]⟩) H
theorem ix_list : IxR X (IB X.K) := by
 intro value slice pins s σ H x y v u Q I rx ry h hs
 obtain ⟨p, xs, i, z, rfl, rfl, hq, he, q⟩ := h
 cases rx
 obtain ⟨t, rfl⟩ := ry
 obtain ⟨its, r, pl, hz⟩ := I.list hq
 obtain ⟨j, h1, h2, h3, h4, h5⟩ := vY he
 obtain ⟨w, ew, rw'⟩ := r.get h2
 have hl := r.length
 have hn := pD
 have fin : EP X pins σ Q w s := ⟨z, H, I, rw', q⟩
 by_cases h0 : 0 <= i
 ·have hj : i.toNat = j := by
   rw [seqIndex_of h0 h5] at h1
   exact Ml h1
  exact item_listR pl.isList h0 (by lia) (by rw [hj]; simpa using ew) fin hs
 ·have hj : (i + (its.toArray.size : Int)).toNat = j := by
   rw [seqIndex_neg (by lia) h4] at h1
   rw [L8, <- hl]
   exact Ml h1
  exact subscriptTail_builtinR (x := w) pl.isList.typeIs slot_list_getitem.lookup
   (wpAny_getItem_list_neg (Q := fun r s' => r = w /\ EP X pins σ Q r s') pl.isList (by lia) (by rw [L8] <;> lia) (by lia) (by rw [hj]; simpa using ew) ⟨rfl, fin⟩) hs
theorem ix_tup : IxR X (Jb X.K) := by
 intro value slice pins s σ H x y v u Q I rx ry h hs
 obtain ⟨p, xs, i, z, rfl, rfl, hq, he, q⟩ := h
 cases rx
 obtain ⟨t, rfl⟩ := ry
 obtain ⟨its, r, pl, hz⟩ := I.tuple hq
 obtain ⟨j, h1, h2, h3, h4, h5⟩ := vY he
 obtain ⟨w, ew, rw'⟩ := r.get h2
 have hl := r.length
 have hn := pD
 have fin : EP X pins σ Q w s := ⟨z, H, I, rw', q⟩
 exact subscriptTail_builtinR (x := w) pl.typeIs slot_tuple_getitem.lookup
  (getItem_tuple (j := j) (Q := fun r s' => r = w /\ EP X pins σ Q r s') pl (by lia) (by lia) (by rw [L8, <- hl]; exact h1) (by simpa using ew) ⟨rfl, fin⟩) hs
theorem G9 : IxR X IG := by
 intro value slice pins s σ H x y v u Q I rx ry h hs
 obtain ⟨z, i, c, rfl, rfl, hz, he, q⟩ := h
 obtain ⟨t, rfl⟩ := rx
 obtain ⟨t', rfl⟩ := ry
 obtain ⟨j, h1, h2, h3, h4, h5⟩ := vY he
 have hl : z.cps.toList.length = z.length := by simp [Str.length]
 rw [hl] at h1 h4 h5
 have hn := pD
 exact tail_any (typeIs_str s z t) slot_str_getitem.lookup (getItem_str (c := c) (by
  have e1 : decide (i < -(2 ^ 63 : Int)) = false := LX (by lia)
  have e2 : decide (i ≥ 2 ^ 63) = false := LX (by lia)
  rw [e1, e2, Bool.or_false]) (by rw [h1]; simpa using h2) ⟨.str ⟨#[c]⟩, H, I.tok _, ⟨_, rfl⟩, q⟩) hs
noncomputable def rIx (K : W.Frag) : R2 := fun x y H Q => IB K x y H Q \/ Jb K x y H Q \/ IG x y H Q
theorem aA : IxR X (rIx X.K) := ix_list.or (ix_tup.or G9)
theorem AD (its : List Value) (n j : Nat) (u : Value) : Obj.mapSeq (·.setIfInBounds j u) { cls := .type "list", data := .seq its.toArray n } = { cls := .type "list", data := .seq (its.set j u).toArray n } := by
 simp [Obj.mapSeq]
theorem Inv.lst {pins : List (Addr × Obj)} {σ : St} {H : Hp} {s : Shared} {p : Addr} {xs : List V} (I : Inv X pins σ H s) (h : H p = some (.lst xs)) :
  ∃ (its : List Value) (n : Nat), Vals xs its /\ s.heap.get? p = some { cls := .type "list", data := .seq its.toArray n } /\ xs.length <= sizeLine := by
 obtain ⟨z, its, n, r, e⟩ := I.hok p _ h
 exact ⟨its, n, r, e, z⟩
theorem Inv.lstUpd {pins : List (Addr × Obj)} {σ : St} {H : Hp} {s : Shared} {p : Addr} {xs ys : List V} {its its' : List Value} {n n' : Nat} {f : Obj -> Obj} (I : Inv X pins σ H s) (h : H p = some (.lst xs))
  (ho : s.heap.get? p = some { cls := .type "list", data := .seq its.toArray n }) (hf : f { cls := .type "list", data := .seq its.toArray n } = { cls := .type "list", data := .seq its'.toArray n' }) (r : Vals ys its') (hz : ys.length <= sizeLine) (t : Nat) :
  Inv X pins σ (upd H p (.lst ys)) { s with heap := s.heap.update p f, toks := t } := by
 have e : (s.heap.update p f).get? p = some { cls := .type "list", data := .seq its'.toArray n' } := by
  rw [Heap.get?_update_self f ho (by rw [hf] <;> rfl), hf]
 refine I.write (x := p) (e := p) (by rw [h]; trivial) (.inl rfl) (fun b u hb q => (MW _ _ (Ma hb)).trans q) ⟨_, e⟩ ?_
 exact ⟨hz, its', n', r, e⟩
noncomputable def Gc : V -> V -> V -> Hp -> (Hp -> Prop) -> Prop := fun o i v H Q => ∃ p xs k j, o = .ref p /\ i = .int k /\ H p = some (.lst xs) /\ ixN xs.length k = some j /\ Q (upd H p (.lst (xs.set j v)))
theorem DT : Jg X Gc := by
 intro pins s σ H o i v ov iv u Q I ro ri rv h
 obtain ⟨p, xs, k, j, rfl, rfl, hp, hj, q⟩ := h
 cases ro
 obtain ⟨t, rfl⟩ := ri
 obtain ⟨its, n, r, ho, hz⟩ := I.lst hp
 obtain ⟨h1, h2, h3, h4⟩ := AY hj
 have hl := r.length
 have hn := pD
 have I' : Inv X pins σ (upd H p (.lst (xs.set j v))) { s with heap := s.heap.update p (Obj.mapSeq (·.setIfInBounds j u)) } :=
  I.lstUpd hp ho (AD its n j u) (r.set rv j) (by rw [MC]; exact hz) s.toks
 by_cases h0 : 0 <= k
 ·have hk : k.toNat = j := by
   rw [seqIndex_of h0 h4] at h1
   exact Ml h1
  exact W.ki_setAt ho h0 (by lia) (by rw [L8, <- hl]; exact h4) (by rw [hk]; exact ⟨_, I', q⟩)
 ·have hk : (k + (its.toArray.size : Int)).toNat = j := by
   rw [seqIndex_neg (by lia) h3] at h1
   rw [L8, <- hl]
   exact Ml h1
  exact W.ki_setBack ho (by lia) (by rw [L8, <- hl]; exact h3) (by lia) (by rw [hk]; exact ⟨_, I', q⟩)
theorem vL (lo hi : Option Int) (n : Nat) : (sliceBounds lo hi none n).1 = ((HT.sIx n 0 lo : Nat) : Int) /\ (sliceBounds lo hi none n).2.1 = ((HT.sIx n n hi : Nat) : Int) /\ (sliceBounds lo hi none n).2.2 = 1 := by
 refine ⟨?_, ?_, rfl⟩
 ·cases lo with
  | none => simp [sliceBounds, HT.sIx]
  | some i =>
   simp only [sliceBounds, HT.sIx, Option.getD_none, show (1 : Int) > 0 by decide, if_true]
   by_cases h : i < 0
   ·simp only [h, if_true] <;> lia
   ·simp only [h, if_false] <;> lia
 ·cases hi with
  | none => simp [sliceBounds, HT.sIx]
  | some i =>
   simp only [sliceBounds, HT.sIx, Option.getD_none, show (1 : Int) > 0 by decide, if_true]
   by_cases h : i < 0
   ·simp only [h, if_true] <;> lia
   ·simp only [h, if_false] <;> lia
theorem uo (its : List Value) (lo hi : Option Int) : slicePick its.toArray lo hi none = ((its.drop (HT.sIx its.length 0 lo)).take (HT.sIx its.length its.length hi - HT.sIx its.length 0 lo)).toArray := by
 obtain ⟨h1, h2, h3⟩ := vL lo hi its.toArray.size
 unfold slicePick
 rw [h1, h2, h3]
 simp only [sliceRange_one, pick_run, L8] <;> rfl
noncomputable def Iv (K : W.Frag) : V -> Option Int -> Option Int -> Hp -> VK -> Prop := fun x lo hi H Q => ∃ a xs, x = .ref a /\ SqL K H a xs /\ ∀ p, H p = none -> Q (.ref p) (upd H p (.lst (nv xs lo hi)))
theorem FD : SlR X (Iv X.K) := by
 intro pins s σ H x v vl vu lo hi sl Q I rx hs pl pu h
 obtain ⟨a, xs, rfl, hx, q⟩ := h
 cases rx
 obtain ⟨its, r, ht, hz⟩ := I.list hx
 have hlen := r.length
 refine ⟨"list", _, slot_list_getitem.lookup, ht.isList.typeIs, ?_⟩
 refine wpAny_getItem_list_slice ht.isList hs pl pu .none (by simp) ?_ (by rw [L8] <;> lia)
 rw [uo, <- hlen]
 refine ⟨.ref s.heap.objs.size, _, I.laid (t' := s.toks) (o := .lst (nv xs lo hi)) (fun b ob q => Mg _ q) (LU _) ?_, rfl, q _ (I.hok.fresh (LU _))⟩
 exact ⟨Mm (qz xs lo hi) hz, _, 0, (r.drop (HT.sIx xs.length 0 lo)).take (HT.sIx xs.length xs.length hi - HT.sIx xs.length 0 lo), Mu _ rfl⟩
noncomputable def nQ : V -> Bool
 | .non => true
 | .bl _ => true
 | .int _ => true
 | .str _ => true
 | _ => false
noncomputable def eqV : V -> V -> Bool
 | .non, .non => true
 | .bl a, .bl b => a == b
 | .bl a, .int b => (if a then 1 else 0) == b
 | .int a, .bl b => a == (if b then 1 else 0)
 | .int a, .int b => a == b
 | .str a, .str b => a == b
 | _, _ => false
theorem HB {A : Around} {s : Shared} {y x : V} {u v : Value} (ry : RelV y u) (rx : RelV x v) (fy : nQ y = true) (fx : nQ x = true) : SeqAt.EqAt A s u v (eqV y x) := by
 cases y with
 | non =>
  cases ry
  cases x with
  | non => cases rx; exact SeqAt.EqAt.same _
  | bl b => cases rx; exact SeqAt.EqAt.none_bool b
  | int b => obtain ⟨t, rfl⟩ := rx; exact SeqAt.EqAt.none_int b t
  | str b => obtain ⟨t, rfl⟩ := rx; exact SeqAt.EqAt.none_str b t
  | _ => exact absurd (show false = true from fx) MH
 | bl a =>
  cases ry
  cases x with
  | non => cases rx; exact SeqAt.EqAt.bool_none a
  | bl b => cases rx; exact SeqAt.EqAt.bool_bool a b
  | int b => obtain ⟨t, rfl⟩ := rx; exact SeqAt.EqAt.bool_int a b t
  | str b => obtain ⟨t, rfl⟩ := rx; exact SeqAt.EqAt.bool_str a b t
  | _ => exact absurd (show false = true from fx) MH
 | int a =>
  obtain ⟨t', rfl⟩ := ry
  cases x with
  | non => cases rx; exact SeqAt.EqAt.int_none a t'
  | bl b => cases rx; exact SeqAt.EqAt.int_bool a t' b
  | int b => obtain ⟨t, rfl⟩ := rx; exact SeqAt.EqAt.int_int a t' b t
  | str b => obtain ⟨t, rfl⟩ := rx; exact SeqAt.EqAt.int_str a t' b t
  | _ => exact absurd (show false = true from fx) MH
 | str a =>
  obtain ⟨t', rfl⟩ := ry
  cases x with
  | non => cases rx; exact SeqAt.EqAt.str_none a t'
  | bl b => cases rx; exact SeqAt.EqAt.str_bool a t' b
  | int b => obtain ⟨t, rfl⟩ := rx; exact SeqAt.EqAt.str_int a t' b t
  | str b => obtain ⟨t, rfl⟩ := rx; exact SeqAt.EqAt.str_str a t' b t
  | _ => exact absurd (show false = true from fx) MH
 | _ => exact absurd (show false = true from fy) MH
noncomputable def eqU (x : V) (u : Value) : Bool := match u with
 | .none => eqV .non x
 | .bool b => eqV (.bl b) x
 | .int i _ => eqV (.int i) x
 | .str z _ => eqV (.str z) x
 | _ => false
theorem Ev {x y : V} {u : Value} (r : RelV y u) (f : nQ y = true) : eqU x u = eqV y x := by
 cases y with
 | non => cases r; rfl
 | bl b => cases r; rfl
 | int i => obtain ⟨t, rfl⟩ := r; rfl
 | str z => obtain ⟨t, rfl⟩ := r; rfl
 | _ => exact absurd (show false = true from f) MH
theorem v9 {x : V} : ∀ {xs : List V} {us : List Value}, Vals xs us -> xs.all nQ = true -> us.any (eqU x) = xs.any fun y => eqV y x
 | _, _, .nil, _ => rfl
 | y :: xs, u :: us, .cons r t, f => by
  rw [List.all_cons, Mw] at f
  rw [List.any_cons, List.any_cons, Ev r f.1, v9 t f.2]
theorem tX {A : Around} {s : Shared} {x : V} {v : Value} (rx : RelV x v) (fx : nQ x = true) : ∀ {xs : List V} {us : List Value}, Vals xs us -> xs.all nQ = true -> ∀ u ∈ us, SeqAt.EqAt A s u v (eqU x u)
 | _, _, .nil, _ => fun u hu => by cases hu
 | y :: xs, u :: us, .cons r t, f => fun u' hu => by
  rw [List.all_cons, Mw] at f
  rcases L9.mp hu with rfl | hu
  ·rw [Ev r f.1]; exact HB r rx f.1 fx
  ·exact tX rx fx t f.2 u' hu
noncomputable def inV (x : V) (xs : List V) : Bool := xs.any fun y => eqV y x
noncomputable def rIn (K : W.Frag) (neg : Bool) : R2 := fun x y H Q => ∃ p xs, y = .ref p /\ (SqL K H p xs \/ SqT K H p xs) /\ nQ x = true /\ xs.all nQ = true /\ Q (.bl (if neg then !inV x xs else inV x xs)) H
theorem CI : OpR X (compareOp .In) (rIn X.K false) := by
 intro pins s σ H x y v u Q I rx ry h
 obtain ⟨p, xs, rfl, hq, fx, fs, q⟩ := h
 cases ry
 rcases hq with hq | hq
 ·obtain ⟨its, r, pl, hz⟩ := I.list hq
  refine SeqAt.in_listAt (eqU x) pl.isList (fun w hw => tX rx fx r fs w (by simpa using hw)) ⟨.bl _, H, I, rfl, ?_⟩
  rw [show its.toArray.any (eqU x) = its.any (eqU x) by simp, v9 r fs]
  exact q
 ·obtain ⟨its, r, pl, hz⟩ := I.tuple hq
  refine SeqAt.in_tupleAt (eqU x) pl (fun w hw => tX rx fx r fs w (by simpa using hw)) ⟨.bl _, H, I, rfl, ?_⟩
  rw [show its.toArray.any (eqU x) = its.any (eqU x) by simp, v9 r fs]
  exact q
theorem CallR.or {f : Value} {r r' : List V -> Hp -> VK -> Prop} (h : CallR X f r) (h' : CallR X f r') : CallR X f (fun xs H Q => r xs H Q \/ r' xs H Q) := by
 intro pins s σ H xs us Q I rs q
 rcases q with q | q
 ·exact h pins s σ H xs us Q I rs q
 ·exact h' pins s σ H xs us Q I rs q
theorem wf : CallR X (.type "list") (fun xs H Q => ∃ p ys, xs = [.ref p] /\ (SqL X.K H p ys \/ SqT X.K H p ys) /\ ∀ l, H l = none -> Q (.ref l) (upd H l (.lst ys))) := by
 intro pins s σ H xs us Q I r h
 obtain ⟨p, ys, rfl, hq, q⟩ := h
 obtain ⟨u, rfl, rx⟩ := DV r
 cases rx
 have fin : ∀ (its : List Value), Vals ys its -> ys.length <= sizeLine -> ∀ (h' : Heap) (c' : Nat), (∀ b o', s.heap.get? b = some o' -> h'.get? b = some o') ->
   h'.get? s.heap.objs.size = some { cls := .type "list", dict := none, data := .seq its.toArray c', slots := #[] } -> EP X pins σ Q (.ref s.heap.objs.size) { s with heap := h' } := fun its r' hz h' c' kp e =>
  ⟨.ref s.heap.objs.size, _, I.laid (t' := s.toks) kp (LU _) (show ObjOk X.prog X.w _ h' _ (.lst ys) from ⟨hz, its, c', r', e⟩), rfl, q _ (I.hok.fresh (LU _))⟩
 rcases hq with hq | hq
 ·obtain ⟨its, r', pl, hz⟩ := I.list hq
  have hlen := r'.length
  obtain ⟨o, ho, hc, n, hd⟩ := pl.isList
  exact call_list_seq p (.inl rfl) ho hc hd (fun h' c' kp e => fin its r' hz h' c' kp e) (by simp only [L8] <;> lia)
 ·obtain ⟨its, r', pl, hz⟩ := I.tuple hq
  have hlen := r'.length
  obtain ⟨o, ho, hc, n, hd⟩ := pl
  exact call_list_seq p (.inr rfl) ho hc hd (fun h' c' kp e => fin its r' hz h' c' kp e) (by simp only [L8] <;> lia)
theorem f9 : CallR X (.type "tuple") (fun xs H Q => ∃ p ys, xs = [.ref p] /\ ((SqL X.K H p ys /\ ∀ l, H l = none -> Q (.ref l) (upd H l (.tup ys))) \/ (SqT X.K H p ys /\ Q (.ref p) H))) := by
 intro pins s σ H xs us Q I r h
 obtain ⟨p, ys, rfl, h⟩ := h
 obtain ⟨u, rfl, rx⟩ := DV r
 cases rx
 rcases h with ⟨hq, q⟩ | ⟨hq, q⟩
 ·obtain ⟨its, r', pl, hz⟩ := I.list hq
  have hlen := r'.length
  refine call_tuple_list pl.isList (fun h' kp => ?_) (by simp only [L8] <;> lia)
  have I1 : Inv X pins σ H { s with heap := h' } := I.kept (t' := s.toks) kp
  have I2 : Inv X pins σ (upd H h'.objs.size (.tup ys)) { s with heap := h'.push { cls := .type "tuple", data := .seq its.toArray } } :=
   I1.laid (t' := s.toks) (fun b o e => Mg _ e) (LU _) (show ObjOk X.prog X.w _ _ _ (.tup ys) from ⟨hz, its, r', IsTup.new _ _⟩)
  exact ⟨.ref h'.objs.size, _, I2, rfl, q _ (I1.hok.fresh (LU _))⟩
 ·obtain ⟨its, r', pl, hz⟩ := I.tuple hq
  exact call_tuple_same pl ⟨.ref p, H, I, rfl, q⟩
def tyV (K : W.Frag) (T : String) (x : V) (H : Hp) : Prop := match x with
 | .str _ => T = "str"
 | .int _ => T = "int"
 | .ref p => (T = "list" /\ ∃ xs, SqL K H p xs) \/ (T = "tuple" /\ ∃ o, K.lookup p = some o /\ o.cls = .type "tuple" /\ o.dict = none) \/
   (T = "dict" /\ ((∃ kvs, H p = some (.dK kvs)) \/ ∃ kvs, H p = some (.dT kvs))) \/ (T = "set" /\ ∃ S n, H p = some (.set S n))
 | _ => False
theorem Ew {pins : List (Addr × Obj)} {σ : St} {H : Hp} {s : Shared} {T : String} {x : V} {v : Value} (I : Inv X pins σ H s) (r : RelV x v) (ty : tyV X.K T x H) :
  s.TypeIs v T /\ ∀ a, v = .ref a -> ∃ ob, s.heap.get? a = some ob /\ ob.dict = none := by
 cases x with
 | str z =>
  obtain ⟨t, rfl⟩ := r
  cases (show T = "str" from ty)
  exact ⟨typeIs_str s z t, fun _ e => nomatch e⟩
 | int i =>
  obtain ⟨t, rfl⟩ := r
  cases (show T = "int" from ty)
  exact ⟨typeIs_int s i t, fun _ e => nomatch e⟩
 | ref p =>
  cases r
  rcases ty with ⟨rfl, xs, hq⟩ | ⟨rfl, o, hk, hc, hd⟩ | ⟨rfl, hk⟩ | ⟨rfl, S, n, hk⟩
  ·obtain ⟨its, _, pl, _⟩ := I.list hq
   refine ⟨pl.isList.typeIs, fun a e => ?_⟩
   cases e
   obtain ⟨o, n, e, c, hd, _⟩ := pl
   exact ⟨o, e, hd⟩
  ·refine ⟨⟨o, I.kIn p o hk, hc⟩, fun a e => ?_⟩
   cases e
   exact ⟨o, I.kIn _ o hk, hd⟩
  ·have z : ∃ o, s.heap.get? p = some o /\ o.ExactDict := by
    rcases hk with ⟨kvs, hk⟩ | ⟨kvs, hk⟩
    ·obtain ⟨_, _, _, _, o, _, _, e, ex, _⟩ := I.hok p _ hk
     exact ⟨o, e, ex⟩
    ·obtain ⟨_, _, _, _, o, _, _, e, ex, _⟩ := I.hok p _ hk
     exact ⟨o, e, ex⟩
   obtain ⟨o, e, ex⟩ := z
   refine ⟨⟨o, e, ex.1⟩, fun a e2 => ?_⟩
   cases e2
   exact ⟨o, e, ex.2.1⟩
  ·obtain ⟨o, _, _, _, e, ex, _⟩ := I.hok p _ hk
   refine ⟨⟨o, e, ex.1⟩, fun a e2 => ?_⟩
   cases e2
   exact ⟨o, e, ex.2.1⟩
 | _ => exact False.elim ty
noncomputable def II (K : W.Frag) (T : String) (r : V -> List V -> Hp -> VK -> Prop) (to : TE) : TE := fun σ H Q => to σ H fun x H1 => tyV K T x H1 /\ r x [] H1 Q
noncomputable def tBM (K : W.Frag) (T : String) (r : V -> List V -> Hp -> VK -> Prop) (to : TE) (t : TA) : TE := fun σ H Q => to σ H fun x H1 => tyV K T x H1 /\ t σ H1 fun xs H2 => r x xs H2 Q
variable {o e : Expr} {es : List Expr} {to : TE} {t : TA} {name : Str} {apos cpos : Pos} {T id : String} {r : V -> List V -> Hp -> VK -> Prop}
theorem GF (pa : PlainAttrs T) (slot : Slot T name id) (hty : typeOf (.builtin id) = pure (.type "method_descriptor")) (hm : MtR X id r) (ho : PE X o to)
  (hbase : attributeBase o name X.env (eval o X.env) = eval o X.env := by rfl) (hline : (apos.endLine == cpos.line) = true := by rfl) : PE X (.Call (.Attribute o name apos) [] [] cpos) (II X.K T r to) := by
 intro pins s σ H Q I h
 refine wpAny_Call_method0_late hbase hline (thn (ho pins s σ H _ I h) fun v s1 hpt9 => ?_)
 obtain ⟨x, H1, I1, r1, ty, q1⟩ := hpt9
 obtain ⟨h1, h2⟩ := Ew I1 r1 ty
 exact ⟨T, id, pa, slot, hty, h1, h2, Calls.callWith_builtin rfl (PySem.evalArgs_none (hm pins s1 σ H1 x [] v [] Q I1 r1 .nil q1))⟩
theorem ol (pa : PlainAttrs T) (slot : Slot T name id) (hty : typeOf (.builtin id) = pure (.type "method_descriptor")) (hm : MtR X id r) (ho : PE X o to) (ha : PA X (e :: es) t)
  (hbase : attributeBase o name X.env (eval o X.env) = eval o X.env := by rfl)
  (hfew : ((backTo cpos (starEach (e :: es) X.env)).all (fun x => !x.1) && (backToKw cpos (keywordEach [] X.env)).all (fun x => x.1.isSome)
   && decide ((e :: es).length + ([] : List Keyword).length + (if ([] : List Keyword).isEmpty then 0 else 1) < 30)) = true := by rfl)
  (hline : (apos.endLine == cpos.line) = true := by rfl) (hs : starEach (e :: es) X.env = (false, eval e X.env) :: starEach es X.env := by rfl) (hplain : (backTo cpos (starEach es X.env)).any (·.1) = false := by rfl) :
  PE X (.Call (.Attribute o name apos) (e :: es) [] cpos) (tBM X.K T r to t) := by
 intro pins s σ H Q I h
 refine wpAny_Call_method_late hbase hfew hline rfl (thn (ho pins s σ H _ I h) fun v s1 hpt9 => ?_)
 obtain ⟨x, H1, I1, r1, ty, q1⟩ := hpt9
 obtain ⟨h1, h2⟩ := Ew I1 r1 ty
 refine ⟨T, id, pa, slot, hty, h1, h2, ?_⟩
 have hA := ha cpos pins s1 σ H1 _ I1 q1
 rw [hs] at hA ⊢
 refine Calls.callWith_builtin (by show (false || (backTo cpos (starEach es X.env)).any (·.1)) = false; rw [hplain] <;> rfl) (Calls.evalArgs_plain ?_)
 exact thn hA fun us s2 ⟨vs, H2, I2, r2, q2⟩ => hm pins s2 σ H2 x vs v us Q I2 r1 r2 q2
end
def MtM (X : Cx) (id : String) (r : V -> List V -> Hp -> VK -> Prop) : Prop :=
 ∀ (pins : List (Addr × Obj)) (s : Shared) (σ : St) (H : Hp) (x : V) (xs : List V) (v : Value) (us : List Value) (Q : VK), Inv X pins σ H s -> RelV x v -> Vals xs us -> r x xs H Q ->
  wpAny (model X.prog X.w) X.A (call (.builtin id) (v :: us)) (EP X pins σ Q) X.xe s
theorem Vals.one {x : V} {us : List Value} (h : Vals [x] us) : ∃ u, us = [u] /\ RelV x u := by
 cases h with
 | cons r t => cases t; exact ⟨_, rfl, r⟩
theorem Vals.two {x y : V} {us : List Value} (h : Vals [x, y] us) : ∃ u v, us = [u, v] /\ RelV x u /\ RelV y v := by
 cases h with
 | cons r t =>
  cases t with
  | cons q t => cases t; exact ⟨_, _, rfl, r, q⟩
theorem Vals.zero : ∀ {us : List Value}, Vals [] us -> us = []
 | _, .nil => rfl
section
variable {X : Cx} {pins : List (Addr × Obj)} {σ : St} {H : Hp} {s : Shared} {l b : Addr} {xs ys zs : List V}
theorem Inv.lset {its its' : List Value} {n : Nat} {f : Array Value -> Array Value} {t' : Nat} (I : Inv X pins σ H s) (hH : H l = some (.lst xs))
  (e : s.heap.get? l = some { cls := .type "list", data := .seq its.toArray n }) (hf : f its.toArray = its'.toArray) (hv : Vals ys its') (hz : ys.length <= sizeLine) :
  Inv X pins σ (upd H l (.lst ys)) { s with heap := s.heap.update l (Obj.mapSeq f), toks := t' } := by
 have q := PySem.IsL.update e f
 rw [hf] at q
 refine I.write (x := l) (e := l) (by rw [hH]; exact trivial) (.inl rfl) (fun b' u hb hu => (MW s.heap (Obj.mapSeq f) (Ma hb)).trans hu) ⟨_, q⟩ ?_
 exact ⟨hz, its', _, hv, q⟩
theorem Inv.lnew {its : List Value} {t' : Nat} (I : Inv X pins σ H s) (hv : Vals ys its) (hz : ys.length <= sizeLine) :
  Inv X pins σ (upd H s.heap.objs.size (.lst ys)) { s with heap := s.heap.push { cls := .type "list", data := .seq its.toArray }, toks := t' } :=
 I.laid (fun _ _ q => Mg _ q) (LU _) ⟨hz, its, 0, hv, Mu _ rfl⟩
theorem Inv.fresh (I : Inv X pins σ H s) : H s.heap.objs.size = none := I.hok.fresh (LU _)
theorem Inv.lstM (I : Inv X pins σ H s) (hH : H l = some (.lst xs)) : xs.length <= sizeLine /\ ∃ (its : List Value) (n : Nat), Vals xs its /\ xs.length = its.length /\ s.heap.get? l = some { cls := .type "list", data := .seq its.toArray n } := by
 obtain ⟨z, its, n, r, e⟩ := I.hok l _ hH
 exact ⟨z, its, n, r, r.length, e⟩
theorem EX {n : Nat} (h : n <= sizeLine) : Builtin.List.listTooLong n = false := by
 unfold Builtin.List.listTooLong
 exact LX (by lia)
end
section
variable {X : Cx}
noncomputable def rAppend : V -> List V -> Hp -> VK -> Prop := fun x vs H Q => ∃ l xs y, x = .ref l /\ vs = [y] /\ H l = some (.lst xs) /\ xs.length < sizeLine /\ Q .non (upd H l (.lst (xs ++ [y])))
theorem fQ : MtM X "list.append" rAppend := by
 intro pins s σ H x vs v us Q I rx rv h
 obtain ⟨l, xs, y, rfl, rfl, hH, hz, q⟩ := h
 cases rx
 obtain ⟨u, rfl, ru⟩ := rv.one
 obtain ⟨z, its, n, r, hl, e⟩ := I.lstM hH
 refine call_meets F.slot_list_append ⟨_, e, rfl⟩ F.entry_list_append (F.args_list_append_2 _ _) (PySem.list_append l its.toArray n u (by rw [L8]; lia)) ⟨e, ?_⟩
 refine ⟨.non, _, I.lset (its' := its ++ [u]) hH e (by simp) (r.append (.cons ru .nil)) ?_, rfl, q⟩
 rw [LZ, Mt]
 lia
noncomputable def rClear : V -> List V -> Hp -> VK -> Prop := fun x vs H Q => ∃ l xs, x = .ref l /\ vs = [] /\ H l = some (.lst xs) /\ Q .non (upd H l (.lst []))
theorem EF : MtM X "list.clear" rClear := by
 intro pins s σ H x vs v us Q I rx rv h
 obtain ⟨l, xs, rfl, rfl, hH, q⟩ := h
 cases rx
 have hus := rv.zero
 subst hus
 obtain ⟨z, its, n, r, hl, e⟩ := I.lstM hH
 refine call_meets F.slot_list_clear ⟨_, e, rfl⟩ F.entry_list_clear (F.args_list_clear_1 _) (AutoSeq1.list_clear_list_0 l its.toArray n (by rw [L8]; lia)) ⟨e, ?_⟩
 exact ⟨.non, _, I.lset (its' := []) (ys := []) hH e rfl .nil (Mr _), rfl, q⟩
end
section
variable {prog : Program} {w : World} {A : Around} {E : Value -> Shared -> Prop} {s : Shared}
end
section
variable {X : Cx}
end
end L2
namespace Att
open PySem PySem.W PySem.Calls PyProof.Rows
theorem qU {P : Params} {h : Heap} : ∀ (ns : List Int) (vs : List Value), WellAll P h vs (ns.map WData.int) -> IntsAre vs ns := by
 intro ns
 induction ns with
 | nil =>
  intro vs w
  rw [List.map_nil] at w
  cases w
  exact .nil
 | cons n ns ih =>
  intro vs w
  rw [L1] at w
  cases w with
  | cons a b =>
   cases a
   exact .cons _ _ (ih _ b)
theorem CV {l : OpenLaw} {n : Nat} (hn : l.most = some n) {P : Params} {h : Heap} {args : List WData} {vals : List Value}
  (hpre : l.row.toRowW.claim.pre args = true) (hwl : WellAll P h vals args) :
  ∃ a vs ns, vals = [Value.ref a] /\ args = [WData.list (ns.map WData.int)] /\ h.get? a = some { cls := .type "list", data := .seq vs.toArray } /\ IntsAre vs ns /\ ns.length <= n := by
 have hsh : WShape.hasAll [] args [.list .int] = true := (pre_splitW hpre).1
 have hc : l.pre.holds [] { args := args } = true := (pre_splitW hpre).2
 obtain ⟨d, r, rfl, h1, h2⟩ := hasAllW_cons hsh
 obtain rfl := hasAllW_nil h2
 obtain ⟨xs, rfl, h3⟩ := hasW_list h1
 obtain ⟨ns, rfl⟩ := items_int h3
 have hlen : ns.length <= n := by
  unfold OpenLaw.pre at hc
  have h4 : (WTm.not (.lt (.lit (.int (n : Int))) (.len (.arg 0)))).holds [] { args := [.list (ns.map .int)] } = true := by
   have h4 := (holds_andW hc).1
   rw [hn] at h4
   exact h4
  have h5 := condW_of h4 (w_not (w_lt w_lit (w_len_list (w_arg rfl))))
  rw [LR] at h5
  refine Nat.le_of_not_lt fun q => ?_
  have q' : (n : Int) < ((ns.length : Nat) : Int) := by omega
  first
   | (rw [L6 q'] at h5; exact absurd h5 (by decide))
   | (simp at h5; omega)
 cases hwl with
 | cons w1 w2 =>
  cases w2
  cases w1 with
  | list ho hall => exact ⟨_, _, ns, rfl, rfl, ho, qU ns _ hall, hlen⟩
theorem B9 (l : OpenLaw) (args : List WData) : l.row.toRowW.claim.post args (.bool true) args = true :=
 postW_of (r := l.row.toRowW) (X := (true == true))
  (show WShape.has [] (.bool true) .bool = true by first | rfl | decide | simp [WShape.has, WShape.arms, WShape.armsAll])
  (show (WTm.eq .res (.lit (.bool true))).value [] { args := args, res := some (.bool true), after := args } = some (.bool (true == true)) from w_eq_bool (w_res rfl) w_lit) rfl
theorem xK {l : OpenLaw} {n : Nat} {q : Program} {loose : List Str} {XP : (Str -> Option Value) -> Heap -> Prop} {YP : World -> Heap -> Prop} {d : DefRec}
  (hn : l.most = some n) (hdf : d.params.defaults = [])
  (call : ∀ (w : World) (s₀ s₁ : Shared) (mg mb : Str -> Option Value) (fa : Addr) (o : Obj) (pm cd doc : Value) (a : Addr) (vs : List Value) (ns : List Int),
   Ground q loose [] XP w s₀ mg mb s₁.heap -> YP w s₁.heap ->
   s₁.heap.get? fa = some o -> o.data = .func (docDef d.name d.params d.body d.scope pm cd doc) -> s₁.heap.CodeRec cd d.name -> mg d.name = some (.ref fa) ->
   s₁.heap.get? a = some { cls := .type "list", data := .seq vs.toArray } -> IntsAre vs ns -> ns.length <= n -> s₁.gens = #[] ->
   codeAny (model l.prog w) callerA (.call (.ref fa) ⟨[.ref a], []⟩) (fun r s' => r = .ok (.ret (.bool true)) /\ OldK s₁.heap s'.heap /\ s'.os = s₁.os /\ AllBare s'.gens) s₁) :
  WalkO q loose XP YP l.row.toRowW d [] (fun f vs => PySem.call f vs) := by
 intro w s₀ s₁ mg mb G Y fa o pm cd doc dV kV ho hd hcd hD hmg hg args vals as hpre hlay hrd hwl hlo
 obtain rfl : dV = .none := Dflts.none hD hdf
 obtain rfl : kV = .none := Dflts.noKw hD
 obtain ⟨a, vs, ns, rfl, rfl, hobj, hints, hlen⟩ := CV hn hpre hwl
 refine enter_call (codeAny_mono (call w s₀ s₁ mg mb fa o pm cd doc a vs ns G Y ho (fd_plain hd) hcd hmg hobj hints hlen hg) fun r s' hq => ?_)
 obtain ⟨rfl, h2, h3, h4⟩ := hq
 exact ⟨.inl ⟨.bool true, .bool true, [], rfl, fun _ => rfl, .bool true, B9 l _, fun _ => ⟨List.Pairwise.nil, fun _ hm => (nomatch hm)⟩⟩, h2, h3, h4⟩
section
variable {prog : Program} {w : World} {A : Around} {E : Value -> Shared -> Prop} {s : Shared} {K : Frag}
end
end Att
namespace L2
open PySem PySem.Spec PyProof.Rows
theorem vw : ∀ {vs : List Value} {ns : List Int}, IntsAre vs ns -> Vals (ns.map V.int) vs
 | _, _, .nil => .nil
 | _, _, .cons n t h => .cons ⟨t, rfl⟩ (vw h)
def HA (H : Hp) : Prop := ∀ b, H b = none \/ ∃ o xs, H b = some (.frz o (.lst xs))
theorem CZ {P : Program} {w : World} {K : W.Frag} {mg mb : Str -> Option Value} {CX : CXT} {k : Nat} {fa a : Addr} {fd : FuncData} {x : Str} {sp : Sp} {s₁ : Shared} {vs : List Value} {ns : List Int}
  (KX : K.In s₁.heap) (hns : s₁.heap.Ns mainGlobals mg) (hb : s₁.heap.Ns builtinsNs mb) (hbb : ∀ x : Str, x ≠ "__name__" -> mb x = bootBuiltins x) (hlim : s₁.heap.NoLimit) (hg : s₁.gens = #[])
  (ha : s₁.heap.get? a = some { cls := .type "list", data := .seq vs.toArray }) (hi : IntsAre vs ns) (hl : ns.length <= sizeLine) (hr : Room k callerA)
  (F : ∀ base : Heap, K.In base -> base.Ns mainGlobals mg -> FnOk P w K mg base CX k fa fd [x] sp) (hbind : ∀ (s : Shared) (u : Value), BindsTo s fd ⟨[u], []⟩ [(x, u)])
  (hsp : ∀ H : Hp, HA H -> SqL K H a (ns.map V.int) -> sp [.ref a] H (fun v _ => v = .bl true) fun _ _ _ => False)
  (hCX : ∀ H e s', CX [] H s₁ (fun _ _ _ => False) e s' -> False) :
  codeAny (model P w) callerA (.call (.ref fa) ⟨[.ref a], []⟩) (fun r s' => r = .ok (.ret (.bool true)) /\ OldK s₁.heap s'.heap /\ s'.os = s₁.os /\ AllBare s'.gens) s₁ := by
 have rv := vw hi
 have lenV := hi.length
 -- from an abstract heap in which nothing but the script may be tracked
 have core : ∀ H : Hp, HA H -> SqL K H a (ns.map V.int) -> HOk P w H s₁.heap -> (∀ b, H b ≠ none -> b = a) -> (H a ≠ none -> K.lookup a = none) ->
   codeAny (model P w) callerA (.call (.ref fa) ⟨[.ref a], []⟩) (fun r s' => r = .ok (.ret (.bool true)) /\ OldK s₁.heap s'.heap /\ s'.os = s₁.os /\ AllBare s'.gens) s₁ := by
  intro H hO hS hok hA hK
  have base_of : ∀ {b : Addr} {o : Obj}, s₁.heap.get? b = some o -> H b = none -> (wG s₁.heap H).get? b = some o := fun e n => DJ e n
  have noA : ∀ {b : Addr} {o : Obj} {es : Array DictEntry} {ep : Nat}, s₁.heap.get? b = some o -> o.data = .dict es ep -> H b = none := fun {b o es ep} e d => by
   cases q : H b with
   | none => rfl
   | some u =>
    have e' : b = a := hA b (by rw [q]; simp)
    subst e'
    rw [ha] at e; cases e
    have d' : Data.seq vs.toArray _ = Data.dict es ep := d
    cases d'
  have nsK : ∀ {b : Addr} {m : Str -> Option Value}, s₁.heap.Ns b m -> (wG s₁.heap H).Ns b m := fun {b m} ⟨o, es, ep, e, d, r⟩ => ⟨o, es, ep, base_of e (noA e d), d, r⟩
  have hKb : K.In (wG s₁.heap H) := fun b o e => base_of (KX b o e) (by
   cases q : H b with
   | none => rfl
   | some u =>
    have e' : b = a := hA b (by rw [q]; simp)
    subst e'
    rw [hK (by rw [q]; simp)] at e; cases e)
  have hM : Mod K mg (wG s₁.heap H) := ⟨hKb, nsK hns, ⟨mb, nsK hb, hbb⟩, let ⟨mc, h1, h2⟩ := hlim; ⟨mc, nsK h1, h2⟩⟩
  have e0 : Env0 P w K mg (wG s₁.heap H) callerA [] s₁ H := ⟨rfl, hM, fun b o e => FO e, Nat.le_of_eq (BQ _ _), trivial, fun b hb => absurd (show b ∈ ([] : List Addr) from hb) (by simp), hok, .of_eq hg⟩
  refine codeAny_mono ((F _ hKb (nsK hns)).run callerA [] s₁ H ⟨[.ref a], []⟩ [.ref a] [.ref a] _ _ hr e0 (hbind s₁ (.ref a)) (.cons rfl .nil) (hsp H hO hS)) fun r s' h => ?_
  cases r with
  | error e => exact (hCX H e s' h).elim
  | ok fl =>
   cases fl with
   | next => exact False.elim h
   | brk => exact False.elim h
   | cont => exact False.elim h
   | ret u =>
    obtain ⟨v, H', os, bare, un, hok', r', q⟩ := h
    have q' : v = .bl true := q
    subst q'
    obtain rfl : u = Value.bool true := r'
    refine ⟨rfl, OldK.of_keep fun b o e => ?_, os, bare⟩
    cases q : H b with
    | none => exact un.keep b o e q (by intro z; exact absurd (show b ∈ ([] : List Addr) from z) (by simp)) (by simp)
    | some u =>
     rcases hO b with z | ⟨ob, xs, z⟩
     ·rw [q] at z; cases z
     ·have z2 := un.frzs b ob _ z
      obtain ⟨e1, _⟩ := hok b _ z
      obtain ⟨e2, _⟩ := hok' b _ z2
      rw [e] at e1; cases e1
      exact e2
 cases hk : K.lookup a with
 | some o =>
  -- the script is one of the module's own objects
  have e := KX a o hk
  rw [ha] at e
  cases e
  refine core (fun _ => none) (fun _ => .inl rfl) (.inr ⟨_, vs.toArray, _, hk, rfl, rfl, rfl, by rw [L8, lenV]; exact hl, by simpa using rv⟩) (fun b u z => by have z' : (none : Option HO) = some u := z; cases z') (fun b z => absurd rfl z) fun z => absurd rfl z
 | none =>
  refine core (fun b => if b = a then some (.frz { cls := .type "list", data := .seq vs.toArray } (.lst (ns.map V.int))) else none) (fun b => ?_) (.inl (.inr ⟨{ cls := .type "list", data := .seq vs.toArray }, LO rfl⟩)) (fun b u z => ?_) (fun b z => ?_) fun _ => hk
  ·by_cases hb : b = a
   ·exact .inr ⟨_, _, LO hb⟩
   ·exact .inl (LP hb)
  ·by_cases hb : b = a
   ·have z' := (LO hb).symm.trans z
    cases z'
    subst hb
    exact ⟨ha, by rw [LR]; exact hl, vs, _, rv, ha⟩
   ·have z' := (LP hb).symm.trans z
    cases z'
  ·by_cases hb : b = a
   ·exact hb
   ·exact absurd (LP hb) z
theorem FZ {l : W.OpenLaw} {n k : Nat} {q : Program} {loose : List Str} {XP : (Str -> Option Value) -> Heap -> Prop} {YP : World -> Heap -> Prop} {d : DefRec} {K : Params -> W.Frag} {CX : World -> CXT} {sp : World -> Sp} {x : Str}
  (hn : l.most = some n) (hn2 : n <= sizeLine) (hdf : d.params.defaults = []) (hr : Room k callerA)
  (hY : ∀ (w : World) (h : Heap), YP w h -> (K w.params).In h)
  (F : ∀ (w : World) (mg : Str -> Option Value) (fa : Addr) (h : Heap), (K w.params).In h -> h.Ns mainGlobals mg -> mg d.name = some (.ref fa) ->
   ∃ fd : FuncData, (∀ (s : Shared) (u : Value), BindsTo s fd ⟨[u], []⟩ [(x, u)]) /\
    ∀ base : Heap, (K w.params).In base -> base.Ns mainGlobals mg -> FnOk l.prog w (K w.params) mg base (CX w) k fa fd [x] (sp w))
  (hsp : ∀ (w : World) (H : Hp) (a : Addr) (ns : List Int), ns.length <= n -> HA H -> SqL (K w.params) H a (ns.map V.int) -> sp w [.ref a] H (fun v _ => v = .bl true) fun _ _ _ => False)
  (hCX : ∀ (w : World) (H : Hp) (s : Shared) (e : Value) (s' : Shared), CX w [] H s (fun _ _ _ => False) e s' -> False) :
  W.WalkO q loose XP YP l.row.toRowW d [] (fun f vs => PySem.call f vs) := by
 refine Att.xK hn hdf fun w s₀ s₁ mg mb fa o pm cd doc a vs ns G Y ho hd hcd hmg hobj hints hlen hg => ?_
 have KX := hY w _ Y
 obtain ⟨fd, hb, hF⟩ := F w mg fa _ KX G.T.g hmg
 exact CZ KX G.T.g G.T.b G.T.builtins G.T.nolimit hg hobj hints (Mm hlen hn2) hr hF hb (fun H hO hS => hsp w H a ns hlen hO hS) fun H e s' => hCX w H s₁ e s'
noncomputable def bf (s : Stmt) : Arguments := match s with
 | .FunctionDef _ a _ _ _ _ _ _ _ _ => a
 | _ => { posonlyargs := [], args := [], vararg := none, kwonlyargs := [], kw_defaults := [], kwarg := none, defaults := [] }
noncomputable def a9 (s : Stmt) : List Stmt := match s with
 | .FunctionDef _ _ b _ _ _ _ _ _ _ => b
 | _ => []
noncomputable def am (s : Stmt) : Scope := match s with
 | .FunctionDef _ _ _ _ _ _ sc _ _ _ => sc
 | _ => { kind := .function, names := [], isGenerator := false, isCoroutine := false }
noncomputable abbrev CX0 : CXT := fun _ _ _ _ _ _ => False
noncomputable abbrev E0 : XK := fun _ _ _ => False
theorem cm {X : Cx} : zR CX0 X E0 := fun _ _ _ _ _ _ _ h => h.elim
structure Fun (K : W.Frag) (x qual : Str) (st : Stmt) (f : Addr) (fd : FuncData) : Prop where
 ex : ∃ (oc : Value) (od : Option Addr) (kV doc pm : Value) (an : Option Addr) (cdv ct : Value) (osl : Array (Option Value)),
  fd = W.fnOf x qual (bf st) (a9 st) (am st) .none kV doc pm an cdv ct /\ K.lookup f = some ⟨oc, od, .func fd, osl⟩ /\ W.codeIn K cdv qual = true
 kp : W.keepIn K (.ref f) = true
section
variable {P : Program} {w : World} {K : W.Frag} {mg : Str -> Option Value} {base : Heap}
theorem Fun.ok {x qual : Str} {st : Stmt} {f : Addr} {fd : FuncData} {N ps : List Str} {k : Nat} {sp : Sp} (F : Fun K x qual st f fd) (S : FnScope N ps (am st)) (len : ∀ vs H Q E, sp vs H Q E -> vs.length = ps.length)
  (hbody : ∀ (cdv : Value) (A : Around) (outer : List Env) (s : Shared) (H : Hp) (vs : List V) (Q : VK) (E : XK), Room k (A.deeper (envOfC qual (am st) s.heap.objs.size f cdv)) -> sp vs H Q E ->
   ∃ t, PSs (Co CX0 P w K mg base N qual (am st) f cdv A outer s H E).nox (a9 st) t /\ t { nx := fun _ H' => Q .non H', rt := Q } (aM N vs) H) : FnOk P w K mg base CX0 (k + 1) f fd ps sp := by
 obtain ⟨oc, od, kV, doc, pm, an, cdv, ct, osl, rfl, lk, hcd⟩ := F.ex
 refine Ic lk hcd S len fun A outer s H vs Q E hr hsp => ?_
 obtain ⟨t, h, q⟩ := hbody cdv A outer s H vs Q E hr hsp
 exact ⟨t, h.nox, q⟩
theorem Fun.binds {x qual : Str} {st : Stmt} {f : Addr} {fd : FuncData} {ps : List Str} (F : Fun K x qual st f fd)
  (h : ∀ (kV doc pm : Value) (an : Option Addr) (cdv ct : Value) (us : List Value), us.length = ps.length -> bindArgs (W.fnOf x qual (bf st) (a9 st) (am st) .none kV doc pm an cdv ct) ⟨us, []⟩ = pure (ps.zip us)) : Binds K fd ps [] := by
 obtain ⟨oc, od, kV, doc, pm, an, cdv, ct, osl, rfl, lk, hcd⟩ := F.ex
 exact .all (h kV doc pm an cdv ct)
theorem cj {x qual : Str} {st : Stmt} {f : Addr} {oc : Value} {od an : Option Addr} {osl : Array (Option Value)} {kV doc pm cdv ct : Value} (l : K.lookup f = some ⟨oc, od, .func (W.fnOf x qual (bf st) (a9 st) (am st) .none kV doc pm an cdv ct), osl⟩)
  (c : W.codeIn K cdv qual = true) (k : W.keepIn K (.ref f) = true) : Fun K x qual st f (W.fnOf x qual (bf st) (a9 st) (am st) .none kV doc pm an cdv ct) := ⟨⟨oc, od, kV, doc, pm, an, cdv, ct, osl, rfl, l, c⟩, k⟩
end
section
variable {X : Cx}
theorem pv (i : Nat) {x : Str} {pos : Pos} (hN : X.N[i]? = some x := by rfl) (hv : Vis X.env.scope x := by first | exact Or.inl rfl | exact Or.inr (.inl rfl) | exact Or.inr (.inr rfl)) (hd : (x == ("__debug__" : Str)) = false := by decide)
  (hcd : (x == ("__classdict__" : Str)) = false := by decide) : PE X (.Name x pos) (iY i) := Hj hN hv hd hcd
end
theorem x5 {A B : Prop} (h : B) : if false = true then A else B := by
 rw [LP MH]
 exact h
theorem wR {A B : Prop} (h : A) : if true = true then A else B := by
 rw [LO rfl]
 exact h
def Same (H H' : Hp) : Prop := ∀ b o, H b = some o -> H' b = some o
theorem Same.refl (H : Hp) : Same H H := fun _ _ h => h
theorem Same.trans {H H1 H2 : Hp} (a : Same H H1) (b : Same H1 H2) : Same H H2 := fun c o h => b c o (a c o h)
theorem Same.free {H H' : Hp} (e : Same H H') {l : Addr} (h : H' l = Option.none) : H l = Option.none := by
 cases q : H l with
 | none => rfl
 | some o =>
  rw [e l o q] at h
  cases h
end L2
set_option linter.all false
set_option maxHeartbeats 4000000
set_option maxRecDepth 100000
namespace L2
open PySem PySem.Spec PyProof.Rows
structure CmpOk (XN : List Str) (sc scope : Scope) (N : List Str) (js : List (Option Nat)) : Prop where
 kind : scope.kind = .function
 cell : ∀ y ∈ scope.names, y.2 ≠ .cell
 free : ∀ y ∈ scope.names, y.2 = .free -> sc.names.lookup y.1 = some .cell \/ sc.names.lookup y.1 = some .free
 loc : ∀ y ∈ scope.names, y.2 = .local -> scope.names.lookup y.1 = some .local
 len : js.length = N.length
 ix : ((N.zip js).all fun p => match p.2 with | none => true | some j => decide (XN[j]? = some p.1) && decide (scope.names.lookup p.1 = some .free)) = true
noncomputable def kq (env : Env) : List (Str × NameKind) -> List (Str × Addr) -> List (Str × Addr)
 | [], cs => cs
 | (n, k) :: r, cs => kq env r (if k = .free then (match env.cells.lookup n with | some c => (n, c) :: cs | none => cs) else cs)
theorem yS {env : Env} : ∀ {names : List (Str × NameKind)} {cs : List (Str × Addr)}, (∀ n c, cs.lookup n = some c -> env.cells.lookup n = some c) -> ∀ n c, (kq env names cs).lookup n = some c -> env.cells.lookup n = some c
 | [], _, h => h
 | (m, k) :: r, cs, h => by
  unfold kq
  refine yS ?_
  split
  ·cases e : env.cells.lookup m with
   | none => exact h
   | some d =>
    intro n c hn
    dsimp only at hn
    rw [MD] at hn
    cases q : n == m with
    | true =>
     rw [q] at hn
     have e1 : n = m := by simpa using q
     cases hn
     rw [e1]; exact e
    | false => rw [q] at hn; exact h n c hn
  ·exact h
theorem xz {env : Env} : ∀ {names : List (Str × NameKind)} {cs : List (Str × Addr)} {n : Str}, ((n, NameKind.free) ∈ names /\ (∃ c, env.cells.lookup n = some c)) \/ (∃ c, cs.lookup n = some c) -> ∃ c, (kq env names cs).lookup n = some c
 | [], _, _, h => h.elim (fun z => by cases z.1) id
 | (m, k) :: r, cs, n, h => by
  unfold kq
  refine xz ?_
  rcases h with ⟨hm, c, hc⟩ | ⟨c, hc⟩
  ·rcases L9.mp hm with e | hm
   ·cases e
    right
    rw [LO rfl, hc]
    exact ⟨c, by rw [MD]; simp⟩
   ·exact .inl ⟨hm, c, hc⟩
  ·right
   split
   ·cases e : env.cells.lookup m with
    | none => exact ⟨c, hc⟩
    | some d =>
     dsimp only
     rw [MD]
     cases q : n == m with
     | true => exact ⟨d, rfl⟩
     | false => exact ⟨c, hc⟩
   ·exact ⟨c, hc⟩
theorem rZ {env : Env} {scope : Scope} (h : ∀ y ∈ scope.names, y.2 = .free -> ∃ c, env.cells.lookup y.1 = some c) : closureFor scope env = pure (kq env scope.names []) := by
 have key : ∀ (names : List (Str × NameKind)) (cs : List (Str × Addr)), (∀ y ∈ names, y.2 = .free -> ∃ c, env.cells.lookup y.1 = some c) ->
   (forIn names cs (fun (x : Str × NameKind) r => if (x.2 == NameKind.free) = true then (do let a ← cellOf env x.1; pure (ForInStep.yield ((x.1, a) :: r))) else pure (ForInStep.yield r)) : Sem (List (Str × Addr))) = pure (kq env names cs) := by
  intro names
  induction names with
  | nil => intro cs _; rfl
  | cons y r ih =>
   intro cs hy
   obtain ⟨n, k⟩ := y
   rw [List.forIn_cons]
   unfold kq
   by_cases hk : k = .free
   ·subst hk
    obtain ⟨c, hc⟩ := hy _ LV rfl
    have e1 : cellOf env n = pure c := by unfold cellOf; rw [hc]
    rw [LO (by rfl)]
    rw [LO rfl, hc]
    show ((cellOf env n >>= fun a => pure (ForInStep.yield ((n, a) :: cs))) >>= _) = _
    rw [e1]
    exact ih _ fun z hz => hy z (LY _ hz)
   ·have hb : (k == NameKind.free) = false := by simpa using hk
    rw [LP (by rw [hb]; decide), LP hk]
    exact ih _ fun z hz => hy z (LY _ hz)
 have k := key scope.names [] h
 unfold closureFor
 show (forIn scope.names ([] : List (Str × Addr)) _ >>= fun cs => pure cs) = _
 refine Eq.trans (congrArg (fun t => t >>= fun cs => pure cs) (Eq.trans ?_ k)) rfl
 congr 1
theorem uf {env : Env} : ∀ {names : List (Str × NameKind)} {x : Str}, names.lookup x = some .free ->
  (names.map fun (n, k) => if (k == NameKind.free && env.scope.kind == .function && env.kindOf n == some .cell) then (n, NameKind.cell) else (n, k)).lookup x = some .cell \/
  (names.map fun (n, k) => if (k == NameKind.free && env.scope.kind == .function && env.kindOf n == some .cell) then (n, NameKind.cell) else (n, k)).lookup x = some .free
 | [], _, h => by simp at h
 | (n, k) :: r, x, h => by
  have ih := @uf env r x
  rw [L1]
  dsimp only
  cases q : x == n with
  | true =>
   rw [MD, q] at h
   cases h
   split
   ·left; rw [MD, q]
   ·right; rw [MD, q]
  | false =>
   rw [MD, q] at h
   split
   ·rw [MD, q]; exact ih h
   ·rw [MD, q]; exact ih h
theorem mK {env : Env} : ∀ {names : List (Str × NameKind)} {x : Str} {j : NameKind}, (∀ y ∈ names, y.2 ≠ .cell) -> (j = .cell \/ j = .free) ->
  (names.map fun (n, k) => if (k == NameKind.free && env.scope.kind == .function && env.kindOf n == some .cell) then (n, NameKind.cell) else (n, k)).lookup x = some j -> (x, NameKind.free) ∈ names
 | [], _, _, _, _, h => by simp at h
 | (n, k) :: r, x, j, hc, hj, h => by
  have ih := @mK env r x j (fun y hy => hc y (LY _ hy)) hj
  rw [L1] at h
  dsimp only at h
  cases q : x == n with
  | true =>
   have e : x = n := by simpa using q
   subst e
   split at h
   ·rename_i g
    have : k = .free := by
     simp only [Mw, beq_iff_eq] at g
     exact g.1.1
    subst this
    exact LV
   ·rw [MD, q] at h
    cases h
    rcases hj with z | z
    ·exact absurd z (hc _ LV)
    ·rw [z]; exact LV
  | false =>
   refine LY _ (ih ?_)
   split at h
   ·rw [MD, q] at h; exact h
   ·rw [MD, q] at h; exact h
noncomputable def inn (js : List (Option Nat)) (σ : St) : St := js.map fun o => match o with | none => none | some j => (σ[j]?).join
structure CxZ where
 cl : List (Str × Addr)
 C : Addr
 s : Shared
 H : Hp
 fp : List Addr
 pins : List (Addr × Obj)
noncomputable def cxC (X : Cx) (N : List Str) (scope : Scope) (z : CxZ) : Cx where
 prog := X.prog
 w := X.w
 K := X.K
 mg := X.mg
 base := X.base
 A := X.A
 N := N
 s₀ := z.s
 H₀ := z.H
 env := compEnvC scope z.cl z.C X.env
 outer := X.stack
 stack := X.stack
 ex := z.fp
 fn := fun _ => false
 calm := X.calm
 pn := X.pn ++ z.pins
 xe := fun _ _ => False
section
variable {X : Cx} {pins : List (Addr × Obj)} {σ : St} {H : Hp} {s : Shared} {XN N : List Str} {sc scope : Scope} {js : List (Option Nat)}
theorem Ec {h1 : Heap} {m : Str -> Option Value} {tk : Nat} {fp : List Addr} (ck : CmpOk XN sc scope N js) (hXN : X.N = XN) (hsc : X.env.scope = sc) (I : Inv X pins σ H s) (hf : ∀ b ∈ fp, rS X pins H b)
  (hfo : ∀ b ∈ fp, b < s.heap.objs.size) (hn : h1.Ns s.heap.objs.size m) (hk : ∀ b o, s.heap.get? b = some o -> h1.get? b = some o) :
  Inv (cxC X N scope ⟨kq X.env scope.names [], s.heap.objs.size, s, H, fp, pins⟩) [] (inn js σ) H { s with heap := h1, toks := tk } := by
 subst hXN hsc
 have sub : ∀ n c, (kq X.env scope.names []).lookup n = some c -> X.env.cells.lookup n = some c := yS fun n c h => by simp at h
 have clt : ∀ n c, (kq X.env scope.names []).lookup n = some c -> c < s.heap.objs.size := fun n c h => by
  obtain ⟨v, q⟩ := I.cell n c (sub n c h)
  exact q.lt
 have has : ∀ x, (x, NameKind.free) ∈ scope.names -> ∃ c, (kq X.env scope.names []).lookup x = some c := fun x hx =>
  xz (.inl ⟨hx, I.ok.has x (ck.free _ hx rfl)⟩)
 refine ⟨⟨I.ok.mod, ck.kind, I.ok.glob, I.ok.blt, LU _, fun x y c h1 h2 => I.ok.inj x y c (sub x c h1) (sub y c h2), fun x hx => ?has, fun x c hx => ?cab, I.ok.hd, I.ok.frames, .inl rfl, fun b hb => ?exf, I.bs, ?bsz, fun b o e hb => ?noex, fun b hb => ?exfs, I.stack, I.stkFree⟩,
  rfl, I.bare, Un.kept hk, ⟨m, hn, fun i x v h1 h2 h3 => ?loc⟩, fun x c h => ?cell, I.hok.fresh (LU _), fun x c h => I.freeC x c (sub x c h), fun p hp => ?pin, I.hok.kept hk, ?len⟩
 case has =>
  rcases hx with hx | hx
  ·exact has x (mK ck.cell (.inl rfl) hx)
  ·exact has x (mK ck.cell (.inr rfl) hx)
 case cab => cases hx
 case exf =>
  obtain ⟨f0, f1, f2, f3, f4, f5⟩ := hf b hb
  exact ⟨Mi (hfo b hb), fun x c e => f4 x c (sub x c e)⟩
 case bsz => exact Mm I.ok.bsz I.sz
 case noex =>
  obtain ⟨f0, f1, f2, f3, f4, f5⟩ := hf b hb
  rcases f3 with f3 | f3
  ·exact I.ok.noex b o e f3
  ·exact absurd (Mp (L5 e) (Mm I.ok.bsz f3)) (Nat.lt_irrefl _)
 case exfs =>
  obtain ⟨f0, f1, f2, f3, f4, f5⟩ := hf b hb
  intro z
  rcases L9.mp (I.stkSub b z) with e | e
  ·exact f1 e
  ·exact f2 e
 case loc =>
  have hl : N.length = js.length := ck.len.symm
  have hi : i < js.length := by
   have := (LW.mp h1).1
   have e : (cxC X N scope ⟨kq X.env scope.names [], s.heap.objs.size, s, H, fp, pins⟩).N = N := rfl
   rw [e] at this
   lia
  have hN : N[i]? = some x := h1
  have hj : js[i]? = some js[i] := Mf hi
  unfold inn at h2
  rw [L3, hj] at h2
  cases q : js[i] with
  | none => rw [q] at h2; cases h2
  | some j =>
   rw [q] at h2 hj
   have h2' : (σ[j]?).join = some v := Ml h2
   have hσ : σ[j]? = some (some v) := by
    cases e : σ[j]? with
    | none => rw [e] at h2'; cases h2'
    | some o => rw [e] at h2'; exact congrArg some h2'
   have hm : (x, some j) ∈ N.zip js := by
    refine ML (i := i) ?_
    rw [List.getElem?_zip_eq_some]
    exact ⟨hN, hj⟩
   have hc := List.all_eq_true.mp ck.ix _ hm
   simp only [Mw, decide_eq_true_eq] at hc
   obtain ⟨c1, c2⟩ := hc
   have hfr : (x, NameKind.free) ∈ scope.names := PySem.mem_of_lookup c2
   have hvis : X.env.scope.names.lookup x = some .cell \/ X.env.scope.names.lookup x = some .free := ck.free _ hfr rfl
   obtain ⟨m0, hn0, hl0⟩ := I.loc
   obtain ⟨u, r, l⟩ := hl0 j x v c1 hσ (hvis.elim (fun z => .inr (.inl z)) fun z => .inr (.inr z))
   refine ⟨u, r, .inr ⟨?_, ?_⟩⟩
   ·exact uf c2
   ·rcases l with ⟨k1, _⟩ | ⟨_, c, k1, k2⟩
    ·have k1' : X.env.scope.names.lookup x = some .local := k1
     rcases hvis with z | z
     ·rw [z] at k1'; cases k1'
     ·rw [z] at k1'; cases k1'
    ·obtain ⟨c', hc'⟩ := has x hfr
     have e := sub x c' hc'
     rw [k1] at e
     cases e
     obtain ⟨oc, ho, hd⟩ := k2
     exact ⟨c, hc', oc, hk _ _ ho, hd⟩
 case cell =>
  obtain ⟨v, oc, ho, hd⟩ := I.cell x c (sub x c h)
  exact ⟨v, oc, hk _ _ ho, hd⟩
 case pin =>
  have hp' : p ∈ X.pn ++ pins := by simpa [cxC] using hp
  obtain ⟨p1, p2, p3, p4, p5⟩ := I.pin p hp'
  refine ⟨hk _ _ p1, p2, Mi (L5 p1), fun z => ?_, p5⟩
  rcases L9.mp (I.stkSub _ z) with e | e
  ·exact p3 e
  ·exact p4 e
 case len =>
  show (inn js σ).length = N.length
  unfold inn
  rw [LR]
  exact ck.len
noncomputable abbrev TIf := St -> Hp -> (Bool -> Hp -> Prop) -> Prop
def PIf (X : Cx) (ifs : List Expr) (t : TIf) : Prop :=
 ∀ (pins : List (Addr × Obj)) (s : Shared) (σ : St) (H : Hp) (Q : Bool -> Hp -> Prop), Inv X pins σ H s -> t σ H Q ->
  wpAny (model X.prog X.w) X.A (forIn ifs true fun c r => if r = true then do let ok ← isTrue c X.env (eval c X.env); pure (ForInStep.yield ok) else pure (ForInStep.yield r)) (TP X pins σ Q) X.xe s
noncomputable def A0 : TIf := fun _ H Q => Q true H
theorem iJ : PIf X [] A0 := fun _ _ _ H _ I h => wpAny_tests_nil ⟨H, I, h⟩
theorem jD {c : Expr} {t : TT} (h : PT X c t) : PIf X [c] t := fun pins s σ H Q I q => wpAny_tests_one (h pins s σ H Q I q)
def Lev (σ σ' : St) : Prop := σ.length = σ'.length /\ ∀ (i : Nat) (v : V), σ[i]? = some (some v) -> σ'[i]? = some (some v)
theorem Lev.refl (σ : St) : Lev σ σ := ⟨rfl, fun _ _ h => h⟩
theorem Lev.trans {a b c : St} (h : Lev a b) (k : Lev b c) : Lev a c := ⟨h.1.trans k.1, fun i v e => k.2 i v (h.2 i v e)⟩
def zD (js : List (Option Nat)) (g : TG) : Prop := ∀ (σ0 : St) (v : V) (σ : St) (H : Hp) (Q : St -> Hp -> Prop), Lev (inn js σ0) σ -> g v σ H Q -> g v σ H fun σ' H' => Lev (inn js σ0) σ' /\ Q σ' H'
def Bv (js : List (Option Nat)) (g : TGs) : Prop := ∀ (σ0 : St) (vs : List V) (σ : St) (H : Hp) (Q : St -> Hp -> Prop), Lev (inn js σ0) σ -> g vs σ H Q -> g vs σ H fun σ' H' => Lev (inn js σ0) σ' /\ Q σ' H'
theorem bw {i : Nat} (h : js[i]? = some none := by rfl) : zD js (dY i) := fun σ0 v σ H Q l q => by
 refine ⟨⟨?_, fun j u e => ?_⟩, q⟩
 ·rw [MC]; exact l.1
 ·by_cases hij : i = j
  ·subst hij
   unfold inn at e
   rw [L3, h] at e
   cases e
  ·rw [Ms hij]
   exact l.2 j u e
theorem lB : Bv js HG := fun σ0 vs σ H Q l q => ⟨q.1, l, q.2⟩
theorem b5 {t : TG} {u : TGs} (h : zD js t) (k : Bv js u) (mono : ∀ v σ H (Q Q' : St -> Hp -> Prop), (∀ a b, Q a b -> Q' a b) -> t v σ H Q -> t v σ H Q') : Bv js (D8 t u) := fun σ0 vs σ H Q l q => by
 obtain ⟨v, r, e, q⟩ := q
 exact ⟨v, r, e, mono _ _ _ _ _ (fun σ' H' z => k σ0 r σ' H' Q z.1 z.2) (h σ0 v σ H _ l q)⟩
theorem bp {i : Nat} : ∀ v σ H (Q Q' : St -> Hp -> Prop), (∀ a b, Q a b -> Q' a b) -> dY i v σ H Q -> dY i v σ H Q' := fun _ _ _ _ _ h q => h _ _ q
theorem pP {K : W.Frag} {n : Nat} {t : TGs} (h : Bv js t) : zD js (GS K n t) := fun σ0 v σ H Q l q => by
 obtain ⟨a, xs, e, hq, hl, q⟩ := q
 exact ⟨a, xs, e, hq, hl, h σ0 xs σ H Q l q⟩
noncomputable def uW (js : List (Option Nat)) (wi : TI) (g : TG) (tt : TIf) (te : TE) : TE := fun σ H Q => wi σ H fun J H1 => ∀ D, H1 D = none -> ∃ W : Nat -> Nat -> Hp -> Prop, (∃ m, W 0 m (upd H1 D (.lst []))) /\ ∀ i m H, W i m H ->
 (J.stop i H /\ Q (.ref D) H) \/ (J.go i H /\ ∀ x H', J.yld i H x H' -> g x (inn js σ) H' fun σ2 H2 => tt σ2 H2 fun b H3 =>
  if b = true then te σ2 H3 fun y H4 => ∃ ys, H4 D = some (.lst ys) /\ ys.length < sizeLine /\ ∃ m', m' < m /\ W (i + 1) m' (upd H4 D (.lst (ys ++ [y]))) else ∃ m', m' < m /\ W (i + 1) m' H3)
variable {tg iter elt : Expr} {ifs : List Expr} {pos : Pos} {wi : TI} {g : TG} {tt : TIf} {te : TE}
theorem Cc {E : Value -> Shared -> Prop} {R : Result -> Shared -> Prop} {it D : Addr} {fp : List Addr} {tn : Nat -> Heap -> Prop} {J : It} {z : CxZ} {W : Nat -> Nat -> Hp -> Prop} {n : Nat}
  (hc : X.calm = true) (T : Turn X.prog X.w X.K tg J fp it tn) (hz : ∀ b ∈ fp, ∀ H', H' b = none -> rS (cxC X N scope z) [] H' b)
  (hg : PG (cxC X N scope z) tg g) (hs : zD js g) (ht : PIf (cxC X N scope z) ifs tt) (he : PE (cxC X N scope z) elt te)
  (turn : ∀ i m H, W i m H -> (J.stop i H /\ ∀ s', Inv (cxC X N scope z) [] (inn js σ) H s' -> R (.ok .next) s') \/ (J.go i H /\ ∀ x H', J.yld i H x H' -> g x (inn js σ) H' fun σ2 H2 => tt σ2 H2 fun b H3 =>
   if b = true then te σ2 H3 fun y H4 => ∃ ys, H4 D = some (.lst ys) /\ ys.length < sizeLine /\ ∃ m', m' < m /\ W (i + 1) m' (upd H4 D (.lst (ys ++ [y]))) else ∃ m', m' < m /\ W (i + 1) m' H3))
  {s1 : Shared} {H1 : Hp} (I1 : Inv (cxC X N scope z) [] (inn js σ) H1 s1) (t1 : tn 0 s1.heap) (f1 : ∀ b ∈ fp, H1 b = none) (w1 : W 0 n H1) :
  codeAny (model X.prog X.w) X.A (.compLoop (.ListComp elt [⟨tg, iter, ifs, 0⟩] scope pos) 0 (.ref it) (.ref D) (compEnvC scope z.cl z.C X.env)) R s1 := by
 refine codeAny_loop (c := .compLoop (.ListComp elt [⟨tg, iter, ifs, 0⟩] scope pos) 0 (.ref it) (.ref D) (compEnvC scope z.cl z.C X.env)) rfl
  (fun k s' => ∃ i H', Inv (cxC X N scope z) [] (inn js σ) H' s' /\ tn i s'.heap /\ (∀ b ∈ fp, H' b = none) /\ W i k H') ?_ n ⟨0, H1, I1, t1, f1, w1⟩
 rintro k s2 ⟨i, H2, I2, t2, f2, w2⟩
 show wpAny (model X.prog X.w) X.A ((compTurn (.ListComp elt [⟨tg, iter, ifs, 0⟩] scope pos) 0 (.ref it) (.ref D) (compEnvC scope z.cl z.C X.env)).onRaise fun x => do noteFrame x (compEnvC scope z.cl z.C X.env); theTreesLotGoes x) _ _ s2
 refine wpAny_noted ?_
 rw [compTurn_list]
 refine LQ (wpAny_standAt ?_)
 rcases turn i k H2 w2 with ⟨stop, fin⟩ | ⟨go, step⟩
 ·refine LQ (thn (T.done (cxC X N scope z) rfl rfl rfl hc i [] s2 (inn js σ) H2 _ I2 (fun b hb => hz b hb H2 (f2 b hb)) t2 stop) fun r s3 h3 => ?_)
  obtain ⟨rfl, I3⟩ := h3
  exact LS (fin s3 I3)
 ·refine LQ (thn (T.item (cxC X N scope z) rfl rfl rfl hc i [] s2 (inn js σ) H2 _ I2 (fun b hb => hz b hb H2 (f2 b hb)) t2 go) fun r s3 h3 => ?_)
  obtain ⟨u, rfl, h3⟩ := h3
  refine LQ (thn h3 fun _ s4 h4 => ?_)
  obtain ⟨x, H4, I4, r4, y4, t4, f4⟩ := h4
  have P4 := I4.pinned (fun b hb => hz b hb H4 (f4 b hb)) (T.obj _ _ t4)
  have ff : ∀ {e : Value} {s' : Shared}, (cxC X N scope z).xe e s' -> False := fun h => h
  refine LQ (wpAny_mono (hg _ s4 (inn js σ) H4 x u _ P4 r4 (hs σ x (inn js σ) H4 _ (Lev.refl _) (step x H4 y4))) (fun _ s5 h5 => ?_) fun _ _ h => (ff h).elim)
  obtain ⟨σ5, H5, I5, lev, q5⟩ := h5
  refine LQ (wpAny_mono (ht _ s5 σ5 H5 _ I5 q5) (fun ok s6 h6 => ?_) fun _ _ h => (ff h).elim)
  obtain ⟨H6, I6, q6⟩ := h6
  have again : ∀ {s7 : Shared} {H7 : Hp}, Inv (cxC X N scope z) ([] ++ pq fp s4.heap) σ5 H7 s7 -> (∃ m', m' < k /\ W (i + 1) m' H7) -> ∃ m, m < k /\ ∃ i H', Inv (cxC X N scope z) [] (inn js σ) H' s7 /\ tn i s7.heap /\ (∀ b ∈ fp, H' b = none) /\ W i m H' := fun {s7 H7} I7 h7 => by
   obtain ⟨m', hm, w7⟩ := h7
   refine ⟨m', hm, i + 1, H7, (I7.unpinned).weak lev.1 lev.2, T.keep _ _ _ t4 fun b hb o e => (I7.pin (b, o) (L0 _ (L0 _ (gP hb e)))).1, fun b hb => ?_, w7⟩
   obtain ⟨o, e, d⟩ := T.obj _ _ t4 b hb
   exact (I7.pin (b, o) (L0 _ (L0 _ (gP hb e)))).2.1
  cases ok with
  | false =>
   rw [LP (by decide)] at q6
   exact LS ⟨rfl, again I6 q6⟩
  | true =>
   rw [LO rfl] at q6
   refine LQ (LQ (wpAny_mono (he _ s6 σ5 H6 _ I6 q6) (fun y s7 h7 => ?_) fun _ _ h => (ff h).elim))
   obtain ⟨vy, H7, I7, r7, ys, hD, hl, q7⟩ := h7
   refine LQ (wpAny_mono (fQ (X := cxC X N scope z) _ s7 σ5 H7 (.ref D) [vy] (.ref D) [y] (fun _ H' => ∃ m', m' < k /\ W (i + 1) m' H') I7 rfl (.cons r7 .nil) ⟨D, ys, vy, rfl, rfl, hD, hl, q7⟩) (fun _ s8 h8 => ?_) fun _ _ h => (ff h).elim)
   obtain ⟨_, H8, I8, _, q8⟩ := h8
   exact LS (LS ⟨rfl, again I8 q8⟩)
theorem sj {E : Value -> Shared -> Prop} {RR : Value -> Addr -> Result -> Shared -> Prop} {Q : VK} {itv : Value} {s2 : Shared} (ck : CmpOk XN sc scope N js) (hXN : X.N = XN) (hsc : X.env.scope = sc) (hc : X.calm = true)
  (hg : ∀ z, PG (cxC X N scope z) tg g) (hs : zD js g) (ht : ∀ z, PIf (cxC X N scope z) ifs tt) (he : ∀ z, PE (cxC X N scope z) elt te)
  (h2 : PIE X pins σ tg (fun J H1 => ∀ D, H1 D = none -> ∃ W : Nat -> Nat -> Hp -> Prop, (∃ m, W 0 m (upd H1 D (.lst []))) /\ ∀ i m H, W i m H ->
   (J.stop i H /\ Q (.ref D) H) \/ (J.go i H /\ ∀ x H', J.yld i H x H' -> g x (inn js σ) H' fun σ2 H2 => tt σ2 H2 fun b H3 =>
    if b = true then te σ2 H3 fun y H4 => ∃ ys, H4 D = some (.lst ys) /\ ys.length < sizeLine /\ ∃ m', m' < m /\ W (i + 1) m' (upd H4 D (.lst (ys ++ [y]))) else ∃ m', m' < m /\ W (i + 1) m' H3)) itv s2)
  (hRR : ∀ D C s' H' m o, Inv X (pins ++ [(C, o)]) σ H' s' -> s'.heap.Ns C m -> (X.s₀.heap.objs.size <= C /\ C ≠ X.env.locals /\ (∀ x c, X.env.cells.lookup x = some c -> c ≠ C) /\ ∀ p ∈ X.pn ++ pins, p.1 ≠ C) -> H' C = none -> Q (.ref D) H' -> RR (.ref D) C (.ok .next) s') :
  wpAny (model X.prog X.w) X.A (newList []) (fun acc s₃ => wpAny (model X.prog X.w) X.A (newFunctionEnv scope X.env.globals (kq X.env scope.names []) [] X.env.qual none .none (some X.env)) (fun cenv s₄ =>
   codeAny (model X.prog X.w) X.A (.compStart (.ListComp elt [⟨tg, iter, ifs, 0⟩] scope pos) 0 itv acc { cenv with scope := relabel scope X.env }) (RR acc cenv.locals) s₄) E s₃) E s2 := by
 obtain ⟨it, fp, tn, J, H2, rfl, I2, T, t2, f2, q2⟩ := h2
 have fo : ∀ b ∈ fp, b < s2.heap.objs.size := fun b hb => by
  obtain ⟨o, e, _⟩ := T.obj _ _ t2 b hb
  exact L5 e
 have hD : H2 s2.heap.objs.size = none := I2.fresh
 obtain ⟨W, ⟨n, w0⟩, turn⟩ := q2 _ hD
 refine MS (wpAny_newFunctionEnv ck.cell (by intro y hy; simp at hy) (fun h1 hns hsb => ?_) ck.kind)
 have I3 : Inv X pins σ (upd H2 s2.heap.objs.size (.lst [])) { s2 with heap := s2.heap.push { cls := .type "list", data := .seq ([] : List Value).toArray }, toks := s2.toks } := I2.lnew (its := []) .nil (Mr _)
 have f3 : ∀ b ∈ fp, rS X pins (upd H2 s2.heap.objs.size (.lst [])) b := fun b hb => by
  obtain ⟨g0, g1⟩ := f2 b hb
  exact ⟨by rw [aW (Mi (fo b hb))]; exact g0, g1⟩
 have sz : (s2.heap.push { cls := .type "list", data := .seq ([] : List Value).toArray }).objs.size = s2.heap.objs.size + 1 := Heap.size_push _ _
 have kept : ∀ b o, (s2.heap.push { cls := .type "list", data := .seq ([] : List Value).toArray }).get? b = some o -> h1.get? b = some o := fun b o e =>
  hsb.extBut b o (Mi (L5 e)) (Mg _ e)
 have I4 := Ec (tk := s2.toks + ([] : List (Str × Value)).length) ck hXN hsc I3 f3 (fun b hb => by show b < (s2.heap.push _).objs.size; rw [sz]; exact Nat.lt_succ_of_lt (fo b hb)) hns kept
 have t4 : tn 0 h1 := T.keep _ _ _ t2 fun b hb o e => kept b o (Mg _ e)
 have fz : ∀ b ∈ fp, ∀ H', H' b = none -> rS (cxC X N scope ⟨kq X.env scope.names [], (s2.heap.push { cls := .type "list", data := .seq ([] : List Value).toArray }).objs.size, { s2 with heap := s2.heap.push { cls := .type "list", data := .seq ([] : List Value).toArray }, toks := s2.toks }, upd H2 s2.heap.objs.size (.lst []), fp, pins⟩) [] H' b := fun b hb H' hn => by
  obtain ⟨g0, g1, g2, g3, g4, g5⟩ := f3 b hb
  refine ⟨hn, (I4.ok.exf b hb).1, I4.ok.exfs b hb, .inl hb, (I4.ok.exf b hb).2, fun p hp => ?_⟩
  exact g5 p (by simpa [cxC] using hp)
 have loop := Cc (X := X) (σ := σ) (N := N) (scope := scope) (js := js) (iter := iter) (pos := pos) (E := E) (R := RR (.ref s2.heap.objs.size) (s2.heap.push { cls := .type "list", data := .seq ([] : List Value).toArray }).objs.size) (D := s2.heap.objs.size) (W := W) (n := n)
  hc T fz (hg _) hs (ht _) (he _) (fun i m H w => (turn i m H w).imp (fun a => ⟨a.1, fun s' Y => ?_⟩) id) I4 t4 (fun b hb => (f3 b hb).1) w0
 ·exact codeAny_compStart_list loop (T.self _ 0 _ _ _ t4 loop)
 ·have bb := Y.base
  have J0 : Inv X pins σ H s' := I3.call' Y.os bb Y.hok Y.bare fun b hb => by
   obtain ⟨g0, g1, g2, g3, g4, g5⟩ := f3 b hb
   exact ⟨g3, g1, g4, g5⟩
  obtain ⟨mC, nC, _⟩ := Y.loc
  obtain ⟨oC, eC, dC⟩ : ∃ o, s'.heap.get? (s2.heap.push { cls := .type "list", data := .seq ([] : List Value).toArray }).objs.size = some o /\ ∀ v, o.data ≠ .cell v := by
   obtain ⟨o, es, ep, ho, hd, _⟩ := nC
   exact ⟨o, ho, fun v z => by rw [hd] at z; cases z⟩
  have lC : X.s₀.heap.objs.size <= (s2.heap.push { cls := .type "list", data := .seq ([] : List Value).toArray }).objs.size := I3.sz
  have cC : (s2.heap.push { cls := .type "list", data := .seq ([] : List Value).toArray }).objs.size ≠ X.env.locals := Nat.ne_of_gt I3.lt
  have kC : ∀ x c, X.env.cells.lookup x = some c -> c ≠ (s2.heap.push { cls := .type "list", data := .seq ([] : List Value).toArray }).objs.size := fun x c e => by
   obtain ⟨v, q⟩ := I3.cell x c e
   exact Mi q.lt
  have pC : ∀ p ∈ X.pn ++ pins, p.1 ≠ (s2.heap.push { cls := .type "list", data := .seq ([] : List Value).toArray }).objs.size := fun p hp => Mi (L5 (I3.pin p hp).1)
  have J1 : Inv X (pins ++ [((s2.heap.push { cls := .type "list", data := .seq ([] : List Value).toArray }).objs.size, oC)]) σ H s' := J0.pins_of fun p hp => by
   rcases Mb.mp hp with hp | hp
   ·exact J0.pin p (L0 _ hp)
   ·rw [L4.mp hp]
    exact ⟨eC, Y.free, cC, I3.nofs (LU _), dC⟩
  exact hRR _ _ s' H mC oC J1 nC ⟨lC, cC, kC, pC⟩ Y.free a.2
theorem eh (ck : CmpOk XN sc scope N js) (hi : PI X tg iter wi) (hg : ∀ z, PG (cxC X N scope z) tg g) (hs : zD js g) (ht : ∀ z, PIf (cxC X N scope z) ifs tt) (he : ∀ z, PE (cxC X N scope z) elt te)
  (hXN : X.N = XN := by rfl) (hsc : X.env.scope = sc := by rfl) (hc : X.calm = true := by rfl) (hf : ∀ x, foldedSetIterable iter X.env x = pure x := by intro _; rfl) :
  PE X (.ListComp elt [⟨tg, iter, ifs, 0⟩] scope pos) (uW js wi g tt te) := by
 intro pins s σ H Q I h
 rw [eval_ListComp]
 have hcl : closureFor scope X.env = pure (kq X.env scope.names []) := rZ fun y hy hk => I.ok.has y.1 (by
  have := ck.free y hy hk
  rw [<- hsc] at this
  exact this)
 refine wpAny_comprehension_free (use := none) rfl hf hcl ck.kind ck.loc (thn (hi pins s σ H _ I h) fun v s1 h1 => thn h1 fun itv s2 h2 => ?_)
 refine sj (RR := fun acc C => compPost (model X.prog X.w) X.A X.xe none (EP X pins σ Q) acc C) ck hXN hsc hc hg hs ht he h2 ?_
 intro D C s' H' m o J nC hC fC q
 refine ⟨m, nC, fun h' sb => ⟨.ref D, H', ?_, rfl, q⟩⟩
 have J0 : Inv X pins σ H' s' := J.unpinned
 exact J0.turned (t' := s'.toks) (it := C) (fun b o hb e => sb.extBut b o hb e) fC hC.2.1 (.inr hC.1) hC.2.2.1 hC.2.2.2
theorem wF {i : Nat} {y : Str} {pos' spos : Pos} (ck : CmpOk XN sc scope N js) (hN : X.N.Nodup) (hi0 : X.N[i]? = some y) (hx : Loc X.env.scope y) (hi : PI X tg iter wi) (hg : ∀ z, PG (cxC X N scope z) tg g) (hs : zD js g) (ht : ∀ z, PIf (cxC X N scope z) ifs tt) (he : ∀ z, PE (cxC X N scope z) elt te)
  (hsw : swapsWith (.ListComp elt [⟨tg, iter, ifs, 0⟩] scope pos) (some (.Name y pos')) spos.line X.env = pure true := by rfl)
  (hXN : X.N = XN := by rfl) (hsc : X.env.scope = sc := by rfl) (hc : X.calm = true := by rfl) (hf : ∀ x, foldedSetIterable iter X.env x = pure x := by intro _; rfl)
  (hfn : X.fn y = true \/ X.env.scope.names.lookup y = some .local := by first | exact .inl rfl | exact .inr rfl | assumption) :
  PS X (.Assign [.Name y pos'] (.ListComp elt [⟨tg, iter, ifs, 0⟩] scope pos) spos) (uz (uW js wi g tt te) (dY i)) := by
 intro pins s σ H D I h
 rw [exec_Assign_Name_used _ _ _ _ hsw]
 have hcl : closureFor scope X.env = pure (kq X.env scope.names []) := rZ fun y hy hk => I.ok.has y.1 (by
  have := ck.free y hy hk
  rw [<- hsc] at this
  exact this)
 refine LQ (wpAny_standAt (LQ ?_))
 show wpAny (model X.prog X.w) X.A (comprehension (.ListComp elt [⟨tg, iter, ifs, 0⟩] scope pos) scope X.env _ (newList []) false (eval iter X.env) (some (assign (.Name y pos') X.env)) >>= fun _ => pure ()) _ _ s
 refine LQ (thn (wpAny_comprehension_free (use := some (assign (.Name y pos') X.env)) (Q := fun _ s' => SP X pins D .next s') rfl hf hcl ck.kind ck.loc (thn (hi pins s σ H _ I h) fun v s1 h1 => thn h1 fun itv s2 h2 => ?_)) fun _ s' q => LS (LS q))
 refine sj (RR := fun acc C => compPost (model X.prog X.w) X.A X.xe (some (assign (.Name y pos') X.env)) (fun _ s' => SP X pins D .next s') acc C) (Q := fun x H1 => dY i x σ H1 D.nx) ck hXN hsc hc hg hs ht he h2 ?_
 intro A C s' H' m o J nC hC fC q
 refine thn (aD hN hi0 hx hfn _ s' σ H' (.ref A) (.ref A) _ J rfl q) fun _ s3 h3 => ?_
 obtain ⟨σ3, H3, J3, q3⟩ := h3
 have pc := J3.pin (C, o) (L0 _ (L0 _ LV))
 have oC : s'.heap.get? C = some o := (J.pin (C, o) (L0 _ (L0 _ LV))).1
 refine ⟨m, nC.at' fun o' e => ?_, fun h' sb => ⟨σ3, H3, ?_, q3⟩⟩
 ·rw [oC] at e
  cases e
  exact pc.1
 ·have J0 : Inv X pins σ3 H3 s3 := J3.unpinned
  exact J0.turned (t' := s3.toks) (it := C) (fun b o hb e => sb.extBut b o hb e) pc.2.1 hC.2.1 (.inr hC.1) hC.2.2.1 hC.2.2.2
end
end L2
namespace Srt
open PySem PySem.W PyProof.Rows
section
variable {α β : Type} (lt : Nat -> Nat -> Bool) (n : Nat)
noncomputable def Pwp : KasT α -> (α -> Prop) -> Prop
 | .ret a, Q => Q a
 | .ask i j k, Q => i < n /\ j < n /\ Pwp (k (lt i j)) Q
theorem Pwp.bind {f : α -> KasT β} {Q : β -> Prop} : ∀ {t : KasT α}, Pwp lt n t (fun a => Pwp lt n (f a) Q) -> Pwp lt n (t.bind f) Q
 | .ret _, h => h
 | .ask _ _ _, h => ⟨h.1, h.2.1, Pwp.bind h.2.2⟩
end
section
variable {lt : Nat -> Nat -> Bool} {le : Nat -> Nat -> Prop} {n : Nat} {p : Array Nat}
noncomputable abbrev at' (p : Array Nat) (i : Nat) : Nat := p.getD i 0
theorem yw {p q : Array Nat} {i j : Nat} (h : p[i]? = q[j]?) : at' p i = at' q j := by
 have e : ∀ (r : Array Nat) (k : Nat), at' r k = (r[k]?).getD 0 := fun r k => by simp [at']
 rw [e, e, h]
def Asc (le : Nat -> Nat -> Prop) (p : Array Nat) (m : Nat) : Prop := ∀ i j, i <= j -> j < m -> le (at' p i) (at' p j)
def Bel (n : Nat) (p : Array Nat) : Prop := ∀ k, at' p k < n
structure Ord (lt : Nat -> Nat -> Bool) (le : Nat -> Nat -> Prop) : Prop where
 tr : ∀ a b c, le a b -> le b c -> le a c
 rf : ∀ a, le a a
 yes : ∀ a b, lt a b = true -> le a b
 no : ∀ a b, lt a b = false -> le b a
theorem Hn (hn : 0 < n) (hp : p.Perm (List.range n).toArray) : Bel n p := fun k => by
 have e : at' p k = (p[k]?).getD 0 := by simp [at']
 rw [e]
 cases h : p[k]? with
 | none => exact hn
 | some v =>
  have hm : v ∈ p := Array.mem_of_getElem? h
  have := (Array.perm_iff_toList_perm.mp hp).mem_iff.mp (Array.mem_toList_iff.mpr hm)
  simpa using this
theorem cB {i j : Nat} (hj : j <= p.size) (k : Nat) : at' (kas_rev p i j) k = if i <= k /\ k < j then at' p (i + j - 1 - k) else at' p k := by
 have e := getElem?_mirror_all (i := i) hj k
 by_cases h : i <= k /\ k < j
 ·rw [LO h] at e ⊢; exact yw e
 ·rw [LP h] at e ⊢; exact yw e
variable {z : Nat}
theorem pE {src d : Nat} (hs : src < p.size) (hd : d <= src) (k : Nat) : at' (bubble p src d) k = if k = src - d then at' p src else if src - d < k /\ k <= src then at' p (k - 1) else at' p k := by
 have e := getElem?_bubble hs d hd k
 by_cases h1 : k = src - d
 ·rw [LO h1] at e ⊢; exact yw e
 ·rw [LP h1] at e ⊢
  by_cases h2 : src - d < k /\ k <= src
  ·rw [LO h2] at e ⊢; exact yw e
  ·rw [LP h2] at e ⊢; exact yw e
end
theorem AJ {α : Type} {le : Nat -> Nat -> Prop} {p : Array Nat} {vs : List α} {d : α} (hp : p.Perm (List.range vs.length).toArray) (ha : Asc le p vs.length) :
  (p.toList.map fun i => vs.getD i d).Perm vs /\ ∀ R : α -> α -> Prop, (∀ i j, i < vs.length -> j < vs.length -> le i j -> R (vs.getD i d) (vs.getD j d)) -> (p.toList.map fun i => vs.getD i d).Pairwise R := by
 have hl : p.toList.Perm (List.range vs.length) := by simpa using Array.perm_iff_toList_perm.mp hp
 constructor
 ·have h1 : (p.toList.map fun i => vs.getD i d).Perm ((List.range vs.length).map fun i => vs.getD i d) := hl.map _
  have h2 : ((List.range vs.length).map fun i => vs.getD i d) = vs := by
   apply List.ext_getElem
   ·simp
   ·intro i h1 h2; simp at h1; simp [h1]
  rw [h2] at h1
  exact h1
 ·intro R hR
  rw [MT, MP]
  intro i j hi hj hij
  have hs : p.toList.length = vs.length := by rw [hl.length_eq]; simp
  have m : ∀ k (hk : k < p.toList.length), p.toList[k] < vs.length := fun k hk => by simpa using hl.mem_iff.mp (List.getElem_mem hk)
  have a : ∀ k (hk : k < p.toList.length), at' p k = p.toList[k] := fun k hk => by
   have : k < p.size := by simpa using hk
   simp [at', Array.getD, this]
  refine hR _ _ (m i hi) (m j hj) ?_
  rw [<- a i hi, <- a j hj]
  exact ha i j (MB hij) (by lia)
noncomputable def Fz : Bool -> Keyed -> Array Keyed -> Nat -> Nat -> Nat -> StateT SortSt Sem (Option Nat) := sortPriv% PySem.Builtin.gallop
noncomputable def Eh : Array Keyed -> Array Keyed -> StateT SortSt Sem (Array Keyed) := sortPriv% PySem.Builtin.mergeLo
noncomputable def C6 : Array Keyed -> Array Keyed -> StateT SortSt Sem (Array Keyed) := sortPriv% PySem.Builtin.mergeHi
section
variable {prog : Program} {w : World} {A : Around} {E : Value -> Shared -> Prop} {s : Shared} {κ : SortKind} {it : Array Keyed} {n : Nat} {lt : Nat -> Nat -> Bool} {le : Nat -> Nat -> Prop}
def uD (prog : Program) (w : World) (A : Around) (s : Shared) (κ : SortKind) (it : Array Keyed) (n : Nat) (lt : Nat -> Nat -> Bool) : Prop :=
 ∀ i j (C : Bool -> Shared -> Prop), i < n -> j < n -> C (lt i j) s -> kas_cmp prog w A κ it i j C s
theorem w_lt (hc : uD prog w A s κ it n lt) {i j : Nat} {Q : Option Bool -> SortSt -> Prop} {st : SortSt} (hk : kindOf st = κ) (hi : i < n) (hj : j < n) (h : Q (some (lt i j)) st) : wpS (model prog w) A E s (lt' (kas_item it i) (kas_item it j)) Q st := by
 rw [lt'_eq]
 refine wpS_bind (wpS_get ?_)
 rw [hk]
 refine wpS_bind (wpS_lift (wpAny_attempt (wpAny_mono (hc i j (fun c s' => s' = s /\ c = lt i j) hi hj ⟨rfl, rfl⟩) (fun c s' h' => ?_) fun _ _ hF => hF.elim)))
 obtain ⟨rfl, rfl⟩ := h'
 exact ⟨rfl, wpS_pure h⟩
theorem aJ {X : Array Nat} {k : Nat} {Q : Keyed -> SortSt -> Prop} {st : SortSt} (hk : k < X.size) (h : Q (kas_item it (at' X k)) st) : wpS (model prog w) A E s (elem' (X.map (kas_item it)) k) Q st := by
 rw [elem'_eq]
 have e : at' X k = X[k] := by simp [at', hk]
 rw [e] at h
 have e2 : (X.map (kas_item it))[k]? = some (kas_item it X[k]) := by simp [hk]
 rw [e2]
 exact wpS_pure h
theorem cH (o : Ord lt le) (hc : uD prog w A s κ it n lt) {left : Bool} {key : Nat} {X : Array Nat} {base m hint : Nat} {Q : Option Nat -> SortSt -> Prop} {st : SortSt} (hk : kindOf st = κ) (hb : ∀ i, i < X.size -> at' X i < n) (hkey : key < n)
  (hz : base + m <= X.size) (hh : hint < m) (hs : ∀ i j, i <= j -> j < m -> le (at' X (base + i)) (at' X (base + j)))
  (h : ∀ k, k <= m -> (∀ i, i < k -> le (at' X (base + i)) key) -> (∀ i, k <= i -> i < m -> le key (at' X (base + i))) -> Q (some k) st) :
  wpS (model prog w) A E s (Fz left (kas_item it key) (X.map (kas_item it)) base m hint) Q st := by
 have bey : ∀ i, i < m -> ∀ (R : Option Bool -> SortSt -> Prop), (∀ c, (c = true -> le (at' X (base + i)) key) -> (c = false -> le key (at' X (base + i))) -> R (some c) st) -> wpS (model prog w) A E s (do
   let x ← elem' (X.map (kas_item it)) (base + i)
   if left = true then lt' x (kas_item it key) else do
    let r ← lt' (kas_item it key) x
    pure (Option.map (fun x => !x) r)) R st := fun i hi R hR => by
  refine wpS_bind (aJ (by lia) ?_)
  have hx := hb (base + i) (by lia)
  cases left with
  | true =>
   rw [LO rfl]
   exact w_lt hc hk hx hkey (hR _ (o.yes _ _) (o.no _ _))
  | false =>
   rw [LP (by decide)]
   refine wpS_bind (w_lt hc hk hkey hx (wpS_pure ?_))
   refine hR _ (fun e => o.no _ _ (by simpa using e)) (fun e => o.yes _ _ (by simpa using e))
 have lo' : ∀ k, k < m -> le (at' X (base + k)) key -> ∀ i, i <= k -> le (at' X (base + i)) key := fun k hk hl i hi => o.tr _ _ _ (hs i k hi hk) hl
 have hi' : ∀ k, k < m -> le key (at' X (base + k)) -> ∀ i, k <= i -> i < m -> le key (at' X (base + i)) := fun k hk hl i hi him => o.tr _ _ _ hl (hs k i hi him)
 refine wpS_bind (bey hint hh _ fun c c1 c2 => ?_)
 dsimp only
 cases c with
 | true =>
  rw [LO rfl]
  refine wpS_bind (wpS_mono (wpS_forRange (I := fun x c st' => st' = st /\ ∃ l f, c = (none, l, f) /\ x + 1 <= f /\ hint + l < m /\ le (at' X (base + (hint + l))) key)
   (Q := fun c st' => st' = st /\ ∃ l f, c = (none, l, f) /\ hint + l < m /\ le (at' X (base + (hint + l))) key /\ (f < m - hint -> le key (at' X (base + (hint + f))))) ?s1 ?f1 ?i1) ?p1)
  case i1 => exact ⟨rfl, 0, 1, rfl, by lia, by lia, c1 rfl⟩
  case f1 =>
   rintro c st' ⟨rfl, l, f, rfl, h1, h2, h3⟩
   exact ⟨rfl, l, f, rfl, h2, h3, fun _ => by lia⟩
  case s1 =>
   rintro x c st' _ hx ⟨rfl, l, f, rfl, h1, h2, h3⟩
   dsimp only
   by_cases hge : f ≥ m - hint
   ·rw [LO hge]
    exact wpS_pure ⟨rfl, l, f, rfl, h2, h3, fun _ => by lia⟩
   ·rw [LP hge]
    refine wpS_bind (bey (hint + f) (by lia) _ fun c d1 d2 => ?_)
    dsimp only
    cases c with
    | true => exact wpS_pure ⟨rfl, f, 2 * f + 1, rfl, by lia, by lia, d1 rfl⟩
    | false => exact wpS_pure ⟨rfl, l, f, rfl, h2, h3, fun _ => d2 rfl⟩
  case p1 =>
   rintro c st' ⟨rfl, l, f, rfl, h2, h3, h4⟩
   dsimp only
   have g1 : ∀ i, i < hint + l + 1 -> i < m -> le (at' X (base + i)) key := fun i hi _ => lo' _ h2 h3 i (by lia)
   have g2 : ∀ i, hint + min f (m - hint) <= i -> i < m -> le key (at' X (base + i)) := fun i hi him => hi' (hint + f) (by lia) (h4 (by lia)) i (by lia) him
   have g3 : hint + min f (m - hint) <= m := by lia
   generalize hint + l + 1 = L at g1 ⊢
   generalize hint + min f (m - hint) = H at g2 g3 ⊢
   refine wpS_bind (wpS_mono (wpS_forRange (I := fun x c st2 => st2 = st' /\ ∃ l h, c = (none, l, h) /\ h <= m /\ h - l <= m - x /\ (∀ i, i < l -> i < m -> le (at' X (base + i)) key) /\ (∀ i, h <= i -> i < m -> le key (at' X (base + i))))
    (Q := fun c st2 => st2 = st' /\ ∃ l h, c = (none, l, h) /\ h <= m /\ h <= l /\ (∀ i, i < l -> i < m -> le (at' X (base + i)) key) /\ (∀ i, h <= i -> i < m -> le key (at' X (base + i)))) ?s2 ?f2 ?i2) ?p2)
   case i2 => exact ⟨rfl, L, H, rfl, g3, by lia, g1, g2⟩
   case f2 =>
    rintro c st2 ⟨rfl, l, h, rfl, k1, k2, k3, k4⟩
    exact ⟨rfl, l, h, rfl, k1, by lia, k3, k4⟩
   case s2 =>
    rintro x c st2 _ hx ⟨rfl, l, h, rfl, k1, k2, k3, k4⟩
    dsimp only
    by_cases hge : l ≥ h
    ·rw [LO hge]
     exact wpS_pure ⟨rfl, l, h, rfl, k1, hge, k3, k4⟩
    ·rw [LP hge]
     refine wpS_bind (bey (l + (h - l) / 2) (by lia) _ fun c d1 d2 => ?_)
     dsimp only
     cases c with
     | true => exact wpS_pure ⟨rfl, _, _, rfl, k1, by lia, fun i hi him => lo' _ (by lia) (d1 rfl) i (by lia), k4⟩
     | false => exact wpS_pure ⟨rfl, _, _, rfl, by lia, by lia, k3, fun i hi him => hi' _ (by lia) (d2 rfl) i hi him⟩
   case p2 =>
    rintro c st2 ⟨rfl, l, h', rfl, k1, k2, k3, k4⟩
    exact wpS_pure (h h' k1 (fun i hi => k3 i (by lia) (by lia)) k4)
 | false =>
  rw [LP (by decide)]
  refine wpS_bind (wpS_mono (wpS_forRange (I := fun x c st' => st' = st /\ ∃ l f, c = (none, l, f) /\ x + 1 <= f /\ l <= hint /\ le key (at' X (base + (hint - l))))
   (Q := fun c st' => st' = st /\ ∃ l f, c = (none, l, f) /\ l <= hint /\ le key (at' X (base + (hint - l))) /\ (f < hint + 1 -> le (at' X (base + (hint - f))) key)) ?s1 ?f1 ?i1) ?p1)
  case i1 => exact ⟨rfl, 0, 1, rfl, by lia, by lia, c2 rfl⟩
  case f1 =>
   rintro c st' ⟨rfl, l, f, rfl, h1, h2, h3⟩
   exact ⟨rfl, l, f, rfl, h2, h3, fun _ => by lia⟩
  case s1 =>
   rintro x c st' _ hx ⟨rfl, l, f, rfl, h1, h2, h3⟩
   dsimp only
   by_cases hge : f ≥ hint + 1
   ·rw [LO hge]
    exact wpS_pure ⟨rfl, l, f, rfl, h2, h3, fun _ => by lia⟩
   ·rw [LP hge]
    refine wpS_bind (bey (hint - f) (by lia) _ fun c d1 d2 => ?_)
    dsimp only
    cases c with
    | true => exact wpS_pure ⟨rfl, l, f, rfl, h2, h3, fun _ => d1 rfl⟩
    | false => exact wpS_pure ⟨rfl, f, 2 * f + 1, rfl, by lia, by lia, d2 rfl⟩
  case p1 =>
   rintro c st' ⟨rfl, l, f, rfl, h2, h3, h4⟩
   dsimp only
   have g1 : ∀ i, i < hint + 1 - min f (hint + 1) -> i < m -> le (at' X (base + i)) key := fun i hi _ => lo' (hint - f) (by lia) (h4 (by lia)) i (by lia)
   have g2 : ∀ i, hint - l <= i -> i < m -> le key (at' X (base + i)) := fun i hi him => hi' (hint - l) (by lia) h3 i (by lia) him
   have g3 : hint - l <= m := by lia
   generalize hint + 1 - min f (hint + 1) = L at g1 ⊢
   generalize hint - l = H at g2 g3 ⊢
   refine wpS_bind (wpS_mono (wpS_forRange (I := fun x c st2 => st2 = st' /\ ∃ l h, c = (none, l, h) /\ h <= m /\ h - l <= m - x /\ (∀ i, i < l -> i < m -> le (at' X (base + i)) key) /\ (∀ i, h <= i -> i < m -> le key (at' X (base + i))))
    (Q := fun c st2 => st2 = st' /\ ∃ l h, c = (none, l, h) /\ h <= m /\ h <= l /\ (∀ i, i < l -> i < m -> le (at' X (base + i)) key) /\ (∀ i, h <= i -> i < m -> le key (at' X (base + i)))) ?s2 ?f2 ?i2) ?p2)
   case i2 => exact ⟨rfl, L, H, rfl, g3, by lia, g1, g2⟩
   case f2 =>
    rintro c st2 ⟨rfl, l, h, rfl, k1, k2, k3, k4⟩
    exact ⟨rfl, l, h, rfl, k1, by lia, k3, k4⟩
   case s2 =>
    rintro x c st2 _ hx ⟨rfl, l, h, rfl, k1, k2, k3, k4⟩
    dsimp only
    by_cases hge : l ≥ h
    ·rw [LO hge]
     exact wpS_pure ⟨rfl, l, h, rfl, k1, hge, k3, k4⟩
    ·rw [LP hge]
     refine wpS_bind (bey (l + (h - l) / 2) (by lia) _ fun c d1 d2 => ?_)
     dsimp only
     cases c with
     | true => exact wpS_pure ⟨rfl, _, _, rfl, k1, by lia, fun i hi him => lo' _ (by lia) (d1 rfl) i (by lia), k4⟩
     | false => exact wpS_pure ⟨rfl, _, _, rfl, by lia, by lia, k3, fun i hi him => hi' _ (by lia) (d2 rfl) i hi him⟩
   case p2 =>
    rintro c st2 ⟨rfl, l, h', rfl, k1, k2, k3, k4⟩
    exact wpS_pure (h h' k1 (fun i hi => k3 i (by lia) (by lia)) k4)
end
end Srt
namespace Srt
section
variable {le : Nat -> Nat -> Prop} {tot out ra rb xs : List Nat}
def Inv (le : Nat -> Nat -> Prop) (tot out ra rb : List Nat) : Prop := (out ++ ra).Pairwise le /\ (out ++ rb).Pairwise le /\ (out ++ (ra ++ rb)).Perm tot
theorem Inv.symm (h : Inv le tot out ra rb) : Inv le tot out rb ra := ⟨h.2.1, h.1, (List.Perm.append_left _ List.perm_append_comm).trans h.2.2⟩
theorem Inv.block (h : Inv le tot out (xs ++ ra) rb) (k : ∀ x ∈ xs, ∀ y ∈ rb, le x y) : Inv le tot (out ++ xs) ra rb := by
 obtain ⟨h1, h2, h3⟩ := h
 refine ⟨by rw [Mj]; exact h1, ?_, by rw [Mj, <- Mj xs]; exact h3⟩
 rw [Mz] at h1 h2
 rw [Mj, Mz]
 obtain ⟨a1, a2, a3⟩ := h1
 obtain ⟨b1, b2, b3⟩ := h2
 rw [Mz] at a2
 refine ⟨a1, Mz.mpr ⟨a2.1, b2, k⟩, fun x hx y hy => ?_⟩
 rcases Mb.mp hy with hy | hy
 ·exact a3 x hx y (Me _ hy)
 ·exact b3 x hx y hy
theorem Inv.doneA (h : Inv le tot out ra []) : (out ++ ra).Pairwise le /\ (out ++ ra).Perm tot := ⟨h.1, by have := h.2.2; rwa [Mv] at this⟩
theorem Inv.lastA {x : Nat} (h : Inv le tot out [x] rb) (k : ∀ y ∈ rb, le y x) : (out ++ (rb ++ [x])).Pairwise le /\ (out ++ (rb ++ [x])).Perm tot := by
 refine ⟨?_, (List.Perm.append_left _ List.perm_append_comm).trans h.2.2⟩
 obtain ⟨h1, h2, _⟩ := h
 rw [Mz] at h1 h2
 rw [Mz]
 refine ⟨h1.1, Mz.mpr ⟨h2.2.1, List.pairwise_singleton _ _, fun y hy z hz => ?_⟩, fun a ha b hb => ?_⟩
 ·rw [L4] at hz; subst hz; exact k y hy
 ·rcases Mb.mp hb with hb | hb
  ·exact h2.2.2 a ha b hb
  ·exact h1.2.2 a ha b hb
end
section
variable {X Y O : Array Nat} {le : Nat -> Nat -> Prop} {tot : List Nat}
theorem HR {i : Nat} (h : i < X.size) : at' X i = X[i] := by simp [at', h]
theorem kb {i : Nat} (h : i < X.size) : X.toList[i]'(by simpa using h) = at' X i := by rw [HR h]; simp
theorem jV {i : Nat} (h : i < X.size) : X.toList.drop i = at' X i :: X.toList.drop (i + 1) := by
 rw [List.drop_eq_getElem_cons (by simpa using h), kb h]
theorem oi {i j : Nat} (h : i <= j) : X.toList.drop i = (X.extract i j).toList ++ X.toList.drop j := by
 rw [Array.toList_extract, List.extract_eq_take_drop]
 have e : X.toList.drop j = (X.toList.drop i).drop (j - i) := by rw [List.drop_drop]; congr 1; lia
 rw [e, List.take_append_drop]
theorem tI {i x : Nat} (h : x ∈ X.toList.drop i) : ∃ j, i <= j /\ j < X.size /\ at' X j = x := by
 obtain ⟨k, hk⟩ := ME h
 rw [List.getElem?_drop] at hk
 obtain ⟨h1, h2⟩ := LW.mp hk
 have h1' : i + k < X.size := by simpa using h1
 exact ⟨i + k, by lia, h1', by rw [<- kb h1']; exact h2⟩
theorem rF {i j x : Nat} (h : x ∈ (X.extract i j).toList) : ∃ k, i <= k /\ k < j /\ k < X.size /\ at' X k = x := by
 obtain ⟨k, hk⟩ := ME h
 rw [Array.toList_extract, List.extract_eq_take_drop, List.getElem?_take] at hk
 split at hk
 ·rw [List.getElem?_drop] at hk
  obtain ⟨h1, h2⟩ := LW.mp hk
  have h1' : i + k < X.size := by simpa using h1
  exact ⟨i + k, by lia, by lia, h1', by rw [<- kb h1']; exact h2⟩
 ·cases hk
abbrev J (le : Nat -> Nat -> Prop) (tot : List Nat) (X Y O : Array Nat) (ia ib : Nat) : Prop := Inv le tot O.toList (X.toList.drop ia) (Y.toList.drop ib)
variable {ia ib : Nat}
theorem J.one (j : J le tot X Y O ia ib) (h : ia < X.size) (k : ∀ i, ib <= i -> i < Y.size -> le (at' X ia) (at' Y i)) : J le tot X Y (O.push (at' X ia)) (ia + 1) ib := by
 unfold J at j ⊢
 rw [jV h] at j
 have := Inv.block (xs := [at' X ia]) j (fun x hx y hy => by
  rw [L4] at hx
  subst hx
  obtain ⟨i, h1, h2, rfl⟩ := tI hy
  exact k i h1 h2)
 rwa [Array.toList_push]
theorem J.blk {m : Nat} (j : J le tot X Y O ia ib) (k : ∀ i l, ia <= i -> i < ia + m -> i < X.size -> ib <= l -> l < Y.size -> le (at' X i) (at' Y l)) : J le tot X Y (O ++ X.extract ia (ia + m)) (ia + m) ib := by
 unfold J at j ⊢
 rw [oi (j := ia + m) (by lia)] at j
 have := Inv.block j (fun x hx y hy => by
  obtain ⟨i, h1, h2, h3, rfl⟩ := rF hx
  obtain ⟨l, h4, h5, rfl⟩ := tI hy
  exact k i l h1 h2 h3 h4 h5)
 rwa [Array.toList_append]
theorem J.sy (j : J le tot X Y O ia ib) : J le tot Y X O ib ia := Inv.symm j
abbrev kj (le : Nat -> Nat -> Prop) (tot : List Nat) (R : Array Nat) : Prop := R.toList.Pairwise le /\ R.toList.Perm tot
theorem J.done1 (j : J le tot X Y O ia ib) (h : Y.size <= ib) (h2 : ia <= X.size) : kj le tot (O ++ X.extract ia X.size ++ Y.extract ib Y.size) := by
 unfold J at j
 rw [MU (l := Y.toList) (by simpa using h)] at j
 have e : (Y.extract ib Y.size) = #[] := by simp; lia
 have e2 : X.toList.drop ia = (X.extract ia X.size).toList := by rw [oi h2]; simp
 rw [e, Array.append_empty]
 unfold kj
 rw [Array.toList_append, <- e2]
 exact j.doneA
theorem J.done2 (j : J le tot X Y O ia ib) (h : X.size <= ia) (h2 : ib <= Y.size) : kj le tot (O ++ X.extract ia X.size ++ Y.extract ib Y.size) := by
 have e : (X.extract ia X.size) = #[] := by simp; lia
 have := j.sy.done1 h h2
 rw [e, Array.append_empty] at this ⊢
 exact this
theorem J.last (j : J le tot X Y O ia ib) (h : ia + 1 = X.size) (h2 : ib <= Y.size) (k : ∀ i, i < Y.size -> le (at' Y i) (at' X ia)) : kj le tot (O ++ Y.extract ib Y.size ++ X.extract ia X.size) := by
 unfold J at j
 rw [jV (by lia), MU (l := X.toList) (i := ia + 1) (by simp; lia)] at j
 have := j.lastA fun y hy => by
  obtain ⟨i, h1, h2, rfl⟩ := tI hy
  exact k i h2
 have e : (X.extract ia X.size).toList = [at' X ia] := by
  have e2 : X.toList.drop ia = (X.extract ia X.size).toList := by rw [oi (j := X.size) (by lia)]; simp
  rw [<- e2, jV (by lia), MU (l := X.toList) (i := ia + 1) (by simp; lia)]
 have e3 : Y.toList.drop ib = (Y.extract ib Y.size).toList := by rw [oi h2]; simp
 unfold kj
 rw [Array.toList_append, Array.toList_append, e, <- e3, Mj]
 exact this
end
end Srt
namespace Srt
open PySem PySem.W PyProof.Rows
section
variable {prog : Program} {w : World} {A : Around} {E : Value -> Shared -> Prop} {s : Shared} {κ : SortKind} {it : Array Keyed} {n : Nat} {lt : Nat -> Nat -> Bool} {le : Nat -> Nat -> Prop}
def Same (κ : SortKind) (st st' : SortSt) : Prop := kindOf st' = κ /\ arrOf st' = arrOf st /\ pendingOf st' = pendingOf st /\ failedOf st' = failedOf st
theorem Same.g {st st2 : SortSt} (h : Same κ st st2) (g : Nat) : Same κ st (SortSt.mk' (kindOf st2) (arrOf st2) (pendingOf st2) g (failedOf st2)) := h
theorem bT {σ α : Type} {M : Model} {c : Prop} [Decidable c] {a b : StateT σ Sem α} {Q : α -> σ -> Prop} {st : σ} (h1 : wpS M A E s a Q st) (h2 : wpS M A E s b Q st) : wpS M A E s (if c then a else b) Q st := by
 by_cases h : c
 ·rw [LO h]; exact h1
 ·rw [LP h]; exact h2
theorem exm (f : Nat -> Keyed) (Z : Array Nat) : (Z.map f).extract 0 Z.size = Z.map f := by
 have : Z.size = (Z.map f).size := by simp
 rw [this]; simp
theorem AR {X : Array Nat} (h : ∀ i j, i <= j -> j < X.size -> le (at' X i) (at' X j)) : X.toList.Pairwise le := by
 rw [MP]
 intro i j hi hj hij
 have h2 : j < X.size := by simpa using hj
 rw [kb (by lia), kb h2]
 exact h i j (by lia) h2
theorem CN (o : Ord lt le) (hc : uD prog w A s κ it n lt) {X Y : Array Nat} {Q : Array Keyed -> SortSt -> Prop} {st : SortSt} (hk : kindOf st = κ) (hx : ∀ i, i < X.size -> at' X i < n) (hy : ∀ i, i < Y.size -> at' Y i < n)
  (x1 : 1 <= X.size) (y1 : 1 <= Y.size) (sx : ∀ i j, i <= j -> j < X.size -> le (at' X i) (at' X j)) (sy : ∀ i j, i <= j -> j < Y.size -> le (at' Y i) (at' Y j)) (hf : ∀ i, i < X.size -> le (at' Y 0) (at' X i)) (hl : ∀ i, i < Y.size -> le (at' Y i) (at' X (X.size - 1)))
  (h : ∀ R st', Same κ st st' -> kj le (X.toList ++ Y.toList) R -> Q (R.map (kas_item it)) st') :
  wpS (model prog w) A E s (Eh (X.map (kas_item it)) (Y.map (kas_item it))) Q st := by
 have sm0 : Same κ st st := ⟨hk, rfl, rfl, rfl⟩
 have j0 : J le (X.toList ++ Y.toList) X Y #[] 0 0 := ⟨by simpa using AR sx, by simpa using AR sy, by simp⟩
 have j1 : J le (X.toList ++ Y.toList) X Y #[at' Y 0] 0 1 := (j0.sy.one (by lia) fun i _ h2 => hf i h2).sy
 refine wpS_bind (wpS_lift (wpAny_rule ⟨rfl, ?_⟩))
 refine wpS_bind (aJ (by lia) ?_)
 dsimp only
 simp only [Array.size_map, beq_iff_eq]
 by_cases e1 : 1 = Y.size
 ·rw [LO e1]
  refine wpS_pure ?_
  have := h _ st sm0 (j1.done1 (by lia) (by lia))
  simpa [exm] using this
 rw [LP e1]
 by_cases e2 : 0 + 1 = X.size
 ·rw [LO e2]
  refine wpS_pure ?_
  have := h _ st sm0 (j1.last (by lia) (by lia) fun i hi => by have := hl i hi; rwa [show X.size - 1 = 0 by lia] at this)
  simpa [exm] using this
 rw [LP e2]
 refine wpS_bind (wpS_get ?_)
 refine wpS_bind (wpS_mono (wpS_forRange (I := fun x c st2 => Same κ st st2 /\ ∃ O ia ib g, c = (none, O.map (kas_item it), ia, ib, g) /\ ia + 1 < X.size /\ ib < Y.size /\ x + 1 <= ia + ib /\ J le (X.toList ++ Y.toList) X Y O ia ib)
  (Q := fun c st2 => ∃ R, c.1 = some (R.map (kas_item it)) /\ kj le (X.toList ++ Y.toList) R /\ Same κ st st2) ?s1 ?f1 ?i1) ?p1)
 case i1 => exact ⟨sm0, #[at' Y 0], 0, 1, _, by simp; rfl, by lia, by lia, by lia, j1⟩
 case f1 =>
  rintro c st2 ⟨sm, O, ia, ib, g, rfl, la, lb, ls, j⟩
  lia
 case p1 =>
  rintro ⟨c, c'⟩ st2 ⟨R, hc1, hR, sm⟩
  dsimp only at hc1
  subst hc1
  exact wpS_pure (h R st2 sm hR)
 case s1 =>
  rintro x c st2 _ hx0 ⟨sm, O, ia, ib, g, rfl, la, lb, ls, j⟩
  dsimp only
  -- one by one
  refine wpS_bind (wpS_mono (wpS_forRange (I := fun y c st2 => Same κ st st2 /\ ∃ O ia ib a b, c = (none, O.map (kas_item it), ia, ib, a, b) /\ ia + 1 < X.size /\ ib < Y.size /\ x + 1 + y <= ia + ib /\ J le (X.toList ++ Y.toList) X Y O ia ib)
   (Q := fun c st2 => (∃ R, c.1 = some (R.map (kas_item it)) /\ kj le (X.toList ++ Y.toList) R /\ Same κ st st2) \/ (Same κ st st2 /\ ∃ O ia ib a b, c = (none, O.map (kas_item it), ia, ib, a, b) /\ ia + 1 < X.size /\ ib < Y.size /\ x + 1 + 1 <= ia + ib /\ J le (X.toList ++ Y.toList) X Y O ia ib)) ?s2 ?f2 ?i2) ?p2)
  case i2 => exact ⟨sm, O, ia, ib, 0, 0, rfl, la, lb, ls, j⟩
  case f2 =>
   rintro c st2 ⟨sm, O, ia, ib, a, b, rfl, la, lb, ls, j⟩
   lia
  case s2 =>
   clear la lb ls j sm
   rintro y c st2 _ hy0 ⟨sm, O, ia, ib, a, b, rfl, la, lb, ls, j⟩
   dsimp only
   refine wpS_bind (aJ lb ?_)
   refine wpS_bind (aJ (by lia) ?_)
   refine wpS_bind (w_lt hc sm.1 (hy ib lb) (hx ia (by lia)) ?_)
   dsimp only
   cases cw : lt (at' Y ib) (at' X ia) with
   | true =>
    rw [LO rfl]
    have l0 := o.yes _ _ cw
    have j2 : J le (X.toList ++ Y.toList) X Y (O.push (at' Y ib)) ia (ib + 1) := (j.sy.one lb fun i h1 h2 => o.tr _ _ _ l0 (sx _ _ h1 h2)).sy
    refine wpS_bind (aJ lb ?_)
    by_cases e3 : ib + 1 = Y.size
    ·rw [LO e3]
     refine wpS_pure (.inl ⟨(O.push (at' Y ib)) ++ X.extract ia X.size ++ Y.extract (ib + 1) Y.size, ?_, j2.done1 (by lia) (by lia), sm⟩)
     simp
    ·rw [LP e3]
     refine bT ?_ ?_
     ·exact wpS_pure (.inr ⟨sm, O.push (at' Y ib), ia, ib + 1, _, _, by rw [Array.map_push], by lia, by lia, by lia, j2⟩)
     ·exact wpS_pure ⟨sm, O.push (at' Y ib), ia, ib + 1, _, _, by rw [Array.map_push], by lia, by lia, by lia, j2⟩
   | false =>
    rw [LP (by decide)]
    have l0 := o.no _ _ cw
    have j2 := j.one (by lia) fun i h1 h2 => o.tr _ _ _ l0 (sy _ _ h1 h2)
    refine wpS_bind (aJ (by lia) ?_)
    by_cases e3 : ia + 1 + 1 = X.size
    ·rw [LO e3]
     refine wpS_pure (.inl ⟨(O.push (at' X ia)) ++ Y.extract ib Y.size ++ X.extract (ia + 1) X.size, ?_, j2.last (by lia) (by lia) (fun i hi => by have := hl i hi; rwa [show X.size - 1 = ia + 1 by lia] at this), sm⟩)
     simp
    ·rw [LP e3]
     refine bT ?_ ?_
     ·exact wpS_pure (.inr ⟨sm, O.push (at' X ia), ia + 1, ib, _, _, by rw [Array.map_push], by lia, by lia, by lia, j2⟩)
     ·exact wpS_pure ⟨sm, O.push (at' X ia), ia + 1, ib, _, _, by rw [Array.map_push], by lia, by lia, by lia, j2⟩
  case p2 =>
   clear la lb ls j sm
   rintro ⟨c, c'⟩ st2 (⟨R, hc1, hR, sm⟩ | ⟨sm, O, ia, ib, a, b, hcc, la, lb, ls, j⟩)
   ·dsimp only at hc1
    subst hc1
    exact wpS_pure ⟨R, rfl, hR, sm⟩
   cases hcc
   dsimp only
   refine wpS_bind (wpS_lift (wpAny_rule ⟨rfl, ?_⟩))
   have hst : ∃ aM, aM = x + 1 + 1 := ⟨_, rfl⟩
   obtain ⟨aM, hst⟩ := hst
   rw [<- hst] at ls
   refine wpS_bind (wpS_mono (wpS_forRange (I := fun y c st2 => Same κ st st2 /\ ∃ O ia ib m a b, c = (none, O.map (kas_item it), ia, ib, m, a, b) /\ ia + 1 < X.size /\ ib < Y.size /\ aM <= ia + ib /\ J le (X.toList ++ Y.toList) X Y O ia ib)
    (Q := fun c st2 => (∃ R, c.1 = some (R.map (kas_item it)) /\ kj le (X.toList ++ Y.toList) R /\ Same κ st st2) \/ (Same κ st st2 /\ ∃ O ia ib m a b, c = (none, O.map (kas_item it), ia, ib, m, a, b) /\ ia + 1 < X.size /\ ib < Y.size /\ aM <= ia + ib /\ J le (X.toList ++ Y.toList) X Y O ia ib)) ?s3 ?f3 ?i3) ?p3)
   case i3 => exact ⟨sm, O, ia, ib, _, _, _, rfl, la, lb, ls, j⟩
   case f3 => exact fun c st2 h => .inr h
   case p3 =>
    clear la lb ls j sm
    rintro ⟨c, c'⟩ st2 (⟨R, hc1, hR, sm⟩ | ⟨sm, O, ia, ib, m, a, b, hcc, la, lb, ls, j⟩)
    ·dsimp only at hc1
     subst hc1
     exact wpS_pure ⟨R, rfl, hR, sm⟩
    cases hcc
    dsimp only
    refine wpS_bind (wpS_modify (wpS_pure ?_))
    exact ⟨sm.g _, O, ia, ib, _, rfl, la, lb, by lia, j⟩
   case s3 =>
    clear la lb ls j sm
    rintro y c st2 _ hy0 ⟨sm, O, ia, ib, m, a, b, rfl, la, lb, ls, j⟩
    dsimp only
    by_cases hm : m > 1
    ·rw [LO hm]
     refine wpS_bind (wpS_modify ?_)
     replace sm := sm.g (m - 1)
     refine wpS_bind (aJ lb ?_)
     refine wpS_bind (cH o hc sm.1 hx (hy ib lb) (by lia) (by lia) (fun i k h1 h2 => sx _ _ (by lia) (by lia)) fun k k1 k2 k3 => ?_)
     dsimp only
     have k2' : ∀ i, ia <= i -> i < ia + k -> le (at' X i) (at' Y ib) := fun i h1 h2 => by
      have := k2 (i - ia) (by lia)
      rwa [show ia + (i - ia) = i by lia] at this
     have ky : ∀ i, ia + k <= i -> i < X.size -> le (at' Y ib) (at' X i) := fun i h1 h2 => by
      have := k3 (i - ia) (by lia) (by lia)
      rwa [show ia + (i - ia) = i by lia] at this
     by_cases k0 : k > 0
     ·rw [LO k0]
      replace j := j.blk (m := k) fun i l h1 h2 h3 h4 h5 => o.tr _ _ _ (k2' i h1 h2) (sy _ _ h4 h5)
      have eO : O.map (kas_item it) ++ (X.map (kas_item it)).extract ia (ia + k) = (O ++ X.extract ia (ia + k)).map (kas_item it) := by simp
      rw [eO]
      by_cases e1 : ia + k + 1 = X.size
      ·rw [LO e1]
       refine wpS_pure (.inl ⟨O ++ X.extract ia (ia + k) ++ Y.extract ib Y.size ++ X.extract (ia + k) X.size, ?_, j.last (by lia) (by lia) (fun i hi => by have := hl i hi; rwa [show X.size - 1 = ia + k by lia] at this), sm⟩)
       simp
      rw [LP e1]
      by_cases e2 : ia + k = X.size
      ·rw [LO e2]
       refine wpS_pure (.inl ⟨O ++ X.extract ia (ia + k) ++ X.extract (ia + k) X.size ++ Y.extract ib Y.size, ?_, j.done2 (by lia) (by lia), sm⟩)
       simp
      rw [LP e2]
      have la2 : ia + k + 1 < X.size := by lia
      have ls2 : aM <= ia + k + ib := by lia
      clear k2' k2 k3 eO e1 e2
      generalize O ++ X.extract ia (ia + k) = O at j ⊢
      generalize hia : ia + k = ia at j la2 ls2 ky ⊢
      clear la ls k1 hia
      rename_i ia0 _
      clear k0
      have la := la2
      have ls := ls2
      -- y0
      refine wpS_bind (aJ lb ?_)
      have j2 : J le (X.toList ++ Y.toList) X Y (O.push (at' Y ib)) ia (ib + 1) := (j.sy.one lb fun i h1 h2 => ky i h1 h2).sy
      by_cases e3 : ib + 1 = Y.size
      ·rw [LO e3]
       refine wpS_pure (.inl ⟨(O.push (at' Y ib)) ++ X.extract ia X.size ++ Y.extract (ib + 1) Y.size, ?_, j2.done1 (by lia) (by lia), sm⟩)
       simp
      ·rw [LP e3]
       refine wpS_bind (aJ (by lia) ?_)
       refine wpS_bind (cH o hc sm.1 hy (hx ia (by lia)) (by lia) (by lia) (fun i k h1 h2 => sy _ _ (by lia) (by lia)) fun k k1 k2 k3 => ?_)
       dsimp only
       have k2' : ∀ i, ib + 1 <= i -> i < ib + 1 + k -> le (at' Y i) (at' X ia) := fun i h1 h2 => by
        have := k2 (i - (ib + 1)) (by lia)
        rwa [show ib + 1 + (i - (ib + 1)) = i by lia] at this
       have k3' : ∀ i, ib + 1 + k <= i -> i < Y.size -> le (at' X ia) (at' Y i) := fun i h1 h2 => by
        have := k3 (i - (ib + 1)) (by lia) (by lia)
        rwa [show ib + 1 + (i - (ib + 1)) = i by lia] at this
       have j3 : J le (X.toList ++ Y.toList) X Y (O.push (at' Y ib) ++ Y.extract (ib + 1) (ib + 1 + k)) ia (ib + 1 + k) := (j2.sy.blk fun i l h1 h2 h3 h4 h5 => o.tr _ _ _ (k2' i h1 h2) (sx _ _ h4 h5)).sy
       by_cases k0 : k > 0
       ·rw [LO k0]
        by_cases e4 : ib + 1 + k = Y.size
        ·rw [LO e4]
         refine wpS_pure (.inl ⟨(O.push (at' Y ib)) ++ Y.extract (ib + 1) (ib + 1 + k) ++ X.extract ia X.size ++ Y.extract (ib + 1 + k) Y.size, ?_, j3.done1 (by lia) (by lia), sm⟩)
         simp
        ·rw [LP e4]
         refine wpS_bind (aJ (by lia) ?_)
         have j4 := j3.one (by lia) fun i h1 h2 => k3' i h1 h2
         by_cases e5 : ia + 1 + 1 = X.size
         ·rw [LO e5]
          refine wpS_pure (.inl ⟨(O.push (at' Y ib) ++ Y.extract (ib + 1) (ib + 1 + k)).push (at' X ia) ++ Y.extract (ib + 1 + k) Y.size ++ X.extract (ia + 1) X.size, ?_, j4.last (by lia) (by lia) (fun i hi => by have := hl i hi; rwa [show X.size - 1 = ia + 1 by lia] at this), sm⟩)
          simp
         ·rw [LP e5]
          have fin : ∀ m c d, ∃ O' ia' ib' m' c' d', ((none, ((O.map (kas_item it)).push (kas_item it (at' Y ib)) ++ (Y.map (kas_item it)).extract (ib + 1) (ib + 1 + k)).push (kas_item it (at' X ia)), ia + 1, ib + 1 + k, m, c, d) : Option (Array Keyed) × Array Keyed × Nat × Nat × Nat × Nat × Nat) = (none, O'.map (kas_item it), ia', ib', m', c', d') /\ ia' + 1 < X.size /\ ib' < Y.size /\ aM <= ia' + ib' /\ J le (X.toList ++ Y.toList) X Y O' ia' ib' := fun m c d => ⟨_, _, _, m, c, d, by rw [show (((O.map (kas_item it)).push (kas_item it (at' Y ib)) ++ (Y.map (kas_item it)).extract (ib + 1) (ib + 1 + k)).push (kas_item it (at' X ia))) = ((O.push (at' Y ib) ++ Y.extract (ib + 1) (ib + 1 + k)).push (at' X ia)).map (kas_item it) by simp], by lia, by lia, by lia, j4⟩
          refine bT ?_ ?_
          ·exact wpS_pure (.inr ⟨sm, fin _ _ _⟩)
          ·exact wpS_pure ⟨sm, fin _ _ _⟩
       ·rw [LP k0]
        have k00 : k = 0 := by lia
        subst k00
        have j3' : J le (X.toList ++ Y.toList) X Y (O.push (at' Y ib)) ia (ib + 1) := j2
        refine wpS_bind (aJ (by lia) ?_)
        have j4 := j3'.one (by lia) fun i h1 h2 => k3' i (by lia) h2
        by_cases e5 : ia + 1 + 1 = X.size
        ·rw [LO e5]
         refine wpS_pure (.inl ⟨(O.push (at' Y ib)).push (at' X ia) ++ Y.extract (ib + 1) Y.size ++ X.extract (ia + 1) X.size, ?_, j4.last (by lia) (by lia) (fun i hi => by have := hl i hi; rwa [show X.size - 1 = ia + 1 by lia] at this), sm⟩)
         simp
        ·rw [LP e5]
         have fin : ∀ m c d, ∃ O' ia' ib' m' c' d', ((none, ((O.map (kas_item it)).push (kas_item it (at' Y ib))).push (kas_item it (at' X ia)), ia + 1, ib + 1, m, c, d) : Option (Array Keyed) × Array Keyed × Nat × Nat × Nat × Nat × Nat) = (none, O'.map (kas_item it), ia', ib', m', c', d') /\ ia' + 1 < X.size /\ ib' < Y.size /\ aM <= ia' + ib' /\ J le (X.toList ++ Y.toList) X Y O' ia' ib' := fun m c d => ⟨_, _, _, m, c, d, by rw [show ((O.map (kas_item it)).push (kas_item it (at' Y ib))).push (kas_item it (at' X ia)) = ((O.push (at' Y ib)).push (at' X ia)).map (kas_item it) by simp], by lia, by lia, by lia, j4⟩
         refine bT ?_ ?_
         ·exact wpS_pure (.inr ⟨sm, fin _ _ _⟩)
         ·exact wpS_pure ⟨sm, fin _ _ _⟩
     ·rw [LP k0]
      have k00 : k = 0 := by lia
      subst k00
      replace ky : ∀ i, ia <= i -> i < X.size -> le (at' Y ib) (at' X i) := ky
      -- y0
      refine wpS_bind (aJ lb ?_)
      have j2 : J le (X.toList ++ Y.toList) X Y (O.push (at' Y ib)) ia (ib + 1) := (j.sy.one lb fun i h1 h2 => ky i h1 h2).sy
      by_cases e3 : ib + 1 = Y.size
      ·rw [LO e3]
       refine wpS_pure (.inl ⟨(O.push (at' Y ib)) ++ X.extract ia X.size ++ Y.extract (ib + 1) Y.size, ?_, j2.done1 (by lia) (by lia), sm⟩)
       simp
      ·rw [LP e3]
       refine wpS_bind (aJ (by lia) ?_)
       refine wpS_bind (cH o hc sm.1 hy (hx ia (by lia)) (by lia) (by lia) (fun i k h1 h2 => sy _ _ (by lia) (by lia)) fun k k1 k2 k3 => ?_)
       dsimp only
       have k2' : ∀ i, ib + 1 <= i -> i < ib + 1 + k -> le (at' Y i) (at' X ia) := fun i h1 h2 => by
        have := k2 (i - (ib + 1)) (by lia)
        rwa [show ib + 1 + (i - (ib + 1)) = i by lia] at this
       have k3' : ∀ i, ib + 1 + k <= i -> i < Y.size -> le (at' X ia) (at' Y i) := fun i h1 h2 => by
        have := k3 (i - (ib + 1)) (by lia) (by lia)
        rwa [show ib + 1 + (i - (ib + 1)) = i by lia] at this
       have j3 : J le (X.toList ++ Y.toList) X Y (O.push (at' Y ib) ++ Y.extract (ib + 1) (ib + 1 + k)) ia (ib + 1 + k) := (j2.sy.blk fun i l h1 h2 h3 h4 h5 => o.tr _ _ _ (k2' i h1 h2) (sx _ _ h4 h5)).sy
       by_cases k0 : k > 0
       ·rw [LO k0]
        by_cases e4 : ib + 1 + k = Y.size
        ·rw [LO e4]
         refine wpS_pure (.inl ⟨(O.push (at' Y ib)) ++ Y.extract (ib + 1) (ib + 1 + k) ++ X.extract ia X.size ++ Y.extract (ib + 1 + k) Y.size, ?_, j3.done1 (by lia) (by lia), sm⟩)
         simp
        ·rw [LP e4]
         refine wpS_bind (aJ (by lia) ?_)
         have j4 := j3.one (by lia) fun i h1 h2 => k3' i h1 h2
         by_cases e5 : ia + 1 + 1 = X.size
         ·rw [LO e5]
          refine wpS_pure (.inl ⟨(O.push (at' Y ib) ++ Y.extract (ib + 1) (ib + 1 + k)).push (at' X ia) ++ Y.extract (ib + 1 + k) Y.size ++ X.extract (ia + 1) X.size, ?_, j4.last (by lia) (by lia) (fun i hi => by have := hl i hi; rwa [show X.size - 1 = ia + 1 by lia] at this), sm⟩)
          simp
         ·rw [LP e5]
          have fin : ∀ m c d, ∃ O' ia' ib' m' c' d', ((none, ((O.map (kas_item it)).push (kas_item it (at' Y ib)) ++ (Y.map (kas_item it)).extract (ib + 1) (ib + 1 + k)).push (kas_item it (at' X ia)), ia + 1, ib + 1 + k, m, c, d) : Option (Array Keyed) × Array Keyed × Nat × Nat × Nat × Nat × Nat) = (none, O'.map (kas_item it), ia', ib', m', c', d') /\ ia' + 1 < X.size /\ ib' < Y.size /\ aM <= ia' + ib' /\ J le (X.toList ++ Y.toList) X Y O' ia' ib' := fun m c d => ⟨_, _, _, m, c, d, by rw [show (((O.map (kas_item it)).push (kas_item it (at' Y ib)) ++ (Y.map (kas_item it)).extract (ib + 1) (ib + 1 + k)).push (kas_item it (at' X ia))) = ((O.push (at' Y ib) ++ Y.extract (ib + 1) (ib + 1 + k)).push (at' X ia)).map (kas_item it) by simp], by lia, by lia, by lia, j4⟩
          refine bT ?_ ?_
          ·exact wpS_pure (.inr ⟨sm, fin _ _ _⟩)
          ·exact wpS_pure ⟨sm, fin _ _ _⟩
       ·rw [LP k0]
        have k00 : k = 0 := by lia
        subst k00
        have j3' : J le (X.toList ++ Y.toList) X Y (O.push (at' Y ib)) ia (ib + 1) := j2
        refine wpS_bind (aJ (by lia) ?_)
        have j4 := j3'.one (by lia) fun i h1 h2 => k3' i (by lia) h2
        by_cases e5 : ia + 1 + 1 = X.size
        ·rw [LO e5]
         refine wpS_pure (.inl ⟨(O.push (at' Y ib)).push (at' X ia) ++ Y.extract (ib + 1) Y.size ++ X.extract (ia + 1) X.size, ?_, j4.last (by lia) (by lia) (fun i hi => by have := hl i hi; rwa [show X.size - 1 = ia + 1 by lia] at this), sm⟩)
         simp
        ·rw [LP e5]
         have fin : ∀ m c d, ∃ O' ia' ib' m' c' d', ((none, ((O.map (kas_item it)).push (kas_item it (at' Y ib))).push (kas_item it (at' X ia)), ia + 1, ib + 1, m, c, d) : Option (Array Keyed) × Array Keyed × Nat × Nat × Nat × Nat × Nat) = (none, O'.map (kas_item it), ia', ib', m', c', d') /\ ia' + 1 < X.size /\ ib' < Y.size /\ aM <= ia' + ib' /\ J le (X.toList ++ Y.toList) X Y O' ia' ib' := fun m c d => ⟨_, _, _, m, c, d, by rw [show ((O.map (kas_item it)).push (kas_item it (at' Y ib))).push (kas_item it (at' X ia)) = ((O.push (at' Y ib)).push (at' X ia)).map (kas_item it) by simp], by lia, by lia, by lia, j4⟩
         refine bT ?_ ?_
         ·exact wpS_pure (.inr ⟨sm, fin _ _ _⟩)
         ·exact wpS_pure ⟨sm, fin _ _ _⟩
    ·rw [LP hm]
     refine wpS_bind (wpS_modify ?_)
     replace sm := sm.g (m)
     refine wpS_bind (aJ lb ?_)
     refine wpS_bind (cH o hc sm.1 hx (hy ib lb) (by lia) (by lia) (fun i k h1 h2 => sx _ _ (by lia) (by lia)) fun k k1 k2 k3 => ?_)
     dsimp only
     have k2' : ∀ i, ia <= i -> i < ia + k -> le (at' X i) (at' Y ib) := fun i h1 h2 => by
      have := k2 (i - ia) (by lia)
      rwa [show ia + (i - ia) = i by lia] at this
     have ky : ∀ i, ia + k <= i -> i < X.size -> le (at' Y ib) (at' X i) := fun i h1 h2 => by
      have := k3 (i - ia) (by lia) (by lia)
      rwa [show ia + (i - ia) = i by lia] at this
     by_cases k0 : k > 0
     ·rw [LO k0]
      replace j := j.blk (m := k) fun i l h1 h2 h3 h4 h5 => o.tr _ _ _ (k2' i h1 h2) (sy _ _ h4 h5)
      have eO : O.map (kas_item it) ++ (X.map (kas_item it)).extract ia (ia + k) = (O ++ X.extract ia (ia + k)).map (kas_item it) := by simp
      rw [eO]
      by_cases e1 : ia + k + 1 = X.size
      ·rw [LO e1]
       refine wpS_pure (.inl ⟨O ++ X.extract ia (ia + k) ++ Y.extract ib Y.size ++ X.extract (ia + k) X.size, ?_, j.last (by lia) (by lia) (fun i hi => by have := hl i hi; rwa [show X.size - 1 = ia + k by lia] at this), sm⟩)
       simp
      rw [LP e1]
      by_cases e2 : ia + k = X.size
      ·rw [LO e2]
       refine wpS_pure (.inl ⟨O ++ X.extract ia (ia + k) ++ X.extract (ia + k) X.size ++ Y.extract ib Y.size, ?_, j.done2 (by lia) (by lia), sm⟩)
       simp
      rw [LP e2]
      have la2 : ia + k + 1 < X.size := by lia
      have ls2 : aM <= ia + k + ib := by lia
      clear k2' k2 k3 eO e1 e2
      generalize O ++ X.extract ia (ia + k) = O at j ⊢
      generalize hia : ia + k = ia at j la2 ls2 ky ⊢
      clear la ls k1 hia
      rename_i ia0 _
      clear k0
      have la := la2
      have ls := ls2
      -- y0
      refine wpS_bind (aJ lb ?_)
      have j2 : J le (X.toList ++ Y.toList) X Y (O.push (at' Y ib)) ia (ib + 1) := (j.sy.one lb fun i h1 h2 => ky i h1 h2).sy
      by_cases e3 : ib + 1 = Y.size
      ·rw [LO e3]
       refine wpS_pure (.inl ⟨(O.push (at' Y ib)) ++ X.extract ia X.size ++ Y.extract (ib + 1) Y.size, ?_, j2.done1 (by lia) (by lia), sm⟩)
       simp
      ·rw [LP e3]
       refine wpS_bind (aJ (by lia) ?_)
       refine wpS_bind (cH o hc sm.1 hy (hx ia (by lia)) (by lia) (by lia) (fun i k h1 h2 => sy _ _ (by lia) (by lia)) fun k k1 k2 k3 => ?_)
       dsimp only
       have k2' : ∀ i, ib + 1 <= i -> i < ib + 1 + k -> le (at' Y i) (at' X ia) := fun i h1 h2 => by
        have := k2 (i - (ib + 1)) (by lia)
        rwa [show ib + 1 + (i - (ib + 1)) = i by lia] at this
       have k3' : ∀ i, ib + 1 + k <= i -> i < Y.size -> le (at' X ia) (at' Y i) := fun i h1 h2 => by
        have := k3 (i - (ib + 1)) (by lia) (by lia)
        rwa [show ib + 1 + (i - (ib + 1)) = i by lia] at this
       have j3 : J le (X.toList ++ Y.toList) X Y (O.push (at' Y ib) ++ Y.extract (ib + 1) (ib + 1 + k)) ia (ib + 1 + k) := (j2.sy.blk fun i l h1 h2 h3 h4 h5 => o.tr _ _ _ (k2' i h1 h2) (sx _ _ h4 h5)).sy
       by_cases k0 : k > 0
       ·rw [LO k0]
        by_cases e4 : ib + 1 + k = Y.size
        ·rw [LO e4]
         refine wpS_pure (.inl ⟨(O.push (at' Y ib)) ++ Y.extract (ib + 1) (ib + 1 + k) ++ X.extract ia X.size ++ Y.extract (ib + 1 + k) Y.size, ?_, j3.done1 (by lia) (by lia), sm⟩)
         simp
        ·rw [LP e4]
         refine wpS_bind (aJ (by lia) ?_)
         have j4 := j3.one (by lia) fun i h1 h2 => k3' i h1 h2
         by_cases e5 : ia + 1 + 1 = X.size
         ·rw [LO e5]
          refine wpS_pure (.inl ⟨(O.push (at' Y ib) ++ Y.extract (ib + 1) (ib + 1 + k)).push (at' X ia) ++ Y.extract (ib + 1 + k) Y.size ++ X.extract (ia + 1) X.size, ?_, j4.last (by lia) (by lia) (fun i hi => by have := hl i hi; rwa [show X.size - 1 = ia + 1 by lia] at this), sm⟩)
          simp
         ·rw [LP e5]
          have fin : ∀ m c d, ∃ O' ia' ib' m' c' d', ((none, ((O.map (kas_item it)).push (kas_item it (at' Y ib)) ++ (Y.map (kas_item it)).extract (ib + 1) (ib + 1 + k)).push (kas_item it (at' X ia)), ia + 1, ib + 1 + k, m, c, d) : Option (Array Keyed) × Array Keyed × Nat × Nat × Nat × Nat × Nat) = (none, O'.map (kas_item it), ia', ib', m', c', d') /\ ia' + 1 < X.size /\ ib' < Y.size /\ aM <= ia' + ib' /\ J le (X.toList ++ Y.toList) X Y O' ia' ib' := fun m c d => ⟨_, _, _, m, c, d, by rw [show (((O.map (kas_item it)).push (kas_item it (at' Y ib)) ++ (Y.map (kas_item it)).extract (ib + 1) (ib + 1 + k)).push (kas_item it (at' X ia))) = ((O.push (at' Y ib) ++ Y.extract (ib + 1) (ib + 1 + k)).push (at' X ia)).map (kas_item it) by simp], by lia, by lia, by lia, j4⟩
          refine bT ?_ ?_
          ·exact wpS_pure (.inr ⟨sm, fin _ _ _⟩)
          ·exact wpS_pure ⟨sm, fin _ _ _⟩
       ·rw [LP k0]
        have k00 : k = 0 := by lia
        subst k00
        have j3' : J le (X.toList ++ Y.toList) X Y (O.push (at' Y ib)) ia (ib + 1) := j2
        refine wpS_bind (aJ (by lia) ?_)
        have j4 := j3'.one (by lia) fun i h1 h2 => k3' i (by lia) h2
        by_cases e5 : ia + 1 + 1 = X.size
        ·rw [LO e5]
         refine wpS_pure (.inl ⟨(O.push (at' Y ib)).push (at' X ia) ++ Y.extract (ib + 1) Y.size ++ X.extract (ia + 1) X.size, ?_, j4.last (by lia) (by lia) (fun i hi => by have := hl i hi; rwa [show X.size - 1 = ia + 1 by lia] at this), sm⟩)
         simp
        ·rw [LP e5]
         have fin : ∀ m c d, ∃ O' ia' ib' m' c' d', ((none, ((O.map (kas_item it)).push (kas_item it (at' Y ib))).push (kas_item it (at' X ia)), ia + 1, ib + 1, m, c, d) : Option (Array Keyed) × Array Keyed × Nat × Nat × Nat × Nat × Nat) = (none, O'.map (kas_item it), ia', ib', m', c', d') /\ ia' + 1 < X.size /\ ib' < Y.size /\ aM <= ia' + ib' /\ J le (X.toList ++ Y.toList) X Y O' ia' ib' := fun m c d => ⟨_, _, _, m, c, d, by rw [show ((O.map (kas_item it)).push (kas_item it (at' Y ib))).push (kas_item it (at' X ia)) = ((O.push (at' Y ib)).push (at' X ia)).map (kas_item it) by simp], by lia, by lia, by lia, j4⟩
         refine bT ?_ ?_
         ·exact wpS_pure (.inr ⟨sm, fin _ _ _⟩)
         ·exact wpS_pure ⟨sm, fin _ _ _⟩
     ·rw [LP k0]
      have k00 : k = 0 := by lia
      subst k00
      replace ky : ∀ i, ia <= i -> i < X.size -> le (at' Y ib) (at' X i) := ky
      -- y0
      refine wpS_bind (aJ lb ?_)
      have j2 : J le (X.toList ++ Y.toList) X Y (O.push (at' Y ib)) ia (ib + 1) := (j.sy.one lb fun i h1 h2 => ky i h1 h2).sy
      by_cases e3 : ib + 1 = Y.size
      ·rw [LO e3]
       refine wpS_pure (.inl ⟨(O.push (at' Y ib)) ++ X.extract ia X.size ++ Y.extract (ib + 1) Y.size, ?_, j2.done1 (by lia) (by lia), sm⟩)
       simp
      ·rw [LP e3]
       refine wpS_bind (aJ (by lia) ?_)
       refine wpS_bind (cH o hc sm.1 hy (hx ia (by lia)) (by lia) (by lia) (fun i k h1 h2 => sy _ _ (by lia) (by lia)) fun k k1 k2 k3 => ?_)
       dsimp only
       have k2' : ∀ i, ib + 1 <= i -> i < ib + 1 + k -> le (at' Y i) (at' X ia) := fun i h1 h2 => by
        have := k2 (i - (ib + 1)) (by lia)
        rwa [show ib + 1 + (i - (ib + 1)) = i by lia] at this
       have k3' : ∀ i, ib + 1 + k <= i -> i < Y.size -> le (at' X ia) (at' Y i) := fun i h1 h2 => by
        have := k3 (i - (ib + 1)) (by lia) (by lia)
        rwa [show ib + 1 + (i - (ib + 1)) = i by lia] at this
       have j3 : J le (X.toList ++ Y.toList) X Y (O.push (at' Y ib) ++ Y.extract (ib + 1) (ib + 1 + k)) ia (ib + 1 + k) := (j2.sy.blk fun i l h1 h2 h3 h4 h5 => o.tr _ _ _ (k2' i h1 h2) (sx _ _ h4 h5)).sy
       by_cases k0 : k > 0
       ·rw [LO k0]
        by_cases e4 : ib + 1 + k = Y.size
        ·rw [LO e4]
         refine wpS_pure (.inl ⟨(O.push (at' Y ib)) ++ Y.extract (ib + 1) (ib + 1 + k) ++ X.extract ia X.size ++ Y.extract (ib + 1 + k) Y.size, ?_, j3.done1 (by lia) (by lia), sm⟩)
         simp
        ·rw [LP e4]
         refine wpS_bind (aJ (by lia) ?_)
         have j4 := j3.one (by lia) fun i h1 h2 => k3' i h1 h2
         by_cases e5 : ia + 1 + 1 = X.size
         ·rw [LO e5]
          refine wpS_pure (.inl ⟨(O.push (at' Y ib) ++ Y.extract (ib + 1) (ib + 1 + k)).push (at' X ia) ++ Y.extract (ib + 1 + k) Y.size ++ X.extract (ia + 1) X.size, ?_, j4.last (by lia) (by lia) (fun i hi => by have := hl i hi; rwa [show X.size - 1 = ia + 1 by lia] at this), sm⟩)
          simp
         ·rw [LP e5]
          have fin : ∀ m c d, ∃ O' ia' ib' m' c' d', ((none, ((O.map (kas_item it)).push (kas_item it (at' Y ib)) ++ (Y.map (kas_item it)).extract (ib + 1) (ib + 1 + k)).push (kas_item it (at' X ia)), ia + 1, ib + 1 + k, m, c, d) : Option (Array Keyed) × Array Keyed × Nat × Nat × Nat × Nat × Nat) = (none, O'.map (kas_item it), ia', ib', m', c', d') /\ ia' + 1 < X.size /\ ib' < Y.size /\ aM <= ia' + ib' /\ J le (X.toList ++ Y.toList) X Y O' ia' ib' := fun m c d => ⟨_, _, _, m, c, d, by rw [show (((O.map (kas_item it)).push (kas_item it (at' Y ib)) ++ (Y.map (kas_item it)).extract (ib + 1) (ib + 1 + k)).push (kas_item it (at' X ia))) = ((O.push (at' Y ib) ++ Y.extract (ib + 1) (ib + 1 + k)).push (at' X ia)).map (kas_item it) by simp], by lia, by lia, by lia, j4⟩
          refine bT ?_ ?_
          ·exact wpS_pure (.inr ⟨sm, fin _ _ _⟩)
          ·exact wpS_pure ⟨sm, fin _ _ _⟩
       ·rw [LP k0]
        have k00 : k = 0 := by lia
        subst k00
        have j3' : J le (X.toList ++ Y.toList) X Y (O.push (at' Y ib)) ia (ib + 1) := j2
        refine wpS_bind (aJ (by lia) ?_)
        have j4 := j3'.one (by lia) fun i h1 h2 => k3' i (by lia) h2
        by_cases e5 : ia + 1 + 1 = X.size
        ·rw [LO e5]
         refine wpS_pure (.inl ⟨(O.push (at' Y ib)).push (at' X ia) ++ Y.extract (ib + 1) Y.size ++ X.extract (ia + 1) X.size, ?_, j4.last (by lia) (by lia) (fun i hi => by have := hl i hi; rwa [show X.size - 1 = ia + 1 by lia] at this), sm⟩)
         simp
        ·rw [LP e5]
         have fin : ∀ m c d, ∃ O' ia' ib' m' c' d', ((none, ((O.map (kas_item it)).push (kas_item it (at' Y ib))).push (kas_item it (at' X ia)), ia + 1, ib + 1, m, c, d) : Option (Array Keyed) × Array Keyed × Nat × Nat × Nat × Nat × Nat) = (none, O'.map (kas_item it), ia', ib', m', c', d') /\ ia' + 1 < X.size /\ ib' < Y.size /\ aM <= ia' + ib' /\ J le (X.toList ++ Y.toList) X Y O' ia' ib' := fun m c d => ⟨_, _, _, m, c, d, by rw [show ((O.map (kas_item it)).push (kas_item it (at' Y ib))).push (kas_item it (at' X ia)) = ((O.push (at' Y ib)).push (at' X ia)).map (kas_item it) by simp], by lia, by lia, by lia, j4⟩
         refine bT ?_ ?_
         ·exact wpS_pure (.inr ⟨sm, fin _ _ _⟩)
         ·exact wpS_pure ⟨sm, fin _ _ _⟩
end
section
variable {X Y O : Array Nat} {le : Nat -> Nat -> Prop} {tot : List Nat} {na nb : Nat}
theorem A3 {i : Nat} (h : i < X.size) : X.toList.take (i + 1) = X.toList.take i ++ [at' X i] := by
 rw [List.take_succ_eq_append_getElem (by simpa using h), kb h]
theorem kS {i j : Nat} (h : i <= j) : X.toList.take j = X.toList.take i ++ (X.extract i j).toList := by
 rw [Array.toList_extract, List.extract_eq_take_drop]
 have e : j = i + (j - i) := by lia
 conv => lhs; rw [e, List.take_add]
theorem tT {i x : Nat} (h : x ∈ X.toList.take i) : ∃ j, j < i /\ j < X.size /\ at' X j = x := by
 obtain ⟨k, hk⟩ := ME h
 rw [List.getElem?_take] at hk
 split at hk
 ·obtain ⟨h1, h2⟩ := LW.mp hk
  have h1' : k < X.size := by simpa using h1
  exact ⟨k, by lia, h1', by rw [<- kb h1']; exact h2⟩
 ·cases hk
abbrev JH (le : Nat -> Nat -> Prop) (tot : List Nat) (X Y O : Array Nat) (na nb : Nat) : Prop := Inv (fun a b => le b a) tot O.toList (X.toList.take na).reverse (Y.toList.take nb).reverse
theorem JH.sy (j : JH le tot X Y O na nb) : JH le tot Y X O nb na := Inv.symm j
theorem JH.one (j : JH le tot X Y O na nb) (h : 1 <= na) (h2 : na <= X.size) (k : ∀ i, i < nb -> le (at' Y i) (at' X (na - 1))) : JH le tot X Y (O.push (at' X (na - 1))) (na - 1) nb := by
 unfold JH at j ⊢
 obtain ⟨m, rfl⟩ : ∃ m, na = m + 1 := ⟨na - 1, by lia⟩
 rw [A3 (by lia), List.reverse_append] at j
 rw [Nat.add_sub_cancel] at k ⊢
 have := Inv.block (xs := [at' X m]) j (fun x hx y hy => by
  rw [L4] at hx
  subst hx
  obtain ⟨i, h1, h2, rfl⟩ := tT (List.mem_reverse.mp hy)
  exact k i h1)
 rwa [Array.toList_push]
theorem JH.blk {m : Nat} (j : JH le tot X Y O na nb) (h : m <= na) (h2 : na <= X.size) (k : ∀ i l, m <= i -> i < na -> l < nb -> le (at' Y l) (at' X i)) : JH le tot X Y (O ++ (X.extract m na).reverse) m nb := by
 unfold JH at j ⊢
 rw [kS h, List.reverse_append] at j
 have := Inv.block j (fun x hx y hy => by
  obtain ⟨i, h1, h2, h3, rfl⟩ := rF (List.mem_reverse.mp hx)
  obtain ⟨l, h4, h5, rfl⟩ := tT (List.mem_reverse.mp hy)
  exact k i l h1 h2 h4)
 rwa [Array.toList_append, Array.toList_reverse]
theorem yf {l r : List Nat} (h : l.Pairwise (fun a b => le b a) /\ l.Perm tot) (e : l = r.reverse) : r.Pairwise le /\ r.Perm tot := by
 subst e
 exact ⟨List.pairwise_reverse.mp h.1, (List.reverse_perm _).symm.trans h.2⟩
theorem HE (m : Nat) : (X.extract 0 m).toList = X.toList.take m := by rw [Array.toList_extract, List.extract_eq_take_drop]; simp
theorem JH.done1 (j : JH le tot X Y O na nb) (h : nb = 0) (h2 : na <= X.size) : kj le tot (X.extract 0 na ++ Y.extract 0 nb ++ O.reverse) := by
 subst h
 refine yf (l := O.toList ++ (X.toList.take na).reverse) (Inv.doneA (by unfold JH at j; simpa using j)) ?_
 simp [HE]
theorem JH.done2 (j : JH le tot X Y O na nb) (h : na = 0) (h2 : nb <= Y.size) : kj le tot (X.extract 0 na ++ Y.extract 0 nb ++ O.reverse) := by
 have := j.sy.done1 h h2
 subst h
 simpa using this
theorem JH.first (j : JH le tot X Y O na nb) (h : nb = 1) (y1 : 1 <= Y.size) (h2 : na <= X.size) (k : ∀ i, i < X.size -> le (at' Y 0) (at' X i)) : kj le tot (Y.extract 0 nb ++ X.extract 0 na ++ O.reverse) := by
 subst h
 have e : Y.toList.take 1 = [at' Y 0] := by rw [A3 (i := 0) (by lia)]; simp
 have j2 : Inv (fun a b => le b a) tot O.toList [at' Y 0] (X.toList.take na).reverse := by have := j.sy; unfold JH at this; rw [e] at this; exact this
 refine yf (j2.lastA fun y hy => ?_) ?_
 ·obtain ⟨i, h1, h2, rfl⟩ := tT (List.mem_reverse.mp hy)
  exact k i h2
 ·rw [Array.toList_append, Array.toList_append, HE, HE, e]
  simp
end
section
variable {prog : Program} {w : World} {A : Around} {E : Value -> Shared -> Prop} {s : Shared} {κ : SortKind} {it : Array Keyed} {n : Nat} {lt : Nat -> Nat -> Bool} {le : Nat -> Nat -> Prop}
theorem CF (o : Ord lt le) (hc : uD prog w A s κ it n lt) {X Y : Array Nat} {Q : Array Keyed -> SortSt -> Prop} {st : SortSt} (hk : kindOf st = κ) (hx : ∀ i, i < X.size -> at' X i < n) (hy : ∀ i, i < Y.size -> at' Y i < n)
  (x1 : 1 <= X.size) (y1 : 1 <= Y.size) (sx : ∀ i j, i <= j -> j < X.size -> le (at' X i) (at' X j)) (sy : ∀ i j, i <= j -> j < Y.size -> le (at' Y i) (at' Y j)) (hf : ∀ i, i < X.size -> le (at' Y 0) (at' X i)) (hl : ∀ i, i < Y.size -> le (at' Y i) (at' X (X.size - 1)))
  (h : ∀ R st', Same κ st st' -> kj le (X.toList ++ Y.toList) R -> Q (R.map (kas_item it)) st') :
  wpS (model prog w) A E s (C6 (X.map (kas_item it)) (Y.map (kas_item it))) Q st := by
 have sm0 : Same κ st st := ⟨hk, rfl, rfl, rfl⟩
 have j0 : JH le (X.toList ++ Y.toList) X Y #[] X.size Y.size := by
  have ex : X.toList.take X.size = X.toList := List.take_of_length_le (by simp)
  have ey : Y.toList.take Y.size = Y.toList := List.take_of_length_le (by simp)
  unfold JH
  rw [ex, ey]
  exact ⟨by simpa using List.pairwise_reverse.mpr (AR sx), by simpa using List.pairwise_reverse.mpr (AR sy), by simpa using (List.reverse_perm X.toList).append (List.reverse_perm Y.toList)⟩
 have j1 : JH le (X.toList ++ Y.toList) X Y #[at' X (X.size - 1)] (X.size - 1) Y.size := j0.one x1 (LU _) fun i h2 => hl i h2
 refine wpS_bind (wpS_lift (wpAny_rule ⟨rfl, ?_⟩))
 dsimp only
 simp only [Array.size_map, beq_iff_eq]
 refine wpS_bind (aJ (X := X) (by lia) ?_)
 by_cases e1 : X.size - 1 = 0
 ·rw [LO e1]
  refine wpS_pure ?_
  have := h _ st sm0 (j1.done2 e1 (by lia))
  simpa [exm] using this
 rw [LP e1]
 by_cases e2 : Y.size = 1
 ·rw [LO e2]
  refine wpS_pure ?_
  have := h _ st sm0 (j1.first e2 (by lia) (by lia) hf)
  simpa [exm] using this
 rw [LP e2]
 refine wpS_bind (wpS_get ?_)
 refine wpS_bind (wpS_mono (wpS_forRange (I := fun x c st2 => Same κ st st2 /\ ∃ O na nb g, c = (none, na, nb, O.map (kas_item it), g) /\ 1 <= na /\ 1 < nb /\ na < X.size /\ nb <= Y.size /\ na + nb + (x + 1) <= X.size + Y.size /\ JH le (X.toList ++ Y.toList) X Y O na nb)
  (Q := fun c st2 => ∃ R, c.1 = some (R.map (kas_item it)) /\ kj le (X.toList ++ Y.toList) R /\ Same κ st st2) ?s1 ?f1 ?i1) ?p1)
 case i1 => exact ⟨sm0, #[at' X (X.size - 1)], X.size - 1, Y.size, _, by simp; rfl, by lia, by lia, by lia, by lia, by lia, j1⟩
 case f1 =>
  rintro c st2 ⟨sm, O, na, nb, g, rfl, la, lb, lx, ly, ls, j⟩
  lia
 case p1 =>
  rintro ⟨c, c'⟩ st2 ⟨R, hc1, hR, sm⟩
  dsimp only at hc1
  subst hc1
  exact wpS_pure (h R st2 sm hR)
 case s1 =>
  rintro x c st2 _ hx0 ⟨sm, O, na, nb, g, rfl, la, lb, lx, ly, ls, j⟩
  dsimp only
  refine wpS_bind (wpS_mono (wpS_forRange (I := fun y c st2 => Same κ st st2 /\ ∃ O na nb a b, c = (none, na, nb, O.map (kas_item it), a, b) /\ 1 <= na /\ 1 < nb /\ na < X.size /\ nb <= Y.size /\ na + nb + (x + 1 + y) <= X.size + Y.size /\ JH le (X.toList ++ Y.toList) X Y O na nb)
   (Q := fun c st2 => (∃ R, c.1 = some (R.map (kas_item it)) /\ kj le (X.toList ++ Y.toList) R /\ Same κ st st2) \/ (Same κ st st2 /\ ∃ O na nb a b, c = (none, na, nb, O.map (kas_item it), a, b) /\ 1 <= na /\ 1 < nb /\ na < X.size /\ nb <= Y.size /\ na + nb + (x + 1 + 1) <= X.size + Y.size /\ JH le (X.toList ++ Y.toList) X Y O na nb)) ?s2 ?f2 ?i2) ?p2)
  case i2 => exact ⟨sm, O, na, nb, 0, 0, rfl, la, lb, lx, ly, ls, j⟩
  case f2 =>
   rintro c st2 ⟨sm, O, na, nb, a, b, rfl, la, lb, lx, ly, ls, j⟩
   lia
  case s2 =>
   clear la lb lx ly ls j sm
   rintro y c st2 _ hy0 ⟨sm, O, na, nb, a, b, rfl, la, lb, lx, ly, ls, j⟩
   dsimp only
   refine wpS_bind (aJ (by lia) ?_)
   refine wpS_bind (aJ (by lia) ?_)
   refine wpS_bind (w_lt hc sm.1 (hy (nb - 1) (by lia)) (hx (na - 1) (by lia)) ?_)
   dsimp only
   cases cw : lt (at' Y (nb - 1)) (at' X (na - 1)) with
   | true =>
    rw [LO rfl]
    have l0 := o.yes _ _ cw
    have j2 := j.one la (by lia) fun i h1 => o.tr _ _ _ (sy i (nb - 1) (by lia) (by lia)) l0
    refine wpS_bind (aJ (by lia) ?_)
    by_cases e3 : na - 1 = 0
    ·rw [LO e3]
     refine wpS_pure (.inl ⟨X.extract 0 (na - 1) ++ Y.extract 0 nb ++ (O.push (at' X (na - 1))).reverse, ?_, j2.done2 e3 (by lia), sm⟩)
     simp [Mc]
    ·rw [LP e3]
     refine bT ?_ ?_
     ·exact wpS_pure (.inr ⟨sm, O.push (at' X (na - 1)), na - 1, nb, _, _, by rw [Array.map_push], by lia, by lia, by lia, by lia, by lia, j2⟩)
     ·exact wpS_pure ⟨sm, O.push (at' X (na - 1)), na - 1, nb, _, _, by rw [Array.map_push], by lia, by lia, by lia, by lia, by lia, j2⟩
   | false =>
    rw [LP (by decide)]
    have l0 := o.no _ _ cw
    have j2 : JH le (X.toList ++ Y.toList) X Y (O.push (at' Y (nb - 1))) na (nb - 1) := (j.sy.one (by lia) (by lia) fun i h1 => o.tr _ _ _ (sx i (na - 1) (by lia) (by lia)) l0).sy
    refine wpS_bind (aJ (by lia) ?_)
    by_cases e3 : nb - 1 = 1
    ·rw [LO e3]
     refine wpS_pure (.inl ⟨Y.extract 0 (nb - 1) ++ X.extract 0 na ++ (O.push (at' Y (nb - 1))).reverse, ?_, j2.first e3 (by lia) (by lia) hf, sm⟩)
     simp [Mc]
    ·rw [LP e3]
     refine bT ?_ ?_
     ·exact wpS_pure (.inr ⟨sm, O.push (at' Y (nb - 1)), na, nb - 1, _, _, by rw [Array.map_push], by lia, by lia, by lia, by lia, by lia, j2⟩)
     ·exact wpS_pure ⟨sm, O.push (at' Y (nb - 1)), na, nb - 1, _, _, by rw [Array.map_push], by lia, by lia, by lia, by lia, by lia, j2⟩
  case p2 =>
   clear la lb lx ly ls j sm
   rintro ⟨c, c'⟩ st2 (⟨R, hc1, hR, sm⟩ | ⟨sm, O, na, nb, a, b, hcc, la, lb, lx, ly, ls, j⟩)
   ·dsimp only at hc1
    subst hc1
    exact wpS_pure ⟨R, rfl, hR, sm⟩
   cases hcc
   dsimp only
   refine wpS_bind (wpS_lift (wpAny_rule ⟨rfl, ?_⟩))
   have hst : ∃ aM, aM = x + 1 + 1 := ⟨_, rfl⟩
   obtain ⟨aM, hst⟩ := hst
   rw [<- hst] at ls
   refine wpS_bind (wpS_mono (wpS_forRange (I := fun y c st2 => Same κ st st2 /\ ∃ O na nb m a b, c = (none, na, nb, O.map (kas_item it), m, a, b) /\ 1 <= na /\ 1 < nb /\ na < X.size /\ nb <= Y.size /\ na + nb + aM <= X.size + Y.size /\ JH le (X.toList ++ Y.toList) X Y O na nb)
    (Q := fun c st2 => (∃ R, c.1 = some (R.map (kas_item it)) /\ kj le (X.toList ++ Y.toList) R /\ Same κ st st2) \/ (Same κ st st2 /\ ∃ O na nb m a b, c = (none, na, nb, O.map (kas_item it), m, a, b) /\ 1 <= na /\ 1 < nb /\ na < X.size /\ nb <= Y.size /\ na + nb + aM <= X.size + Y.size /\ JH le (X.toList ++ Y.toList) X Y O na nb)) ?s3 ?f3 ?i3) ?p3)
   case i3 => exact ⟨sm, O, na, nb, _, _, _, rfl, la, lb, lx, ly, ls, j⟩
   case f3 => exact fun c st2 h => .inr h
   case p3 =>
    clear la lb lx ly ls j sm
    rintro ⟨c, c'⟩ st2 (⟨R, hc1, hR, sm⟩ | ⟨sm, O, na, nb, m, a, b, hcc, la, lb, lx, ly, ls, j⟩)
    ·dsimp only at hc1
     subst hc1
     exact wpS_pure ⟨R, rfl, hR, sm⟩
    cases hcc
    dsimp only
    refine wpS_bind (wpS_modify (wpS_pure ?_))
    exact ⟨sm.g _, O, na, nb, _, rfl, la, lb, lx, ly, by lia, j⟩
   case s3 =>
    clear la lb lx ly ls j sm
    rintro y c st2 _ hy0 ⟨sm, O, na, nb, m, a, b, rfl, la, lb, lx, ly, ls, j⟩
    dsimp only
    by_cases hm : m > 1
    ·rw [LO hm]
     refine wpS_bind (wpS_modify ?_)
     replace sm := sm.g (m - 1)
     refine wpS_bind (aJ (by lia) ?_)
     refine wpS_bind (cH o hc sm.1 hx (hy (nb - 1) (by lia)) (by lia) (by lia) (fun i k h1 h2 => sx _ _ (by lia) (by lia)) fun k k1 k2 k3 => ?_)
     dsimp only
     simp only [Nat.zero_add] at k2 k3
     by_cases k0 : na - k > 0
     ·rw [LO k0]
      replace j := j.blk (m := k) (by lia) (by lia) fun i l h1 h2 h3 => o.tr _ _ _ (sy l (nb - 1) (by lia) (by lia)) (k3 i h1 h2)
      have eO : O.map (kas_item it) ++ ((X.map (kas_item it)).extract k na).reverse = (O ++ (X.extract k na).reverse).map (kas_item it) := by simp [Mc]
      rw [eO]
      by_cases e1 : k = 0
      ·rw [LO e1]
       refine wpS_pure (.inl ⟨X.extract 0 k ++ Y.extract 0 nb ++ (O ++ (X.extract k na).reverse).reverse, ?_, j.done2 e1 (by lia), sm⟩)
       simp [Mc]
      rw [LP e1]
      have la2 : 1 <= k := by lia
      have lx2 : k < X.size := by lia
      have ls2 : k + nb + aM <= X.size + Y.size := by lia
      have ky : ∀ i, i < k -> le (at' X i) (at' Y (nb - 1)) := k2
      clear k2 k3 eO e1
      generalize O ++ (X.extract k na).reverse = O at j ⊢
      generalize na - k = kk at k0 ⊢
      clear k0 k1 la lx ls
      have la := la2
      have lx := lx2
      have ls := ls2
      clear la2 lx2 ls2
      obtain ⟨na, hna⟩ : ∃ na, na = k := ⟨k, rfl⟩
      subst hna
      refine wpS_bind (aJ (by lia) ?_)
      have j2 : JH le (X.toList ++ Y.toList) X Y (O.push (at' Y (nb - 1))) na (nb - 1) := (j.sy.one (by lia) (by lia) fun i h1 => ky i h1).sy
      by_cases e3 : nb - 1 = 1
      ·rw [LO e3]
       refine wpS_pure (.inl ⟨Y.extract 0 (nb - 1) ++ X.extract 0 na ++ (O.push (at' Y (nb - 1))).reverse, ?_, j2.first e3 (by lia) (by lia) hf, sm⟩)
       simp [Mc]
      ·rw [LP e3]
       refine wpS_bind (aJ (by lia) ?_)
       refine wpS_bind (cH o hc sm.1 hy (hx (na - 1) (by lia)) (by lia) (by lia) (fun i k h1 h2 => sy _ _ (by lia) (by lia)) fun k k1 k2 k3 => ?_)
       dsimp only
       simp only [Nat.zero_add] at k2 k3
       have j3 : JH le (X.toList ++ Y.toList) X Y (O.push (at' Y (nb - 1)) ++ (Y.extract k (nb - 1)).reverse) na k := (j2.sy.blk (by lia) (by lia) fun i l h1 h2 h3 => o.tr _ _ _ (sx l (na - 1) (by lia) (by lia)) (k3 i h1 h2)).sy
       by_cases k0 : nb - 1 - k > 0
       ·rw [LO k0]
        by_cases e4 : k = 1
        ·rw [LO e4]
         refine wpS_pure (.inl ⟨Y.extract 0 k ++ X.extract 0 na ++ (O.push (at' Y (nb - 1)) ++ (Y.extract k (nb - 1)).reverse).reverse, ?_, j3.first e4 (by lia) (by lia) hf, sm⟩)
         simp [Mc]
        rw [LP e4]
        by_cases e5 : k = 0
        ·rw [LO e5]
         refine wpS_pure (.inl ⟨X.extract 0 na ++ Y.extract 0 k ++ (O.push (at' Y (nb - 1)) ++ (Y.extract k (nb - 1)).reverse).reverse, ?_, j3.done1 e5 (by lia), sm⟩)
         simp [Mc]
        rw [LP e5]
        refine wpS_bind (aJ (by lia) ?_)
        have j4 := j3.one (by lia) (by lia) fun i h1 => k2 i h1
        have eO : ((O.map (kas_item it)).push (kas_item it (at' Y (nb - 1))) ++ ((Y.map (kas_item it)).extract k (nb - 1)).reverse).push (kas_item it (at' X (na - 1))) = ((O.push (at' Y (nb - 1)) ++ (Y.extract k (nb - 1)).reverse).push (at' X (na - 1))).map (kas_item it) := by simp [Mc]
        by_cases e6 : na - 1 = 0
        ·rw [LO e6]
         refine wpS_pure (.inl ⟨X.extract 0 (na - 1) ++ Y.extract 0 k ++ ((O.push (at' Y (nb - 1)) ++ (Y.extract k (nb - 1)).reverse).push (at' X (na - 1))).reverse, ?_, j4.done2 e6 (by lia), sm⟩)
         simp [Mc]
        ·rw [LP e6]
         have fin : ∀ m c d, ∃ O' na' nb' m' c' d', ((none, na - 1, k, ((O.map (kas_item it)).push (kas_item it (at' Y (nb - 1))) ++ ((Y.map (kas_item it)).extract k (nb - 1)).reverse).push (kas_item it (at' X (na - 1))), m, c, d) : Option (Array Keyed) × Nat × Nat × Array Keyed × Nat × Nat × Nat) = (none, na', nb', O'.map (kas_item it), m', c', d') /\ 1 <= na' /\ 1 < nb' /\ na' < X.size /\ nb' <= Y.size /\ na' + nb' + aM <= X.size + Y.size /\ JH le (X.toList ++ Y.toList) X Y O' na' nb' := fun m c d => ⟨_, _, _, m, c, d, by rw [eO], by lia, by lia, by lia, by lia, by lia, j4⟩
         refine bT ?_ ?_
         ·exact wpS_pure (.inr ⟨sm, fin _ _ _⟩)
         ·exact wpS_pure ⟨sm, fin _ _ _⟩
       ·rw [LP k0]
        have k00 : k = nb - 1 := by lia
        subst k00
        refine wpS_bind (aJ (by lia) ?_)
        have j4 := j2.one (by lia) (by lia) fun i h1 => k2 i h1
        have eO : ((O.map (kas_item it)).push (kas_item it (at' Y (nb - 1)))).push (kas_item it (at' X (na - 1))) = ((O.push (at' Y (nb - 1))).push (at' X (na - 1))).map (kas_item it) := by simp
        by_cases e6 : na - 1 = 0
        ·rw [LO e6]
         refine wpS_pure (.inl ⟨X.extract 0 (na - 1) ++ Y.extract 0 (nb - 1) ++ ((O.push (at' Y (nb - 1))).push (at' X (na - 1))).reverse, ?_, j4.done2 e6 (by lia), sm⟩)
         simp [Mc]
        ·rw [LP e6]
         have fin : ∀ m c d, ∃ O' na' nb' m' c' d', ((none, na - 1, nb - 1, ((O.map (kas_item it)).push (kas_item it (at' Y (nb - 1)))).push (kas_item it (at' X (na - 1))), m, c, d) : Option (Array Keyed) × Nat × Nat × Array Keyed × Nat × Nat × Nat) = (none, na', nb', O'.map (kas_item it), m', c', d') /\ 1 <= na' /\ 1 < nb' /\ na' < X.size /\ nb' <= Y.size /\ na' + nb' + aM <= X.size + Y.size /\ JH le (X.toList ++ Y.toList) X Y O' na' nb' := fun m c d => ⟨_, _, _, m, c, d, by rw [eO], by lia, by lia, by lia, by lia, by lia, j4⟩
         refine bT ?_ ?_
         ·exact wpS_pure (.inr ⟨sm, fin _ _ _⟩)
         ·exact wpS_pure ⟨sm, fin _ _ _⟩
     ·rw [LP k0]
      have k00 : na = k := by lia
      subst k00
      have ky : ∀ i, i < na -> le (at' X i) (at' Y (nb - 1)) := k2
      refine wpS_bind (aJ (by lia) ?_)
      have j2 : JH le (X.toList ++ Y.toList) X Y (O.push (at' Y (nb - 1))) na (nb - 1) := (j.sy.one (by lia) (by lia) fun i h1 => ky i h1).sy
      by_cases e3 : nb - 1 = 1
      ·rw [LO e3]
       refine wpS_pure (.inl ⟨Y.extract 0 (nb - 1) ++ X.extract 0 na ++ (O.push (at' Y (nb - 1))).reverse, ?_, j2.first e3 (by lia) (by lia) hf, sm⟩)
       simp [Mc]
      ·rw [LP e3]
       refine wpS_bind (aJ (by lia) ?_)
       refine wpS_bind (cH o hc sm.1 hy (hx (na - 1) (by lia)) (by lia) (by lia) (fun i k h1 h2 => sy _ _ (by lia) (by lia)) fun k k1 k2 k3 => ?_)
       dsimp only
       simp only [Nat.zero_add] at k2 k3
       have j3 : JH le (X.toList ++ Y.toList) X Y (O.push (at' Y (nb - 1)) ++ (Y.extract k (nb - 1)).reverse) na k := (j2.sy.blk (by lia) (by lia) fun i l h1 h2 h3 => o.tr _ _ _ (sx l (na - 1) (by lia) (by lia)) (k3 i h1 h2)).sy
       by_cases k0 : nb - 1 - k > 0
       ·rw [LO k0]
        by_cases e4 : k = 1
        ·rw [LO e4]
         refine wpS_pure (.inl ⟨Y.extract 0 k ++ X.extract 0 na ++ (O.push (at' Y (nb - 1)) ++ (Y.extract k (nb - 1)).reverse).reverse, ?_, j3.first e4 (by lia) (by lia) hf, sm⟩)
         simp [Mc]
        rw [LP e4]
        by_cases e5 : k = 0
        ·rw [LO e5]
         refine wpS_pure (.inl ⟨X.extract 0 na ++ Y.extract 0 k ++ (O.push (at' Y (nb - 1)) ++ (Y.extract k (nb - 1)).reverse).reverse, ?_, j3.done1 e5 (by lia), sm⟩)
         simp [Mc]
        rw [LP e5]
        refine wpS_bind (aJ (by lia) ?_)
        have j4 := j3.one (by lia) (by lia) fun i h1 => k2 i h1
        have eO : ((O.map (kas_item it)).push (kas_item it (at' Y (nb - 1))) ++ ((Y.map (kas_item it)).extract k (nb - 1)).reverse).push (kas_item it (at' X (na - 1))) = ((O.push (at' Y (nb - 1)) ++ (Y.extract k (nb - 1)).reverse).push (at' X (na - 1))).map (kas_item it) := by simp [Mc]
        by_cases e6 : na - 1 = 0
        ·rw [LO e6]
         refine wpS_pure (.inl ⟨X.extract 0 (na - 1) ++ Y.extract 0 k ++ ((O.push (at' Y (nb - 1)) ++ (Y.extract k (nb - 1)).reverse).push (at' X (na - 1))).reverse, ?_, j4.done2 e6 (by lia), sm⟩)
         simp [Mc]
        ·rw [LP e6]
         have fin : ∀ m c d, ∃ O' na' nb' m' c' d', ((none, na - 1, k, ((O.map (kas_item it)).push (kas_item it (at' Y (nb - 1))) ++ ((Y.map (kas_item it)).extract k (nb - 1)).reverse).push (kas_item it (at' X (na - 1))), m, c, d) : Option (Array Keyed) × Nat × Nat × Array Keyed × Nat × Nat × Nat) = (none, na', nb', O'.map (kas_item it), m', c', d') /\ 1 <= na' /\ 1 < nb' /\ na' < X.size /\ nb' <= Y.size /\ na' + nb' + aM <= X.size + Y.size /\ JH le (X.toList ++ Y.toList) X Y O' na' nb' := fun m c d => ⟨_, _, _, m, c, d, by rw [eO], by lia, by lia, by lia, by lia, by lia, j4⟩
         refine bT ?_ ?_
         ·exact wpS_pure (.inr ⟨sm, fin _ _ _⟩)
         ·exact wpS_pure ⟨sm, fin _ _ _⟩
       ·rw [LP k0]
        have k00 : k = nb - 1 := by lia
        subst k00
        refine wpS_bind (aJ (by lia) ?_)
        have j4 := j2.one (by lia) (by lia) fun i h1 => k2 i h1
        have eO : ((O.map (kas_item it)).push (kas_item it (at' Y (nb - 1)))).push (kas_item it (at' X (na - 1))) = ((O.push (at' Y (nb - 1))).push (at' X (na - 1))).map (kas_item it) := by simp
        by_cases e6 : na - 1 = 0
        ·rw [LO e6]
         refine wpS_pure (.inl ⟨X.extract 0 (na - 1) ++ Y.extract 0 (nb - 1) ++ ((O.push (at' Y (nb - 1))).push (at' X (na - 1))).reverse, ?_, j4.done2 e6 (by lia), sm⟩)
         simp [Mc]
        ·rw [LP e6]
         have fin : ∀ m c d, ∃ O' na' nb' m' c' d', ((none, na - 1, nb - 1, ((O.map (kas_item it)).push (kas_item it (at' Y (nb - 1)))).push (kas_item it (at' X (na - 1))), m, c, d) : Option (Array Keyed) × Nat × Nat × Array Keyed × Nat × Nat × Nat) = (none, na', nb', O'.map (kas_item it), m', c', d') /\ 1 <= na' /\ 1 < nb' /\ na' < X.size /\ nb' <= Y.size /\ na' + nb' + aM <= X.size + Y.size /\ JH le (X.toList ++ Y.toList) X Y O' na' nb' := fun m c d => ⟨_, _, _, m, c, d, by rw [eO], by lia, by lia, by lia, by lia, by lia, j4⟩
         refine bT ?_ ?_
         ·exact wpS_pure (.inr ⟨sm, fin _ _ _⟩)
         ·exact wpS_pure ⟨sm, fin _ _ _⟩
    ·rw [LP hm]
     refine wpS_bind (wpS_modify ?_)
     replace sm := sm.g (m)
     refine wpS_bind (aJ (by lia) ?_)
     refine wpS_bind (cH o hc sm.1 hx (hy (nb - 1) (by lia)) (by lia) (by lia) (fun i k h1 h2 => sx _ _ (by lia) (by lia)) fun k k1 k2 k3 => ?_)
     dsimp only
     simp only [Nat.zero_add] at k2 k3
     by_cases k0 : na - k > 0
     ·rw [LO k0]
      replace j := j.blk (m := k) (by lia) (by lia) fun i l h1 h2 h3 => o.tr _ _ _ (sy l (nb - 1) (by lia) (by lia)) (k3 i h1 h2)
      have eO : O.map (kas_item it) ++ ((X.map (kas_item it)).extract k na).reverse = (O ++ (X.extract k na).reverse).map (kas_item it) := by simp [Mc]
      rw [eO]
      by_cases e1 : k = 0
      ·rw [LO e1]
       refine wpS_pure (.inl ⟨X.extract 0 k ++ Y.extract 0 nb ++ (O ++ (X.extract k na).reverse).reverse, ?_, j.done2 e1 (by lia), sm⟩)
       simp [Mc]
      rw [LP e1]
      have la2 : 1 <= k := by lia
      have lx2 : k < X.size := by lia
      have ls2 : k + nb + aM <= X.size + Y.size := by lia
      have ky : ∀ i, i < k -> le (at' X i) (at' Y (nb - 1)) := k2
      clear k2 k3 eO e1
      generalize O ++ (X.extract k na).reverse = O at j ⊢
      generalize na - k = kk at k0 ⊢
      clear k0 k1 la lx ls
      have la := la2
      have lx := lx2
      have ls := ls2
      clear la2 lx2 ls2
      obtain ⟨na, hna⟩ : ∃ na, na = k := ⟨k, rfl⟩
      subst hna
      refine wpS_bind (aJ (by lia) ?_)
      have j2 : JH le (X.toList ++ Y.toList) X Y (O.push (at' Y (nb - 1))) na (nb - 1) := (j.sy.one (by lia) (by lia) fun i h1 => ky i h1).sy
      by_cases e3 : nb - 1 = 1
      ·rw [LO e3]
       refine wpS_pure (.inl ⟨Y.extract 0 (nb - 1) ++ X.extract 0 na ++ (O.push (at' Y (nb - 1))).reverse, ?_, j2.first e3 (by lia) (by lia) hf, sm⟩)
       simp [Mc]
      ·rw [LP e3]
       refine wpS_bind (aJ (by lia) ?_)
       refine wpS_bind (cH o hc sm.1 hy (hx (na - 1) (by lia)) (by lia) (by lia) (fun i k h1 h2 => sy _ _ (by lia) (by lia)) fun k k1 k2 k3 => ?_)
       dsimp only
       simp only [Nat.zero_add] at k2 k3
       have j3 : JH le (X.toList ++ Y.toList) X Y (O.push (at' Y (nb - 1)) ++ (Y.extract k (nb - 1)).reverse) na k := (j2.sy.blk (by lia) (by lia) fun i l h1 h2 h3 => o.tr _ _ _ (sx l (na - 1) (by lia) (by lia)) (k3 i h1 h2)).sy
       by_cases k0 : nb - 1 - k > 0
       ·rw [LO k0]
        by_cases e4 : k = 1
        ·rw [LO e4]
         refine wpS_pure (.inl ⟨Y.extract 0 k ++ X.extract 0 na ++ (O.push (at' Y (nb - 1)) ++ (Y.extract k (nb - 1)).reverse).reverse, ?_, j3.first e4 (by lia) (by lia) hf, sm⟩)
         simp [Mc]
        rw [LP e4]
        by_cases e5 : k = 0
        ·rw [LO e5]
         refine wpS_pure (.inl ⟨X.extract 0 na ++ Y.extract 0 k ++ (O.push (at' Y (nb - 1)) ++ (Y.extract k (nb - 1)).reverse).reverse, ?_, j3.done1 e5 (by lia), sm⟩)
         simp [Mc]
        rw [LP e5]
        refine wpS_bind (aJ (by lia) ?_)
        have j4 := j3.one (by lia) (by lia) fun i h1 => k2 i h1
        have eO : ((O.map (kas_item it)).push (kas_item it (at' Y (nb - 1))) ++ ((Y.map (kas_item it)).extract k (nb - 1)).reverse).push (kas_item it (at' X (na - 1))) = ((O.push (at' Y (nb - 1)) ++ (Y.extract k (nb - 1)).reverse).push (at' X (na - 1))).map (kas_item it) := by simp [Mc]
        by_cases e6 : na - 1 = 0
        ·rw [LO e6]
         refine wpS_pure (.inl ⟨X.extract 0 (na - 1) ++ Y.extract 0 k ++ ((O.push (at' Y (nb - 1)) ++ (Y.extract k (nb - 1)).reverse).push (at' X (na - 1))).reverse, ?_, j4.done2 e6 (by lia), sm⟩)
         simp [Mc]
        ·rw [LP e6]
         have fin : ∀ m c d, ∃ O' na' nb' m' c' d', ((none, na - 1, k, ((O.map (kas_item it)).push (kas_item it (at' Y (nb - 1))) ++ ((Y.map (kas_item it)).extract k (nb - 1)).reverse).push (kas_item it (at' X (na - 1))), m, c, d) : Option (Array Keyed) × Nat × Nat × Array Keyed × Nat × Nat × Nat) = (none, na', nb', O'.map (kas_item it), m', c', d') /\ 1 <= na' /\ 1 < nb' /\ na' < X.size /\ nb' <= Y.size /\ na' + nb' + aM <= X.size + Y.size /\ JH le (X.toList ++ Y.toList) X Y O' na' nb' := fun m c d => ⟨_, _, _, m, c, d, by rw [eO], by lia, by lia, by lia, by lia, by lia, j4⟩
         refine bT ?_ ?_
         ·exact wpS_pure (.inr ⟨sm, fin _ _ _⟩)
         ·exact wpS_pure ⟨sm, fin _ _ _⟩
       ·rw [LP k0]
        have k00 : k = nb - 1 := by lia
        subst k00
        refine wpS_bind (aJ (by lia) ?_)
        have j4 := j2.one (by lia) (by lia) fun i h1 => k2 i h1
        have eO : ((O.map (kas_item it)).push (kas_item it (at' Y (nb - 1)))).push (kas_item it (at' X (na - 1))) = ((O.push (at' Y (nb - 1))).push (at' X (na - 1))).map (kas_item it) := by simp
        by_cases e6 : na - 1 = 0
        ·rw [LO e6]
         refine wpS_pure (.inl ⟨X.extract 0 (na - 1) ++ Y.extract 0 (nb - 1) ++ ((O.push (at' Y (nb - 1))).push (at' X (na - 1))).reverse, ?_, j4.done2 e6 (by lia), sm⟩)
         simp [Mc]
        ·rw [LP e6]
         have fin : ∀ m c d, ∃ O' na' nb' m' c' d', ((none, na - 1, nb - 1, ((O.map (kas_item it)).push (kas_item it (at' Y (nb - 1)))).push (kas_item it (at' X (na - 1))), m, c, d) : Option (Array Keyed) × Nat × Nat × Array Keyed × Nat × Nat × Nat) = (none, na', nb', O'.map (kas_item it), m', c', d') /\ 1 <= na' /\ 1 < nb' /\ na' < X.size /\ nb' <= Y.size /\ na' + nb' + aM <= X.size + Y.size /\ JH le (X.toList ++ Y.toList) X Y O' na' nb' := fun m c d => ⟨_, _, _, m, c, d, by rw [eO], by lia, by lia, by lia, by lia, by lia, j4⟩
         refine bT ?_ ?_
         ·exact wpS_pure (.inr ⟨sm, fin _ _ _⟩)
         ·exact wpS_pure ⟨sm, fin _ _ _⟩
     ·rw [LP k0]
      have k00 : na = k := by lia
      subst k00
      have ky : ∀ i, i < na -> le (at' X i) (at' Y (nb - 1)) := k2
      refine wpS_bind (aJ (by lia) ?_)
      have j2 : JH le (X.toList ++ Y.toList) X Y (O.push (at' Y (nb - 1))) na (nb - 1) := (j.sy.one (by lia) (by lia) fun i h1 => ky i h1).sy
      by_cases e3 : nb - 1 = 1
      ·rw [LO e3]
       refine wpS_pure (.inl ⟨Y.extract 0 (nb - 1) ++ X.extract 0 na ++ (O.push (at' Y (nb - 1))).reverse, ?_, j2.first e3 (by lia) (by lia) hf, sm⟩)
       simp [Mc]
      ·rw [LP e3]
       refine wpS_bind (aJ (by lia) ?_)
       refine wpS_bind (cH o hc sm.1 hy (hx (na - 1) (by lia)) (by lia) (by lia) (fun i k h1 h2 => sy _ _ (by lia) (by lia)) fun k k1 k2 k3 => ?_)
       dsimp only
       simp only [Nat.zero_add] at k2 k3
       have j3 : JH le (X.toList ++ Y.toList) X Y (O.push (at' Y (nb - 1)) ++ (Y.extract k (nb - 1)).reverse) na k := (j2.sy.blk (by lia) (by lia) fun i l h1 h2 h3 => o.tr _ _ _ (sx l (na - 1) (by lia) (by lia)) (k3 i h1 h2)).sy
       by_cases k0 : nb - 1 - k > 0
       ·rw [LO k0]
        by_cases e4 : k = 1
        ·rw [LO e4]
         refine wpS_pure (.inl ⟨Y.extract 0 k ++ X.extract 0 na ++ (O.push (at' Y (nb - 1)) ++ (Y.extract k (nb - 1)).reverse).reverse, ?_, j3.first e4 (by lia) (by lia) hf, sm⟩)
         simp [Mc]
        rw [LP e4]
        by_cases e5 : k = 0
        ·rw [LO e5]
         refine wpS_pure (.inl ⟨X.extract 0 na ++ Y.extract 0 k ++ (O.push (at' Y (nb - 1)) ++ (Y.extract k (nb - 1)).reverse).reverse, ?_, j3.done1 e5 (by lia), sm⟩)
         simp [Mc]
        rw [LP e5]
        refine wpS_bind (aJ (by lia) ?_)
        have j4 := j3.one (by lia) (by lia) fun i h1 => k2 i h1
        have eO : ((O.map (kas_item it)).push (kas_item it (at' Y (nb - 1))) ++ ((Y.map (kas_item it)).extract k (nb - 1)).reverse).push (kas_item it (at' X (na - 1))) = ((O.push (at' Y (nb - 1)) ++ (Y.extract k (nb - 1)).reverse).push (at' X (na - 1))).map (kas_item it) := by simp [Mc]
        by_cases e6 : na - 1 = 0
        ·rw [LO e6]
         refine wpS_pure (.inl ⟨X.extract 0 (na - 1) ++ Y.extract 0 k ++ ((O.push (at' Y (nb - 1)) ++ (Y.extract k (nb - 1)).reverse).push (at' X (na - 1))).reverse, ?_, j4.done2 e6 (by lia), sm⟩)
         simp [Mc]
        ·rw [LP e6]
         have fin : ∀ m c d, ∃ O' na' nb' m' c' d', ((none, na - 1, k, ((O.map (kas_item it)).push (kas_item it (at' Y (nb - 1))) ++ ((Y.map (kas_item it)).extract k (nb - 1)).reverse).push (kas_item it (at' X (na - 1))), m, c, d) : Option (Array Keyed) × Nat × Nat × Array Keyed × Nat × Nat × Nat) = (none, na', nb', O'.map (kas_item it), m', c', d') /\ 1 <= na' /\ 1 < nb' /\ na' < X.size /\ nb' <= Y.size /\ na' + nb' + aM <= X.size + Y.size /\ JH le (X.toList ++ Y.toList) X Y O' na' nb' := fun m c d => ⟨_, _, _, m, c, d, by rw [eO], by lia, by lia, by lia, by lia, by lia, j4⟩
         refine bT ?_ ?_
         ·exact wpS_pure (.inr ⟨sm, fin _ _ _⟩)
         ·exact wpS_pure ⟨sm, fin _ _ _⟩
       ·rw [LP k0]
        have k00 : k = nb - 1 := by lia
        subst k00
        refine wpS_bind (aJ (by lia) ?_)
        have j4 := j2.one (by lia) (by lia) fun i h1 => k2 i h1
        have eO : ((O.map (kas_item it)).push (kas_item it (at' Y (nb - 1)))).push (kas_item it (at' X (na - 1))) = ((O.push (at' Y (nb - 1))).push (at' X (na - 1))).map (kas_item it) := by simp
        by_cases e6 : na - 1 = 0
        ·rw [LO e6]
         refine wpS_pure (.inl ⟨X.extract 0 (na - 1) ++ Y.extract 0 (nb - 1) ++ ((O.push (at' Y (nb - 1))).push (at' X (na - 1))).reverse, ?_, j4.done2 e6 (by lia), sm⟩)
         simp [Mc]
        ·rw [LP e6]
         have fin : ∀ m c d, ∃ O' na' nb' m' c' d', ((none, na - 1, nb - 1, ((O.map (kas_item it)).push (kas_item it (at' Y (nb - 1)))).push (kas_item it (at' X (na - 1))), m, c, d) : Option (Array Keyed) × Nat × Nat × Array Keyed × Nat × Nat × Nat) = (none, na', nb', O'.map (kas_item it), m', c', d') /\ 1 <= na' /\ 1 < nb' /\ na' < X.size /\ nb' <= Y.size /\ na' + nb' + aM <= X.size + Y.size /\ JH le (X.toList ++ Y.toList) X Y O' na' nb' := fun m c d => ⟨_, _, _, m, c, d, by rw [eO], by lia, by lia, by lia, by lia, by lia, j4⟩
         refine bT ?_ ?_
         ·exact wpS_pure (.inr ⟨sm, fin _ _ _⟩)
         ·exact wpS_pure ⟨sm, fin _ _ _⟩
end
section
variable {α : Type}
theorem kW (lo : Nat) : ∀ (R : List α) (p : Array α) (j : Nat), lo + j + R.length <= p.size -> ((R.zipIdx j).foldl (fun a x => a.setIfInBounds (lo + x.2) x.1) p).toList = p.toList.take (lo + j) ++ R ++ p.toList.drop (lo + j + R.length)
 | [], p, j, _ => by simp
 | r :: R, p, j, h => by
  have hl : lo + j < p.toList.length := by simp at h ⊢; lia
  rw [List.zipIdx_cons, List.foldl_cons, kW lo R _ (j + 1) (by simp at h ⊢; lia)]
  have e1 : (p.setIfInBounds (lo + j) r).toList = p.toList.set (lo + j) r := by simp
  have e2 : (p.toList.set (lo + j) r).take (lo + (j + 1)) = p.toList.take (lo + j) ++ [r] := by
   rw [<- Nat.add_assoc, List.take_succ_eq_append_getElem (by simpa using hl), List.take_set_of_le (LU _)]
   simp
  have e3 : (p.toList.set (lo + j) r).drop (lo + (j + 1) + R.length) = p.toList.drop (lo + j + (r :: R).length) := by
   rw [List.drop_set_of_lt (by lia), Mh]
   congr 1; lia
  rw [e1, e2, e3]
  simp
end
section
variable {prog : Program} {w : World} {A : Around} {E : Value -> Shared -> Prop} {s : Shared} {κ : SortKind} {it : Array Keyed} {n : Nat} {lt : Nat -> Nat -> Bool} {le : Nat -> Nat -> Prop}
def Stt (κ : SortKind) (it : Array Keyed) (st : SortSt) (p : Array Nat) (pend : Array (Nat × Nat × Nat)) : Prop := kindOf st = κ /\ arrOf st = p.map (kas_item it) /\ pendingOf st = pend /\ failedOf st = none
structure Srtd (le : Nat -> Nat -> Prop) (p p' : Array Nat) (lo hi : Nat) : Prop where
 perm : p'.Perm p
 out : ∀ k, k < lo \/ hi <= k -> at' p' k = at' p k
 asc : ∀ i j, lo <= i -> i <= j -> j < hi -> le (at' p' i) (at' p' j)
theorem FL {σ : Type} {M : Model} {x : σ} {Q : PUnit -> σ -> Prop} {st : σ} (h : Q ⟨⟩ x) : wpS M A E s (set x : StateT σ Sem PUnit) Q st := by
 unfold wpS
 rw [StateT.run_set]
 exact LS ⟨rfl, h⟩
theorem J9 (l : List Nat) (k : Nat) : at' l.toArray k = (l[k]?).getD 0 := by simp [at']
theorem Ho (p : Array Nat) (k : Nat) : at' p k = (p.toList[k]?).getD 0 := by simp [at']
theorem Aj {p : Array Nat} {R : List Nat} {lo : Nat} (h : lo + R.length <= p.size) (k : Nat) : at' (p.toList.take lo ++ R ++ p.toList.drop (lo + R.length)).toArray k = if lo <= k /\ k < lo + R.length then (R[k - lo]?).getD 0 else at' p k := by
 rw [J9, Ho]
 have hl : (p.toList.take lo).length = lo := by rw [List.length_take]; simp; lia
 by_cases h1 : k < lo
 ·rw [LP (by lia), Mj, Mn (by lia), List.getElem?_take, LO h1]
 ·by_cases h2 : k < lo + R.length
  ·rw [LO ⟨by lia, h2⟩, Mj, MY (by lia), hl, Mn (by lia)]
  ·rw [LP (by lia), MY (by rw [LZ, hl]; lia), LZ, hl, List.getElem?_drop]
   congr 2; lia
theorem Dp {p : Array Nat} {R : List Nat} {lo : Nat} (h : R.Perm (p.extract lo (lo + R.length)).toList) : (p.toList.take lo ++ R ++ p.toList.drop (lo + R.length)).toArray.Perm p := by
 rw [Array.perm_iff_toList_perm]
 show (p.toList.take lo ++ R ++ p.toList.drop (lo + R.length)).Perm p.toList
 refine ((h.append_left _).append_right _).trans ?_
 rw [<- kS (by lia), List.take_append_drop]
theorem DU {p : Array Nat} {i j k : Nat} (h : i + k < j) : at' (p.extract i j) k = at' p (i + k) := by
 rw [Ho, Ho, Array.toList_extract, List.extract_eq_take_drop, List.getElem?_take, LO (by lia), List.getElem?_drop]
theorem xj {p : Array Nat} {i j : Nat} (h : j <= p.size) : (p.extract i j).size = j - i := by simp; lia
theorem CP (o : Ord lt le) (hc : uD prog w A s κ it n lt) {i sa na pw sb nb q : Nat} {p : Array Nat} {pend : Array (Nat × Nat × Nat)} {Q : Bool -> SortSt -> Prop} {st : SortSt} (S : Stt κ it st p pend) (h1 : pend[i]? = some (sa, na, pw)) (h2 : pend[i + 1]? = some (sb, nb, q))
  (hsb : sb = sa + na) (na1 : 1 <= na) (nb1 : 1 <= nb) (hz : sb + nb <= p.size) (hp : ∀ i, i < p.size -> at' p i < n) (sA : ∀ i j, i <= j -> j < na -> le (at' p (sa + i)) (at' p (sa + j))) (sB : ∀ i j, i <= j -> j < nb -> le (at' p (sb + i)) (at' p (sb + j)))
  (h : ∀ p' st', Stt κ it st' p' ((pend.setIfInBounds i (sa, na + nb, pw)).eraseIdxIfInBounds (i + 1)) -> Srtd le p p' sa (sa + (na + nb)) -> Q true st') : wpS (model prog w) A E s (mergeAt' i) Q st := by
 obtain ⟨S1, S2, S3, S4⟩ := S
 refine wpS_bind (wpS_get ?_)
 have S3' : (sortPriv% PySem.Builtin.SortState.pending) st = pend := S3
 have S2' : (sortPriv% PySem.Builtin.SortState.a) st = p.map (kas_item it) := S2
 rw [S3', h1, h2]
 refine wpS_bind (FL ?_)
 rw [S2']
 generalize hst : (sortPriv% PySem.Builtin.SortState.mk) _ _ _ _ _ = st2
 have T : Stt κ it st2 p ((pend.setIfInBounds i (sa, na + nb, pw)).eraseIdxIfInBounds (i + 1)) := by subst hst; exact ⟨S1, rfl, rfl, S4⟩
 clear hst S1 S2 S3 S4 S2' S3' h1 h2
 generalize ((pend.setIfInBounds i (sa, na + nb, pw)).eraseIdxIfInBounds (i + 1)) = pend2 at T h
 have sA' : ∀ i j, sa <= i -> i <= j -> j < sb -> le (at' p i) (at' p j) := fun i j a1 a2 a3 => by
  have := sA (i - sa) (j - sa) (by lia) (by lia)
  rwa [show sa + (i - sa) = i by lia, show sa + (j - sa) = j by lia] at this
 have sB' : ∀ i j, sb <= i -> i <= j -> j < sb + nb -> le (at' p i) (at' p j) := fun i j a1 a2 a3 => by
  have := sB (i - sb) (j - sb) (by lia) (by lia)
  rwa [show sb + (i - sb) = i by lia, show sb + (j - sb) = j by lia] at this
 refine wpS_bind (aJ (by lia) ?_)
 refine wpS_bind (cH o hc T.1 hp (hp sb (by lia)) (by lia) (by lia) sA fun k k1 k2 k3 => ?_)
 have k2' : ∀ i, sa <= i -> i < sa + k -> le (at' p i) (at' p sb) := fun i a1 a2 => by
  have := k2 (i - sa) (by lia)
  rwa [show sa + (i - sa) = i by lia] at this
 have k3' : ∀ i, sa + k <= i -> i < sb -> le (at' p sb) (at' p i) := fun i a1 a2 => by
  have := k3 (i - sa) (by lia) (by lia)
  rwa [show sa + (i - sa) = i by lia] at this
 clear k2 k3
 dsimp only
 simp only [beq_iff_eq]
 by_cases e1 : na - k = 0
 ·rw [LO e1]
  refine wpS_pure (h p st2 T ⟨.refl _, fun _ _ => rfl, fun i j a1 a2 a3 => ?_⟩)
  by_cases b1 : j < sb
  ·exact sA' i j a1 a2 b1
  ·by_cases b2 : sb <= i
   ·exact sB' i j b2 a2 (by lia)
   ·exact o.tr _ _ _ (k2' i a1 (by lia)) (sB' sb j (LU _) (by lia) (by lia))
 rw [LP e1]
 refine wpS_bind (aJ (by lia) ?_)
 have e2 : sa + k + (na - k) - 1 = sb - 1 := by lia
 rw [e2]
 refine wpS_bind (cH o hc T.1 hp (hp (sb - 1) (by lia)) (by lia) (by lia) sB fun m m1 k2 k3 => ?_)
 have m2' : ∀ i, sb <= i -> i < sb + m -> le (at' p i) (at' p (sb - 1)) := fun i a1 a2 => by
  have := k2 (i - sb) (by lia)
  rwa [show sb + (i - sb) = i by lia] at this
 have m3' : ∀ i, sb + m <= i -> i < sb + nb -> le (at' p (sb - 1)) (at' p i) := fun i a1 a2 => by
  have := k3 (i - sb) (by lia) (by lia)
  rwa [show sb + (i - sb) = i by lia] at this
 clear k2 k3
 dsimp only
 by_cases e3 : m = 0
 ·rw [LO e3]
  subst e3
  refine wpS_pure (h p st2 T ⟨.refl _, fun _ _ => rfl, fun i j a1 a2 a3 => ?_⟩)
  by_cases b1 : j < sb
  ·exact sA' i j a1 a2 b1
  ·by_cases b2 : sb <= i
   ·exact sB' i j b2 a2 (by lia)
   ·exact o.tr _ _ _ (sA' i (sb - 1) a1 (by lia) (by lia)) (m3' j (by lia) (by lia))
 rw [LP e3]
 generalize hr : na - k = r
 have hr1 : na = k + r := by lia
 have hr0 : 0 < r := by lia
 clear hr e1 e2
 have zx : (p.extract (sa + k) sb).size = r := by rw [xj (by lia)]; lia
 have zy : (p.extract sb (sb + m)).size = m := by rw [xj (by lia)]; lia
 have ax : ∀ i, i < r -> at' (p.extract (sa + k) sb) i = at' p (sa + k + i) := fun i hi => DU (by lia)
 have ay : ∀ i, i < m -> at' (p.extract sb (sb + m)) i = at' p (sb + i) := fun i hi => DU (by lia)
 have exy : (p.extract (sa + k) sb).toList ++ (p.extract sb (sb + m)).toList = (p.extract (sa + k) (sb + m)).toList := by
  have a1 := kS (X := p) (i := sa + k) (j := sb) (by lia)
  have a2 := kS (X := p) (i := sb) (j := sb + m) (by lia)
  have a3 := kS (X := p) (i := sa + k) (j := sb + m) (by lia)
  rw [a1, a3, Mj] at a2
  exact (List.append_cancel_left a2).symm
 have key : ∀ R : Array Nat, kj le ((p.extract (sa + k) sb).toList ++ (p.extract sb (sb + m)).toList) R -> R.toList.length = r + m /\ Srtd le p (p.toList.take (sa + k) ++ R.toList ++ p.toList.drop (sa + k + R.toList.length)).toArray sa (sa + (na + nb)) := fun R g => by
  have hlen : R.toList.length = r + m := by
   rw [g.2.length_eq, LZ, MQ, MQ, zx, zy]
  refine ⟨hlen, ?_, fun i hi => ?_, fun i j a1 a2 a3 => ?_⟩
  ·refine Dp ?_
   rw [hlen, show sa + k + (r + m) = sb + m by lia, <- exy]
   exact g.2
  ·rw [Aj (by lia), LP (by lia)]
  ·rw [Aj (by lia), Aj (by lia), hlen]
   have memR : ∀ i, i < r + m -> ∃ c, (R.toList[i]?).getD 0 = at' p c /\ ((sa + k <= c /\ c < sb) \/ (sb <= c /\ c < sb + m)) := fun i hi => by
    have hi' : i < R.toList.length := by lia
    have hm : R.toList[i] ∈ R.toList := List.getElem_mem hi'
    have e : (R.toList[i]?).getD 0 = R.toList[i] := by rw [Mf hi']; rfl
    rw [e]
    rcases Mb.mp (g.2.mem_iff.mp hm) with hm | hm
    ·obtain ⟨c, c1, c2, c3, c4⟩ := rF hm
     exact ⟨c, c4.symm, .inl ⟨c1, c2⟩⟩
    ·obtain ⟨c, c1, c2, c3, c4⟩ := rF hm
     exact ⟨c, c4.symm, .inr ⟨c1, c2⟩⟩
   by_cases b1 : sa + k <= i /\ i < sa + k + (r + m)
   ·rw [LO b1]
    by_cases b2 : sa + k <= j /\ j < sa + k + (r + m)
    ·rw [LO b2]
     by_cases b3 : i = j
     ·subst b3; exact o.rf _
     ·have := MP.mp g.1 (i - (sa + k)) (j - (sa + k)) (by lia) (by lia) (by lia)
      rw [Mf (by lia), Mf (by lia)]
      exact this
    ·rw [LP b2]
     obtain ⟨c, c1, c2⟩ := memR (i - (sa + k)) (by lia)
     rw [c1]
     rcases c2 with c2 | c2
     ·exact o.tr _ _ _ (sA' c (sb - 1) (by lia) (by lia) (by lia)) (m3' j (by lia) (by lia))
     ·exact sB' c j (by lia) (by lia) (by lia)
   ·rw [LP b1]
    by_cases b2 : sa + k <= j /\ j < sa + k + (r + m)
    ·rw [LO b2]
     obtain ⟨c, c1, c2⟩ := memR (j - (sa + k)) (by lia)
     rw [c1]
     rcases c2 with c2 | c2
     ·exact sA' i c (by lia) (by lia) (by lia)
     ·exact o.tr _ _ _ (k2' i (by lia) (by lia)) (sB' sb c (LU _) (by lia) (by lia))
    ·rw [LP b2]
     by_cases b3 : j < sb
     ·exact sA' i j a1 a2 b3
     ·by_cases b4 : sb <= i
      ·exact sB' i j b4 a2 (by lia)
      ·exact o.tr _ _ _ (k2' i a1 (by lia)) (sB' sb j (LU _) (by lia) (by lia))
 have fin : ∀ (R : Array Nat) (st3 : SortSt), Same κ st2 st3 -> kj le ((p.extract (sa + k) sb).toList ++ (p.extract sb (sb + m)).toList) R ->
   Q (failedOf st3).isNone (setArr st3 ((R.map (kas_item it)).toList.zipIdx.foldl (fun a x => a.setIfInBounds (sa + k + x.2) x.1) (arrOf st3))) := fun R st3 sm g => by
  obtain ⟨hlen, S⟩ := key R g
  have ea : arrOf st3 = p.map (kas_item it) := sm.2.1.trans T.2.1
  have ef : failedOf st3 = none := sm.2.2.2.trans T.2.2.2
  rw [ef]
  refine h _ _ ⟨sm.1, ?_, sm.2.2.1.trans T.2.2.1, ef⟩ S
  show (R.map (kas_item it)).toList.zipIdx.foldl (fun a x => a.setIfInBounds (sa + k + x.2) x.1) (arrOf st3) = _
  rw [ea]
  apply Array.toList_inj.mp
  rw [kW (sa + k) _ _ 0 (by simp at hlen ⊢; lia)]
  simp
 have cx : (p.map (kas_item it)).extract (sa + k) sb = (p.extract (sa + k) sb).map (kas_item it) := by simp
 have cy : (p.map (kas_item it)).extract sb (sb + m) = (p.extract sb (sb + m)).map (kas_item it) := by simp
 rw [cx, cy]
 have hx : ∀ i, i < (p.extract (sa + k) sb).size -> at' (p.extract (sa + k) sb) i < n := fun i hi => by rw [ax i (by lia)]; exact hp _ (by lia)
 have hy : ∀ i, i < (p.extract sb (sb + m)).size -> at' (p.extract sb (sb + m)) i < n := fun i hi => by rw [ay i (by lia)]; exact hp _ (by lia)
 have sx : ∀ i j, i <= j -> j < (p.extract (sa + k) sb).size -> le (at' (p.extract (sa + k) sb) i) (at' (p.extract (sa + k) sb) j) := fun i j a1 a2 => by rw [ax i (by lia), ax j (by lia)]; exact sA' _ _ (by lia) (by lia) (by lia)
 have sy : ∀ i j, i <= j -> j < (p.extract sb (sb + m)).size -> le (at' (p.extract sb (sb + m)) i) (at' (p.extract sb (sb + m)) j) := fun i j a1 a2 => by rw [ay i (by lia), ay j (by lia)]; exact sB' _ _ (by lia) (by lia) (by lia)
 have hf : ∀ i, i < (p.extract (sa + k) sb).size -> le (at' (p.extract sb (sb + m)) 0) (at' (p.extract (sa + k) sb) i) := fun i a1 => by rw [ay 0 (by lia), ax i (by lia)]; exact k3' _ (by lia) (by lia)
 have hl : ∀ i, i < (p.extract sb (sb + m)).size -> le (at' (p.extract sb (sb + m)) i) (at' (p.extract (sa + k) sb) ((p.extract (sa + k) sb).size - 1)) := fun i a1 => by
  rw [zx, ay i (by lia), ax _ (by lia), show sa + k + (r - 1) = sb - 1 by lia]
  exact m2' _ (by lia) (by lia)
 by_cases e4 : r <= m
 ·rw [LO e4]
  refine wpS_bind (CN o hc T.1 hx hy (by lia) (by lia) sx sy hf hl fun R st3 sm g => ?_)
  exact wpS_bind (wpS_modify (wpS_bind (wpS_get (wpS_pure (fin R st3 sm g)))))
 ·rw [LP e4]
  refine wpS_bind (CF o hc T.1 hx hy (by lia) (by lia) sx sy hf hl fun R st3 sm g => ?_)
  exact wpS_bind (wpS_modify (wpS_bind (wpS_get (wpS_pure (fin R st3 sm g)))))
end
section
variable {le : Nat -> Nat -> Prop} {lt : Nat -> Nat -> Bool} {p p' p2 : Array Nat} {a b c : Nat}
def Up (le : Nat -> Nat -> Prop) (p : Array Nat) (a b : Nat) : Prop := ∀ i j, a <= i -> i <= j -> j < b -> le (at' p i) (at' p j)
def Dn (le : Nat -> Nat -> Prop) (p : Array Nat) (a b : Nat) : Prop := ∀ i j, a <= i -> i <= j -> j < b -> le (at' p j) (at' p i)
def Es (le : Nat -> Nat -> Prop) (p : Array Nat) (a b : Nat) : Prop := ∀ k, a <= k -> k < b -> le (at' p k) (at' p (b - 1)) /\ le (at' p (b - 1)) (at' p k)
def Near (p p' : Array Nat) (lo hi : Nat) : Prop := p'.Perm p /\ ∀ k, k < lo \/ hi <= k -> at' p' k = at' p k
theorem Near.rf : Near p p a b := ⟨.refl _, fun _ _ => rfl⟩
theorem Near.tr (h : Near p p' a b) (h2 : Near p' p2 a b) : Near p p2 a b := ⟨h2.1.trans h.1, fun k hk => (h2.2 k hk).trans (h.2 k hk)⟩
theorem Near.wide {d e : Nat} (h : Near p p' a b) (h1 : d <= a) (h2 : b <= e) : Near p p' d e := ⟨h.1, fun k hk => h.2 k (by lia)⟩
theorem Near.size (h : Near p p' a b) : p'.size = p.size := h.1.size_eq
theorem eV (h : b <= p.size) : Near p (kas_rev p a b) a b := ⟨mirror_perm _ _ _ _, fun k hk => by rw [cB h, LP (by lia)]⟩
theorem yO {d : Nat} (h : b < p.size) (hd : d <= b) : Near p (bubble p b d) (b - d) (b + 1) := ⟨bubble_perm _ _ _, fun k hk => by rw [pE h hd, LP (by lia), LP (by lia)]⟩
theorem Up.succ (o : Ord lt le) (h : Up le p a b) (hab : a < b) (hl : le (at' p (b - 1)) (at' p b)) : Up le p a (b + 1) := fun i j h1 h2 h3 => by
 by_cases e : j = b
 ·subst e
  by_cases e2 : i = j
  ·subst e2; exact o.rf _
  ·exact o.tr _ _ _ (h i (j - 1) h1 (by lia) (by lia)) hl
 ·exact h i j h1 h2 (by lia)
theorem Dn.succ (o : Ord lt le) (h : Dn le p a b) (hab : a < b) (hl : le (at' p b) (at' p (b - 1))) : Dn le p a (b + 1) := fun i j h1 h2 h3 => by
 by_cases e : j = b
 ·subst e
  by_cases e2 : i = j
  ·subst e2; exact o.rf _
  ·exact o.tr _ _ _ hl (h i (j - 1) h1 (by lia) (by lia))
 ·exact h i j h1 h2 (by lia)
theorem Hf (o : Ord lt le) : Up le p a (a + 1) := fun i j h1 h2 h3 => by
 have : i = j := by lia
 subst this; exact o.rf _
theorem Up.of (h : Up le p a b) (k : ∀ i, a <= i -> i < b -> at' p' i = at' p i) : Up le p' a b := fun i j h1 h2 h3 => by
 rw [k i h1 (by lia), k j (by lia) h3]; exact h i j h1 h2 h3
theorem Dn.rev (o : Ord lt le) (h : Dn le p a b) (hb : b <= p.size) (hc : a <= c) (he : Es le p c b) : Dn le (kas_rev p c b) a b := by
 have key : ∀ k, a <= k -> k < b -> ∃ k', a <= k' /\ k' < b /\ at' (kas_rev p c b) k = at' p k' /\ le (at' p k') (at' p k) /\ le (at' p k) (at' p k') := fun k hk0 hk => by
  rw [cB hb]
  split
  ·rename_i h1
   refine ⟨c + b - 1 - k, by lia, by lia, rfl, ?_⟩
   obtain ⟨a1, a2⟩ := he k h1.1 hk
   obtain ⟨b1, b2⟩ := he (c + b - 1 - k) (by lia) (by lia)
   exact ⟨o.tr _ _ _ b1 a2, o.tr _ _ _ a1 b2⟩
  ·exact ⟨k, hk0, hk, rfl, o.rf _, o.rf _⟩
 intro i j h0 hij hj
 obtain ⟨i', _, _, e1, x1, x2⟩ := key i h0 (by lia)
 obtain ⟨j', _, _, e2, y1, y2⟩ := key j (by lia) hj
 rw [e1, e2]
 exact o.tr _ _ _ y1 (o.tr _ _ _ (h i j h0 hij hj) x2)
theorem Dn.turn (h : Dn le p a b) (hb : b <= p.size) : Up le (kas_rev p a b) a b := by
 intro i j h0 hij hj
 rw [cB hb, cB hb, LO ⟨h0, by lia⟩, LO ⟨by lia, hj⟩]
 exact h _ _ (by lia) (by lia) (by lia)
theorem oZ (o : Ord lt le) (h : a + 1 = b) : Es le p a b := fun k h1 h2 => by
 have : k = b - 1 := by lia
 subst this
 exact ⟨o.rf _, o.rf _⟩
end
section
variable {prog : Program} {w : World} {A : Around} {E : Value -> Shared -> Prop} {s : Shared} {κ : SortKind} {it : Array Keyed} {n : Nat} {lt : Nat -> Nat -> Bool} {le : Nat -> Nat -> Prop} {p : Array Nat} {pend : Array (Nat × Nat × Nat)} {st : SortSt}
theorem io (hc : uD prog w A s κ it n lt) (S : Stt κ it st p pend) (hp : ∀ i, i < p.size -> at' p i < n) {i j : Nat} {Q : Option Bool -> SortSt -> Prop} (hi : i < p.size) (hj : j < p.size) (h : Q (some (lt (at' p i) (at' p j))) st) : wpS (model prog w) A E s (ltAt' i j) Q st := by
 rw [ltAt'_eq]
 refine wpS_bind (wpS_get ?_)
 dsimp only
 rw [S.2.1]
 exact wpS_bind (aJ hi (wpS_bind (aJ hj (w_lt hc S.1 (hp _ hi) (hp _ hj) h))))
theorem n8 (S : Stt κ it st p pend) {i j : Nat} {Q : Unit -> SortSt -> Prop} (h : ∀ st', Stt κ it st' (kas_rev p i j) pend -> Q () st') : wpS (model prog w) A E s (reverseSlice' i j) Q st := by
 rw [reverseSlice'_eq]
 refine wpS_modify (h _ ⟨S.1, ?_, S.2.2⟩)
 show mirror (arrOf st) i j ((j - i) / 2) = _
 rw [S.2.1]
 exact kas_swaps_map (kas_item it) (fun k => i + k) (fun k => j - 1 - k) _ p
theorem GX (S : Stt κ it st p pend) {i j : Nat} {Q : Unit -> SortSt -> Prop} (h : ∀ st', Stt κ it st' (bubble p i (i - j)) pend -> Q () st') : wpS (model prog w) A E s (moveDown' i j) Q st := by
 rw [moveDown'_eq]
 refine wpS_modify (h _ ⟨S.1, ?_, S.2.2⟩)
 show bubble (arrOf st) i (i - j) = _
 rw [S.2.1]
 exact kas_swaps_map (kas_item it) (fun k => i - k) (fun k => i - k - 1) _ p
theorem Iu (o : Ord lt le) (hc : uD prog w A s κ it n lt) (S : Stt κ it st p pend) (hp : ∀ p' : Array Nat, p'.Perm p -> ∀ i, i < p'.size -> at' p' i < n) {lo m ok : Nat} {Q : Bool -> SortSt -> Prop} (hz : lo + m <= p.size) (hok : ok <= m) (ok1 : 1 <= ok) (hs : Up le p lo (lo + ok))
  (h : ∀ p' st', Stt κ it st' p' pend -> Near p p' lo (lo + m) -> Up le p' lo (lo + m) -> Q true st') : wpS (model prog w) A E s (binarySort' lo m ok) Q st := by
 refine wpS_bind (wpS_mono (wpS_forRange (I := fun k c st' => c = (none, ()) /\ ∃ p', Stt κ it st' p' pend /\ Near p p' lo (lo + m) /\ Up le p' lo (lo + min k m))
  (Q := fun c st' => c = (none, ()) /\ ∃ p', Stt κ it st' p' pend /\ Near p p' lo (lo + m) /\ Up le p' lo (lo + m)) ?step ?fin ?init) ?post)
 case post =>
  rintro c st' ⟨rfl, p', S', N, U⟩
  exact wpS_pure (h p' st' S' N U)
 case init => exact ⟨rfl, p, S, .rf, by rw [show min (max ok 1) m = ok by lia]; exact hs⟩
 case fin =>
  rintro c st' ⟨hc', p', S', N, U⟩
  exact ⟨hc', p', S', N, by rwa [show min (max (max ok 1) m) m = m by lia] at U⟩
 case step =>
  rintro k c st' hak hkn ⟨rfl, p', S', N, U⟩
  rw [show min k m = k by lia] at U
  have hsz := N.size
  have hk1 : 1 <= k := by lia
  have hkm : k < m := by lia
  clear hak hkn hok ok1 hs
  refine wpS_bind (wpS_mono (wpS_forRange (I := fun x c st'' => st'' = st' /\ ∃ l r, c = (none, l, r) /\ l <= r /\ r <= k /\ r - l <= k - x /\
    (∀ i, i < l -> le (at' p' (lo + i)) (at' p' (lo + k))) /\ (∀ i, r <= i -> i < k -> le (at' p' (lo + k)) (at' p' (lo + i))))
   (Q := fun c st'' => st'' = st' /\ ∃ l r, c = (none, l, r) /\ l <= k /\
    (∀ i, i < l -> le (at' p' (lo + i)) (at' p' (lo + k))) /\ (∀ i, l <= i -> i < k -> le (at' p' (lo + k)) (at' p' (lo + i)))) ?istep ?ifin ?iinit) ?ipost)
  case iinit => exact ⟨rfl, 0, k, rfl, by lia, by lia, by lia, fun i hi => by lia, fun i h1 h2 => by lia⟩
  case ifin =>
   rintro c st'' ⟨rfl, l, r, rfl, hlr, hrk, hm, hlo, hhi⟩
   have : l = r := by lia
   subst this
   exact ⟨rfl, l, l, rfl, hrk, hlo, hhi⟩
  case istep =>
   rintro x c st'' _ hxk ⟨rfl, l, r, rfl, hlr, hrk, hm, hlo, hhi⟩
   dsimp only
   by_cases hge : l ≥ r
   ·rw [LO hge]
    have : l = r := by lia
    subst this
    exact wpS_pure ⟨rfl, l, l, rfl, hrk, hlo, hhi⟩
   ·rw [LP hge]
    refine wpS_bind (io hc S' (hp _ N.1) (by lia) (by lia) ?_)
    dsimp only
    cases cw : lt (at' p' (lo + k)) (at' p' (lo + (l + r) / 2)) with
    | true =>
     rw [LO rfl]
     exact wpS_pure ⟨rfl, l, (l + r) / 2, rfl, by lia, by lia, by lia, hlo, fun i h1 h2 => o.tr _ _ _ (o.yes _ _ cw) (U _ _ (by lia) (by lia) (by lia))⟩
    | false =>
     rw [LP (by decide)]
     exact wpS_pure ⟨rfl, (l + r) / 2 + 1, r, rfl, by lia, by lia, by lia, fun i h1 => o.tr _ _ _ (U _ _ (by lia) (by lia) (by lia)) (o.no _ _ cw), hhi⟩
  case ipost =>
   rintro c st'' ⟨rfl, l, r, rfl, hlk, hlo, hhi⟩
   dsimp only
   refine wpS_bind (GX S' fun st3 S3 => wpS_pure ⟨rfl, _, S3, N.tr ((yO (by lia) (by lia)).wide (by lia) (by lia)), ?_⟩)
   rw [show min (k + 1) m = k + 1 by lia, show lo + k - (lo + l) = k - l by lia]
   intro i j h1 h2 h3
   rw [pE (by lia) (by lia), pE (by lia) (by lia)]
   rw [show lo + k - (k - l) = lo + l by lia]
   by_cases i1 : i = lo + l
   ·rw [LO i1]
    by_cases j1 : j = lo + l
    ·rw [LO j1]; exact o.rf _
    ·rw [LP j1]
     rw [LO (by lia)]
     have := hhi (j - 1 - lo) (by lia) (by lia)
     rwa [show lo + (j - 1 - lo) = j - 1 by lia] at this
   ·rw [LP i1]
    by_cases j1 : j = lo + l
    ·rw [LO j1, LP (by lia)]
     have := hlo (i - lo) (by lia)
     rwa [show lo + (i - lo) = i by lia] at this
    ·rw [LP j1]
     by_cases i2 : lo + l < i /\ i <= lo + k
     ·rw [LO i2, LO (by lia)]
      exact U _ _ (by lia) (by lia) (by lia)
     ·rw [LP i2]
      by_cases j2 : lo + l < j /\ j <= lo + k
      ·rw [LO j2]
       exact U _ _ (by lia) (by lia) (by lia)
      ·rw [LP j2]
       exact U _ _ (by lia) (by lia) (by lia)
end
section
variable {prog : Program} {w : World} {A : Around} {E : Value -> Shared -> Prop} {s : Shared} {κ : SortKind} {it : Array Keyed} {n : Nat} {lt : Nat -> Nat -> Bool} {le : Nat -> Nat -> Prop} {p : Array Nat} {pend : Array (Nat × Nat × Nat)} {st : SortSt}
theorem Fu (o : Ord lt le) (hc : uD prog w A s κ it n lt) (S : Stt κ it st p pend) (hp : ∀ p' : Array Nat, p'.Perm p -> ∀ i, i < p'.size -> at' p' i < n) {lo nrem : Nat} {Q : Option Nat -> SortSt -> Prop} (h1 : 1 <= nrem) (hz : lo + nrem <= p.size)
  (h : ∀ m p' st', Stt κ it st' p' pend -> 1 <= m -> m <= nrem -> Near p p' lo (lo + m) -> Up le p' lo (lo + m) -> Q (some m) st') : wpS (model prog w) A E s (countRun' lo nrem) Q st := by
 refine wpS_bind (wpS_mono (wpS_forRange (I := fun x c st' => st' = st /\ c = (none, x) /\ x <= nrem /\ Up le p lo (lo + x))
  (Q := fun c st' => st' = st /\ ∃ m, c = (none, m) /\ 1 <= m /\ m <= nrem /\ Up le p lo (lo + m) /\ (m < nrem -> le (at' p (lo + m)) (at' p (lo + m - 1)))) ?s1 ?f1 ?i1) ?p1)
 case i1 => exact ⟨rfl, rfl, h1, Hf o⟩
 case f1 =>
  rintro c st' ⟨rfl, rfl, k1, k2⟩
  exact ⟨rfl, _, rfl, by lia, k1, k2, fun _ => by lia⟩
 case s1 =>
  rintro x c st' hx0 hx ⟨rfl, rfl, k1, k2⟩
  dsimp only
  refine wpS_bind (io hc S (hp p (.refl _)) (by lia) (by lia) ?_)
  dsimp only
  cases cw : lt (at' p (lo + x)) (at' p (lo + x - 1)) with
  | true =>
   rw [LO rfl]
   exact wpS_pure ⟨rfl, x, rfl, hx0, k1, k2, fun _ => o.yes _ _ cw⟩
  | false =>
   rw [LP (by decide)]
   exact wpS_pure ⟨rfl, rfl, by lia, Up.succ (b := lo + x) o k2 (by lia) (o.no _ _ cw)⟩
 case p1 =>
  rintro c st' ⟨rfl, m, rfl, m1, m2, U, hd⟩
  dsimp only
  simp only [beq_iff_eq]
  by_cases e1 : m = nrem
  ·rw [LO e1]
   exact wpS_pure (h m p st' S m1 m2 .rf U)
  rw [LP e1]
  have e1' : m < nrem := by lia
  clear e1
  by_cases e2 : m > 1
  ·rw [LO e2]
   refine wpS_bind (io hc S (hp p (.refl _)) (by lia) (by lia) ?_)
   dsimp only
   cases cw : lt (at' p lo) (at' p (lo + m - 1)) with
   | true =>
    rw [LO rfl]
    exact wpS_pure (h m p st' S m1 m2 .rf U)
   | false =>
    rw [LP (by decide)]
    have g0 := o.no _ _ cw
    refine wpS_bind (n8 S fun stx Sx => ?_)
    have same : ∀ i j, lo <= i -> i < lo + m -> lo <= j -> j < lo + m -> le (at' p i) (at' p j) := fun i j a1 a2 a3 a4 => o.tr _ _ _ (U i (lo + m - 1) a1 (by lia) (by lia)) (o.tr _ _ _ g0 (U lo j (LU _) a3 a4))
    have d0 : Dn le (kas_rev p lo (lo + m)) lo (lo + m) := fun i j a1 a2 a3 => by
     rw [cB (by lia), cB (by lia), LO (by lia), LO (by lia)]
     exact same _ _ (by lia) (by lia) (by lia) (by lia)
    have Dx : Dn le (kas_rev p lo (lo + m)) lo (lo + (m + 1)) := Dn.succ (b := lo + m) o d0 (by lia) (by
     rw [cB (by lia), cB (by lia), LP (by lia), LO (by lia)]
     exact o.tr _ _ _ (hd (by lia)) (same _ _ (by lia) (by lia) (by lia) (by lia)))
    have Nx : Near p (kas_rev p lo (lo + m)) lo (lo + (m + 1)) := (eV (by lia)).wide (LU _) (by lia)
    generalize kas_rev p lo (lo + m) = px at Sx Dx Nx
    refine wpS_bind (wpS_lift (wpAny_rule ⟨rfl, ?_⟩))
    refine wpS_bind (wpS_mono (wpS_forRange (I := fun x c st' => ∃ q p', c = (none, x, q) /\ Stt κ it st' p' pend /\ Near p p' lo (lo + x) /\ x <= nrem /\ q + 1 <= x /\ Dn le p' lo (lo + x) /\ Es le p' (lo + x - (q + 1)) (lo + x))
     (Q := fun c st' => ∃ x q p', c = (none, x, q) /\ m + 1 <= x /\ Stt κ it st' p' pend /\ Near p p' lo (lo + x) /\ x <= nrem /\ q + 1 <= x /\ Dn le p' lo (lo + x) /\ Es le p' (lo + x - (q + 1)) (lo + x)) ?s2 ?f2 ?i2) ?p2)
    case i2 => exact ⟨0, px, rfl, Sx, Nx, by lia, by lia, Dx, oZ o (by lia)⟩
    case f2 =>
     rintro c st' ⟨q, p', rfl, S', N', k1, k2, D', E'⟩
     exact ⟨_, q, p', rfl, by lia, S', N', k1, k2, D', E'⟩
    case s2 =>
     rintro x c st' hx0 hx ⟨q, p', rfl, S', N', k1, k2, D', E'⟩
     dsimp only
     have hs2 := N'.size
     refine wpS_bind (io hc S' (hp _ N'.1) (by lia) (by lia) ?_)
     dsimp only
     cases cw : lt (at' p' (lo + x)) (at' p' (lo + x - 1)) with
     | true =>
      rw [LO rfl]
      have hl := o.yes _ _ cw
      by_cases q0 : q > 0
      ·rw [LO q0]
       refine wpS_bind (n8 S' fun st4 S4 => wpS_pure ?_)
       have d1 := D'.rev o (by lia) (by lia) E'
       have b1 : at' (kas_rev p' (lo + x - (q + 1)) (lo + x)) (lo + x) = at' p' (lo + x) := by rw [cB (by lia), LP (by lia)]
       have b2 : at' (kas_rev p' (lo + x - (q + 1)) (lo + x)) (lo + x - 1) = at' p' (lo + x - (q + 1)) := by
        rw [cB (by lia), LO (by lia)]
        congr 1; lia
       exact ⟨0, _, rfl, S4, (N'.tr ((eV (by lia)).wide (by lia) (by lia))).wide (by lia) (by lia), by lia, by lia, Dn.succ (b := lo + x) o d1 (by lia) (by rw [b1, b2]; exact o.tr _ _ _ hl (E' _ (LU _) (by lia)).2), oZ o (by lia)⟩
      ·rw [LP q0]
       exact wpS_pure ⟨0, p', rfl, S', N'.wide (by lia) (by lia), by lia, by lia, Dn.succ (b := lo + x) o D' (by lia) hl, oZ o (by lia)⟩
     | false =>
      rw [LP (by decide)]
      have g1 := o.no _ _ cw
      refine wpS_bind (io hc S' (hp _ N'.1) (by lia) (by lia) ?_)
      dsimp only
      cases cw2 : lt (at' p' (lo + x - 1)) (at' p' (lo + x)) with
      | true =>
       rw [LO rfl]
       exact wpS_pure ⟨x, q, p', rfl, hx0, S', N', k1, k2, D', E'⟩
      | false =>
       rw [LP (by decide)]
       have g2 := o.no _ _ cw2
       refine wpS_pure ⟨q + 1, p', rfl, S', N'.wide (by lia) (by lia), by lia, by lia, Dn.succ (b := lo + x) o D' (by lia) g2, fun k a1 a2 => ?_⟩
       rw [show lo + (x + 1) - 1 = lo + x by lia]
       by_cases hk : k = lo + x
       ·subst hk; exact ⟨o.rf _, o.rf _⟩
       ·obtain ⟨x1, x2⟩ := E' k (by lia) (by lia)
        exact ⟨o.tr _ _ _ x1 g1, o.tr _ _ _ g2 x2⟩
    case p2 =>
     rintro c st' ⟨x, q, p', rfl, x1, S', N', x2, x3, D', E'⟩
     dsimp only
     have hs2 := N'.size
     by_cases q0 : q > 0
     ·rw [LO q0]
      refine wpS_bind (n8 S' fun stX SX => ?_)
      have DX := D'.rev o (by lia) (by lia) E'
      have NX := N'.tr ((eV (by lia)).wide (a := lo + x - (q + 1)) (b := lo + x) (d := lo) (e := lo + x) (by lia) (by lia))
      generalize kas_rev p' (lo + x - (q + 1)) (lo + x) = pX at SX DX NX
      refine wpS_bind (n8 SX fun st4 S4 => ?_)
      have hs4 := NX.size
      have N4 := NX.tr (eV (a := lo) (b := lo + x) (by lia))
      have U4 := DX.turn (by lia)
      refine wpS_bind (wpS_mono (wpS_forRange (I := fun y c st' => st' = st4 /\ c = (none, y) /\ y <= nrem /\ Up le (kas_rev pX lo (lo + x)) lo (lo + y))
       (Q := fun c st' => st' = st4 /\ ∃ y, c = (none, y) /\ x <= y /\ y <= nrem /\ Up le (kas_rev pX lo (lo + x)) lo (lo + y)) ?s3 ?f3 ?i3) ?p3)
      case i3 => exact ⟨rfl, rfl, x2, U4⟩
      case f3 =>
       rintro c st' ⟨rfl, rfl, k1, k2⟩
       exact ⟨rfl, _, rfl, by lia, k1, k2⟩
      case s3 =>
       rintro y c st' hy0 hy ⟨rfl, rfl, k1, k2⟩
       dsimp only
       have hs5 := N4.size
       refine wpS_bind (io hc S4 (hp _ N4.1) (by lia) (by lia) ?_)
       dsimp only
       cases cw : lt (at' (kas_rev pX lo (lo + x)) (lo + y)) (at' (kas_rev pX lo (lo + x)) (lo + y - 1)) with
       | true =>
        rw [LO rfl]
        exact wpS_pure ⟨rfl, y, rfl, hy0, k1, k2⟩
       | false =>
        rw [LP (by decide)]
        exact wpS_pure ⟨rfl, rfl, by lia, Up.succ (b := lo + y) o k2 (by lia) (o.no _ _ cw)⟩
      case p3 =>
       rintro c st' ⟨rfl, y, rfl, y1, y2, U⟩
       exact wpS_pure (h y _ st' S4 (by lia) y2 (N4.wide (LU _) (by lia)) U)
     ·rw [LP q0]
      have DX := D'
      have NX := N'
      have SX := S'
      generalize p' = pX at SX DX NX
      refine wpS_bind (n8 SX fun st4 S4 => ?_)
      have hs4 := NX.size
      have N4 := NX.tr (eV (a := lo) (b := lo + x) (by lia))
      have U4 := DX.turn (by lia)
      refine wpS_bind (wpS_mono (wpS_forRange (I := fun y c st' => st' = st4 /\ c = (none, y) /\ y <= nrem /\ Up le (kas_rev pX lo (lo + x)) lo (lo + y))
       (Q := fun c st' => st' = st4 /\ ∃ y, c = (none, y) /\ x <= y /\ y <= nrem /\ Up le (kas_rev pX lo (lo + x)) lo (lo + y)) ?s3 ?f3 ?i3) ?p3)
      case i3 => exact ⟨rfl, rfl, x2, U4⟩
      case f3 =>
       rintro c st' ⟨rfl, rfl, k1, k2⟩
       exact ⟨rfl, _, rfl, by lia, k1, k2⟩
      case s3 =>
       rintro y c st' hy0 hy ⟨rfl, rfl, k1, k2⟩
       dsimp only
       have hs5 := N4.size
       refine wpS_bind (io hc S4 (hp _ N4.1) (by lia) (by lia) ?_)
       dsimp only
       cases cw : lt (at' (kas_rev pX lo (lo + x)) (lo + y)) (at' (kas_rev pX lo (lo + x)) (lo + y - 1)) with
       | true =>
        rw [LO rfl]
        exact wpS_pure ⟨rfl, y, rfl, hy0, k1, k2⟩
       | false =>
        rw [LP (by decide)]
        exact wpS_pure ⟨rfl, rfl, by lia, Up.succ (b := lo + y) o k2 (by lia) (o.no _ _ cw)⟩
      case p3 =>
       rintro c st' ⟨rfl, y, rfl, y1, y2, U⟩
       exact wpS_pure (h y _ st' S4 (by lia) y2 (N4.wide (LU _) (by lia)) U)
  ·rw [LP e2]
   have m11 : m = 1 := by lia
   have Sx := S
   have Dx : Dn le p lo (lo + (m + 1)) := Dn.succ (b := lo + m) o (fun i j a1 a2 a3 => by
    have : i = j := by lia
    subst this; exact o.rf _) (by lia) (hd (by lia))
   have Nx : Near p p lo (lo + (m + 1)) := .rf
   obtain ⟨px, hpx⟩ : ∃ px, px = p := ⟨p, rfl⟩
   rw [<- hpx] at Sx Dx
   replace Nx : Near p px lo (lo + (m + 1)) := by rw [hpx]; exact .rf
   refine wpS_bind (wpS_lift (wpAny_rule ⟨rfl, ?_⟩))
   refine wpS_bind (wpS_mono (wpS_forRange (I := fun x c st' => ∃ q p', c = (none, x, q) /\ Stt κ it st' p' pend /\ Near p p' lo (lo + x) /\ x <= nrem /\ q + 1 <= x /\ Dn le p' lo (lo + x) /\ Es le p' (lo + x - (q + 1)) (lo + x))
    (Q := fun c st' => ∃ x q p', c = (none, x, q) /\ m + 1 <= x /\ Stt κ it st' p' pend /\ Near p p' lo (lo + x) /\ x <= nrem /\ q + 1 <= x /\ Dn le p' lo (lo + x) /\ Es le p' (lo + x - (q + 1)) (lo + x)) ?s2 ?f2 ?i2) ?p2)
   case i2 => exact ⟨0, px, rfl, Sx, Nx, by lia, by lia, Dx, oZ o (by lia)⟩
   case f2 =>
    rintro c st' ⟨q, p', rfl, S', N', k1, k2, D', E'⟩
    exact ⟨_, q, p', rfl, by lia, S', N', k1, k2, D', E'⟩
   case s2 =>
    rintro x c st' hx0 hx ⟨q, p', rfl, S', N', k1, k2, D', E'⟩
    dsimp only
    have hs2 := N'.size
    refine wpS_bind (io hc S' (hp _ N'.1) (by lia) (by lia) ?_)
    dsimp only
    cases cw : lt (at' p' (lo + x)) (at' p' (lo + x - 1)) with
    | true =>
     rw [LO rfl]
     have hl := o.yes _ _ cw
     by_cases q0 : q > 0
     ·rw [LO q0]
      refine wpS_bind (n8 S' fun st4 S4 => wpS_pure ?_)
      have d1 := D'.rev o (by lia) (by lia) E'
      have b1 : at' (kas_rev p' (lo + x - (q + 1)) (lo + x)) (lo + x) = at' p' (lo + x) := by rw [cB (by lia), LP (by lia)]
      have b2 : at' (kas_rev p' (lo + x - (q + 1)) (lo + x)) (lo + x - 1) = at' p' (lo + x - (q + 1)) := by
       rw [cB (by lia), LO (by lia)]
       congr 1; lia
      exact ⟨0, _, rfl, S4, (N'.tr ((eV (by lia)).wide (by lia) (by lia))).wide (by lia) (by lia), by lia, by lia, Dn.succ (b := lo + x) o d1 (by lia) (by rw [b1, b2]; exact o.tr _ _ _ hl (E' _ (LU _) (by lia)).2), oZ o (by lia)⟩
     ·rw [LP q0]
      exact wpS_pure ⟨0, p', rfl, S', N'.wide (by lia) (by lia), by lia, by lia, Dn.succ (b := lo + x) o D' (by lia) hl, oZ o (by lia)⟩
    | false =>
     rw [LP (by decide)]
     have g1 := o.no _ _ cw
     refine wpS_bind (io hc S' (hp _ N'.1) (by lia) (by lia) ?_)
     dsimp only
     cases cw2 : lt (at' p' (lo + x - 1)) (at' p' (lo + x)) with
     | true =>
      rw [LO rfl]
      exact wpS_pure ⟨x, q, p', rfl, hx0, S', N', k1, k2, D', E'⟩
     | false =>
      rw [LP (by decide)]
      have g2 := o.no _ _ cw2
      refine wpS_pure ⟨q + 1, p', rfl, S', N'.wide (by lia) (by lia), by lia, by lia, Dn.succ (b := lo + x) o D' (by lia) g2, fun k a1 a2 => ?_⟩
      rw [show lo + (x + 1) - 1 = lo + x by lia]
      by_cases hk : k = lo + x
      ·subst hk; exact ⟨o.rf _, o.rf _⟩
      ·obtain ⟨x1, x2⟩ := E' k (by lia) (by lia)
       exact ⟨o.tr _ _ _ x1 g1, o.tr _ _ _ g2 x2⟩
   case p2 =>
    rintro c st' ⟨x, q, p', rfl, x1, S', N', x2, x3, D', E'⟩
    dsimp only
    have hs2 := N'.size
    by_cases q0 : q > 0
    ·rw [LO q0]
     refine wpS_bind (n8 S' fun stX SX => ?_)
     have DX := D'.rev o (by lia) (by lia) E'
     have NX := N'.tr ((eV (by lia)).wide (a := lo + x - (q + 1)) (b := lo + x) (d := lo) (e := lo + x) (by lia) (by lia))
     generalize kas_rev p' (lo + x - (q + 1)) (lo + x) = pX at SX DX NX
     refine wpS_bind (n8 SX fun st4 S4 => ?_)
     have hs4 := NX.size
     have N4 := NX.tr (eV (a := lo) (b := lo + x) (by lia))
     have U4 := DX.turn (by lia)
     refine wpS_bind (wpS_mono (wpS_forRange (I := fun y c st' => st' = st4 /\ c = (none, y) /\ y <= nrem /\ Up le (kas_rev pX lo (lo + x)) lo (lo + y))
      (Q := fun c st' => st' = st4 /\ ∃ y, c = (none, y) /\ x <= y /\ y <= nrem /\ Up le (kas_rev pX lo (lo + x)) lo (lo + y)) ?s3 ?f3 ?i3) ?p3)
     case i3 => exact ⟨rfl, rfl, x2, U4⟩
     case f3 =>
      rintro c st' ⟨rfl, rfl, k1, k2⟩
      exact ⟨rfl, _, rfl, by lia, k1, k2⟩
     case s3 =>
      rintro y c st' hy0 hy ⟨rfl, rfl, k1, k2⟩
      dsimp only
      have hs5 := N4.size
      refine wpS_bind (io hc S4 (hp _ N4.1) (by lia) (by lia) ?_)
      dsimp only
      cases cw : lt (at' (kas_rev pX lo (lo + x)) (lo + y)) (at' (kas_rev pX lo (lo + x)) (lo + y - 1)) with
      | true =>
       rw [LO rfl]
       exact wpS_pure ⟨rfl, y, rfl, hy0, k1, k2⟩
      | false =>
       rw [LP (by decide)]
       exact wpS_pure ⟨rfl, rfl, by lia, Up.succ (b := lo + y) o k2 (by lia) (o.no _ _ cw)⟩
     case p3 =>
      rintro c st' ⟨rfl, y, rfl, y1, y2, U⟩
      exact wpS_pure (h y _ st' S4 (by lia) y2 (N4.wide (LU _) (by lia)) U)
    ·rw [LP q0]
     have DX := D'
     have NX := N'
     have SX := S'
     generalize p' = pX at SX DX NX
     refine wpS_bind (n8 SX fun st4 S4 => ?_)
     have hs4 := NX.size
     have N4 := NX.tr (eV (a := lo) (b := lo + x) (by lia))
     have U4 := DX.turn (by lia)
     refine wpS_bind (wpS_mono (wpS_forRange (I := fun y c st' => st' = st4 /\ c = (none, y) /\ y <= nrem /\ Up le (kas_rev pX lo (lo + x)) lo (lo + y))
      (Q := fun c st' => st' = st4 /\ ∃ y, c = (none, y) /\ x <= y /\ y <= nrem /\ Up le (kas_rev pX lo (lo + x)) lo (lo + y)) ?s3 ?f3 ?i3) ?p3)
     case i3 => exact ⟨rfl, rfl, x2, U4⟩
     case f3 =>
      rintro c st' ⟨rfl, rfl, k1, k2⟩
      exact ⟨rfl, _, rfl, by lia, k1, k2⟩
     case s3 =>
      rintro y c st' hy0 hy ⟨rfl, rfl, k1, k2⟩
      dsimp only
      have hs5 := N4.size
      refine wpS_bind (io hc S4 (hp _ N4.1) (by lia) (by lia) ?_)
      dsimp only
      cases cw : lt (at' (kas_rev pX lo (lo + x)) (lo + y)) (at' (kas_rev pX lo (lo + x)) (lo + y - 1)) with
      | true =>
       rw [LO rfl]
       exact wpS_pure ⟨rfl, y, rfl, hy0, k1, k2⟩
      | false =>
       rw [LP (by decide)]
       exact wpS_pure ⟨rfl, rfl, by lia, Up.succ (b := lo + y) o k2 (by lia) (o.no _ _ cw)⟩
     case p3 =>
      rintro c st' ⟨rfl, y, rfl, y1, y2, U⟩
      exact wpS_pure (h y _ st' S4 (by lia) y2 (N4.wide (LU _) (by lia)) U)
end
section
variable {le : Nat -> Nat -> Prop} {p p' : Array Nat} {a b c : Nat}
noncomputable def Rn (le : Nat -> Nat -> Prop) (p : Array Nat) : Nat -> List (Nat × Nat × Nat) -> Nat -> Prop
 | a, [], b => a = b
 | a, e :: es, b => e.1 = a /\ 1 <= e.2.1 /\ Up le p a (a + e.2.1) /\ Rn le p (a + e.2.1) es b
theorem Rn.len_le : ∀ {l : List (Nat × Nat × Nat)} {a : Nat}, Rn le p a l b -> a + l.length <= b
 | [], a, h => by have : a = b := h; simp [this]
 | e :: es, a, h => by
  have := Rn.len_le h.2.2.2
  have := h.2.1
  simp; lia
theorem Rn.of : ∀ {l : List (Nat × Nat × Nat)} {a : Nat}, Rn le p a l b -> (∀ k, a <= k -> k < b -> at' p' k = at' p k) -> Rn le p' a l b
 | [], a, h, _ => h
 | e :: es, a, h, k => ⟨h.1, h.2.1, h.2.2.1.of fun i h1 h2 => k i h1 (by have := Rn.len_le h.2.2.2; lia), Rn.of h.2.2.2 fun i h1 h2 => k i (by lia) h2⟩
theorem Rn.app : ∀ {l l' : List (Nat × Nat × Nat)} {a : Nat}, Rn le p a (l ++ l') b -> ∃ c, Rn le p a l c /\ Rn le p c l' b
 | [], l', a, h => ⟨a, rfl, h⟩
 | e :: es, l', a, h => by
  obtain ⟨c, h1, h2⟩ := Rn.app h.2.2.2
  exact ⟨c, ⟨h.1, h.2.1, h.2.2.1, h1⟩, h2⟩
theorem Rn.put : ∀ {l l' : List (Nat × Nat × Nat)} {a : Nat}, Rn le p a l c -> Rn le p c l' b -> Rn le p a (l ++ l') b
 | [], l', a, h, h2 => by have : a = c := h; subst this; exact h2
 | e :: es, l', a, h, h2 => ⟨h.1, h.2.1, h.2.2.1, Rn.put h.2.2.2 h2⟩
theorem Rn.same : ∀ {l l' : List (Nat × Nat × Nat)} {a : Nat}, (l.map fun e => (e.1, e.2.1)) = (l'.map fun e => (e.1, e.2.1)) -> Rn le p a l b -> Rn le p a l' b
 | [], [], a, _, h => h
 | [], _ :: _, a, h, _ => by simp at h
 | _ :: _, [], a, h, _ => by simp at h
 | e :: es, e' :: es', a, h, k => by
  simp only [L1, List.cons.injEq, Prod.mk.injEq] at h
  obtain ⟨⟨h1, h2⟩, h3⟩ := h
  obtain ⟨k1, k2, k3, k4⟩ := k
  rw [h1] at k1
  rw [h2] at k2 k3 k4
  exact ⟨k1, k2, k3, Rn.same h3 k4⟩
theorem Fp {c : Prop} [Decidable c] {k m : Nat} (h : k + 1 < m) : (if c then k - 1 else k) + 1 < m := by split <;> lia
theorem G0 {α : Type} (x z : α) (r : List α) : ∀ pre : List α, (pre ++ x :: r).set pre.length z = pre ++ z :: r
 | [] => rfl
 | y :: pre => by simp
theorem Ek {α : Type} (z y : α) (r : List α) : ∀ pre : List α, (pre ++ z :: y :: r).eraseIdx (pre.length + 1) = pre ++ z :: r
 | [] => rfl
 | x :: pre => by
  have := Ek z y r pre
  simp only [List.cons_append, Mh, List.eraseIdx_cons_succ, this]
theorem G1 {α : Type} {l : List α} {i : Nat} (h : i + 1 < l.length) : ∃ pre x y post, l = pre ++ x :: y :: post /\ pre.length = i := by
 refine ⟨l.take i, l[i], l[i + 1], l.drop (i + 2), ?_, by rw [List.length_take]; lia⟩
 rw [<- List.drop_eq_getElem_cons h, <- List.drop_eq_getElem_cons (by lia), List.take_append_drop]
end
section
variable {prog : Program} {w : World} {A : Around} {E : Value -> Shared -> Prop} {s : Shared} {κ : SortKind} {it : Array Keyed} {n : Nat} {lt : Nat -> Nat -> Bool} {le : Nat -> Nat -> Prop} {p : Array Nat} {pend : Array (Nat × Nat × Nat)} {st : SortSt}
theorem pp (o : Ord lt le) (hc : uD prog w A s κ it n lt) (S : Stt κ it st p pend) (hp : ∀ i, i < p.size -> at' p i < n) {i b : Nat} {Q : Bool -> SortSt -> Prop} (hi : i + 1 < pend.size) (R : Rn le p 0 pend.toList b) (hb : b <= p.size)
  (h : ∀ p' pend' st', Stt κ it st' p' pend' -> Near p p' 0 b -> Rn le p' 0 pend'.toList b -> pend'.size + 1 = pend.size -> Q true st') : wpS (model prog w) A E s (mergeAt' i) Q st := by
 obtain ⟨pre, ⟨sa, na, pw⟩, ⟨sb, nb, q⟩, post, e, hl⟩ := G1 (l := pend.toList) (i := i) (by simpa using hi)
 rw [e] at R
 obtain ⟨c, R1, R2⟩ := R.app
 obtain ⟨r1, r2, r3, r4, r5, r6, r7⟩ := R2
 dsimp only at r1 r2 r3 r4 r5 r6 r7
 subst r1
 have hle := r7.len_le
 have g1 : pend[i]? = some (sa, na, pw) := by rw [<- MX, e, MY (by lia)]; simp [hl]
 have g2 : pend[i + 1]? = some (sb, nb, q) := by rw [<- MX, e, MY (by lia)]; simp [hl]
 refine CP o hc S g1 g2 r4 r2 r5 (by lia) hp (fun i j a1 a2 => r3 _ _ (by lia) (by lia) (by lia)) (fun i j a1 a2 => r6 _ _ (by lia) (by lia) (by lia)) fun p' st' S' so => ?_
 have en : ((pend.setIfInBounds i (sa, na + nb, pw)).eraseIdxIfInBounds (i + 1)).toList = pre ++ (sa, na + nb, pw) :: post := by
  have h2 : i + 1 < (pend.setIfInBounds i (sa, na + nb, pw)).size := by simpa using hi
  rw [Array.eraseIdxIfInBounds, dif_pos h2, Array.toList_eraseIdx, Array.toList_setIfInBounds, e, <- hl]
  rw [G0, Ek]
 have hle1 := R1.len_le
 refine h p' _ st' S' ⟨so.perm, fun k hk => so.out k (by lia)⟩ ?_ ?_
 ·rw [en]
  refine Rn.put (R1.of fun k _ h2 => so.out k (by lia)) ⟨rfl, by dsimp only; lia, fun i j a1 a2 a3 => so.asc i j a1 a2 a3, ?_⟩
  dsimp only
  rw [show sa + (na + nb) = sa + na + nb by lia]
  exact r7.of fun k h1 h2 => so.out k (by lia)
 ·have e4 := congrArg List.length en
  have e3 := congrArg List.length e
  rw [MQ] at e4 e3
  rw [e4, e3]
  simp only [LZ, Mh]
  lia
theorem GL (o : Ord lt le) (hc : uD prog w A s κ it n lt) (S : Stt κ it st p #[]) (hp : ∀ p' : Array Nat, p'.Perm p -> ∀ i, i < p'.size -> at' p' i < n) {Q : Unit -> SortSt -> Prop}
  (h : ∀ p' pend' st', Stt κ it st' p' pend' -> p'.Perm p -> Up le p' 0 p.size -> Q () st') : wpS (model prog w) A E s sortRuns' Q st := by
 rw [sortRuns'_eq]
 refine wpS_bind (wpS_get ?_)
 dsimp only
 rw [S.2.1, Array.size_map]
 generalize minRun' p.size p.size 0 = minrun
 refine wpS_bind (wpS_mono (wpS_forRange (I := fun x c st' => ∃ lo p' pend', c = (none, lo) /\ Stt κ it st' p' pend' /\ p'.Perm p /\ Rn le p' 0 pend'.toList lo /\ lo <= p.size /\ x <= lo)
  (Q := fun c st' => ∃ p' pend', c.1 = none /\ Stt κ it st' p' pend' /\ p'.Perm p /\ Rn le p' 0 pend'.toList p.size) ?s1 ?f1 ?i1) ?p1)
 case i1 => exact ⟨0, p, #[], rfl, S, .refl _, rfl, by lia, by lia⟩
 case f1 =>
  rintro c st' ⟨lo, p', pend', rfl, S', P', R', l1, l2⟩
  have : lo = p.size := by lia
  subst this
  exact ⟨p', pend', rfl, S', P', R'⟩
 case s1 =>
  rintro x c st' _ hx ⟨lo, p', pend', rfl, S', P', R', l1, l2⟩
  dsimp only
  by_cases e1 : lo ≥ p.size
  ·rw [LO e1]
   have : lo = p.size := by lia
   subst this
   exact wpS_pure ⟨p', pend', rfl, S', P', R'⟩
  rw [LP e1]
  have hs' := P'.size_eq
  refine wpS_bind (Fu o hc S' (fun q hq => hp q (hq.trans P')) (by lia) (by lia) fun m p2 st2 S2 m1 m2 N2 U2 => ?_)
  have P2 := N2.1.trans P'
  have hs2 := P2.size_eq
  have R2 : Rn le p2 0 pend'.toList lo := R'.of fun k _ h2 => N2.2 k (.inl h2)
  dsimp only
  by_cases e2 : m < minrun
  ·rw [LO e2]
   refine wpS_bind (wpS_lift (wpAny_rule ⟨rfl, ?_⟩))
   refine wpS_bind (Iu o hc S2 (fun q hq => hp q (hq.trans P2)) (m := min (p.size - lo) minrun) (by lia) (by lia) m1 U2 fun p3 st3 S3 N3 U3 => ?_)
   replace R2 : Rn le p3 0 pend'.toList lo := R2.of fun k _ h2 => N3.2 k (.inl h2)
   replace P2 := N3.1.trans P2
   replace S2 := S3
   replace U2 := U3
   have hnn : 1 <= min (p.size - lo) minrun := by lia
   have hnn2 : lo + min (p.size - lo) minrun <= p.size := by lia
   clear S3 U3 N3 N2 hs2
   generalize min (p.size - lo) minrun = nn at *
   rw [LP (by decide)]
   clear st2 p2
   generalize p3 = p2 at *
   generalize st3 = st2 at *
   refine wpS_bind (wpS_get ?_)
   rw [S2.2.2.1]
   cases hbk : pend'.back? with
   | none =>
    dsimp only
    refine wpS_bind (wpS_modify (wpS_pure ⟨lo + nn, p2, pend'.push (lo, nn, 0), rfl, ⟨S2.1, S2.2.1, ?_, S2.2.2.2⟩, P2, ?_, by lia, by lia⟩))
    ·show (pendingOf st2).push _ = _
     rw [S2.2.2.1]
    ·rw [Array.toList_push]
     exact R2.put ⟨rfl, hnn, U2, rfl⟩
   | some e =>
    obtain ⟨s1, n1, z1⟩ := e
    dsimp only
    generalize power' _ _ _ _ = pw
    refine wpS_bind (wpS_mono (wpS_forRange (I := fun y c st3 => c = (none, ()) /\ ∃ p3 pend3, Stt κ it st3 p3 pend3 /\ p3.Perm p /\ Rn le p3 0 pend3.toList lo /\ Up le p3 lo (lo + nn))
     (Q := fun c st3 => c = (none, ()) /\ ∃ p3 pend3, Stt κ it st3 p3 pend3 /\ p3.Perm p /\ Rn le p3 0 pend3.toList lo /\ Up le p3 lo (lo + nn)) ?s2 ?f2 ?i2) ?p2)
    case i2 => exact ⟨rfl, p2, pend', S2, P2, R2, U2⟩
    case f2 => exact fun c st3 h => h
    case s2 =>
     rintro y c st3 _ hy ⟨rfl, p3, pend3, S3, P3, R3, U3⟩
     refine wpS_bind (wpS_get ?_)
     rw [S3.2.2.1]
     by_cases c1 : pend3.size > 1
     ·rw [LO c1]
      cases hg : pend3[pend3.size - 2]? with
      | none => exact wpS_pure ⟨rfl, p3, pend3, S3, P3, R3, U3⟩
      | some e =>
       obtain ⟨z2, z3, older⟩ := e
       dsimp only
       by_cases c2 : older <= pw
       ·rw [LO c2]
        exact wpS_pure ⟨rfl, p3, pend3, S3, P3, R3, U3⟩
       ·rw [LP c2]
        have hs3 := P3.size_eq
        refine wpS_bind (pp o hc S3 (hp _ P3) (i := pend3.size - 2) (by lia) R3 (by lia) fun p4 pend4 st4 S4 N4 R4 _ => ?_)
        exact wpS_pure ⟨rfl, p4, pend4, S4, N4.1.trans P3, R4, U3.of fun i h1 h2 => N4.2 i (.inr h1)⟩
     ·rw [LP c1]
      exact wpS_pure ⟨rfl, p3, pend3, S3, P3, R3, U3⟩
    case p2 =>
     rintro c st3 ⟨rfl, p3, pend3, S3, P3, R3, U3⟩
     dsimp only
     refine wpS_bind (wpS_modify (wpS_bind (wpS_modify (wpS_pure ⟨lo + nn, p3, (pend3.modify (pend3.size - 1) fun e => (e.1, e.2.1, pw)).push (lo, nn, 0), rfl, ⟨S3.1, S3.2.1, ?_, S3.2.2.2⟩, P3, ?_, by lia, by lia⟩))))
     ·show ((pendingOf st3).modify ((pendingOf st3).size - 1) _).push _ = _
      rw [S3.2.2.1]
     ·rw [Array.toList_push]
      refine Rn.put (R3.same ?_) ⟨rfl, hnn, U3, rfl⟩
      apply List.ext_getElem?
      intro k
      rw [L3, L3, MX, MX, Array.getElem?_modify]
      split
      ·cases pend3[k]? <;> rfl
      ·rfl
  ·rw [LP e2]
   have hnn := m1
   have hnn2 : lo + m <= p.size := by lia
   refine wpS_bind (wpS_get ?_)
   rw [S2.2.2.1]
   cases hbk : pend'.back? with
   | none =>
    dsimp only
    refine wpS_bind (wpS_modify (wpS_pure ⟨lo + m, p2, pend'.push (lo, m, 0), rfl, ⟨S2.1, S2.2.1, ?_, S2.2.2.2⟩, P2, ?_, by lia, by lia⟩))
    ·show (pendingOf st2).push _ = _
     rw [S2.2.2.1]
    ·rw [Array.toList_push]
     exact R2.put ⟨rfl, hnn, U2, rfl⟩
   | some e =>
    obtain ⟨s1, n1, z1⟩ := e
    dsimp only
    generalize power' _ _ _ _ = pw
    refine wpS_bind (wpS_mono (wpS_forRange (I := fun y c st3 => c = (none, ()) /\ ∃ p3 pend3, Stt κ it st3 p3 pend3 /\ p3.Perm p /\ Rn le p3 0 pend3.toList lo /\ Up le p3 lo (lo + m))
     (Q := fun c st3 => c = (none, ()) /\ ∃ p3 pend3, Stt κ it st3 p3 pend3 /\ p3.Perm p /\ Rn le p3 0 pend3.toList lo /\ Up le p3 lo (lo + m)) ?s2 ?f2 ?i2) ?p2)
    case i2 => exact ⟨rfl, p2, pend', S2, P2, R2, U2⟩
    case f2 => exact fun c st3 h => h
    case s2 =>
     rintro y c st3 _ hy ⟨rfl, p3, pend3, S3, P3, R3, U3⟩
     refine wpS_bind (wpS_get ?_)
     rw [S3.2.2.1]
     by_cases c1 : pend3.size > 1
     ·rw [LO c1]
      cases hg : pend3[pend3.size - 2]? with
      | none => exact wpS_pure ⟨rfl, p3, pend3, S3, P3, R3, U3⟩
      | some e =>
       obtain ⟨z2, z3, older⟩ := e
       dsimp only
       by_cases c2 : older <= pw
       ·rw [LO c2]
        exact wpS_pure ⟨rfl, p3, pend3, S3, P3, R3, U3⟩
       ·rw [LP c2]
        have hs3 := P3.size_eq
        refine wpS_bind (pp o hc S3 (hp _ P3) (i := pend3.size - 2) (by lia) R3 (by lia) fun p4 pend4 st4 S4 N4 R4 _ => ?_)
        exact wpS_pure ⟨rfl, p4, pend4, S4, N4.1.trans P3, R4, U3.of fun i h1 h2 => N4.2 i (.inr h1)⟩
     ·rw [LP c1]
      exact wpS_pure ⟨rfl, p3, pend3, S3, P3, R3, U3⟩
    case p2 =>
     rintro c st3 ⟨rfl, p3, pend3, S3, P3, R3, U3⟩
     dsimp only
     refine wpS_bind (wpS_modify (wpS_bind (wpS_modify (wpS_pure ⟨lo + m, p3, (pend3.modify (pend3.size - 1) fun e => (e.1, e.2.1, pw)).push (lo, m, 0), rfl, ⟨S3.1, S3.2.1, ?_, S3.2.2.2⟩, P3, ?_, by lia, by lia⟩))))
     ·show ((pendingOf st3).modify ((pendingOf st3).size - 1) _).push _ = _
      rw [S3.2.2.1]
     ·rw [Array.toList_push]
      refine Rn.put (R3.same ?_) ⟨rfl, hnn, U3, rfl⟩
      apply List.ext_getElem?
      intro k
      rw [L3, L3, MX, MX, Array.getElem?_modify]
      split
      ·cases pend3[k]? <;> rfl
      ·rfl
 case p1 =>
  rintro ⟨c, c'⟩ st' ⟨p', pend', hc1, S', P', R'⟩
  dsimp only at hc1
  subst hc1
  dsimp only
  refine wpS_bind (wpS_mono (wpS_forRange (I := fun x c st' => ∃ p' pend', c = (none, ()) /\ Stt κ it st' p' pend' /\ p'.Perm p /\ Rn le p' 0 pend'.toList p.size /\ pend'.size + x <= p.size)
   (Q := fun c st' => ∃ p' pend', c = (none, ()) /\ Stt κ it st' p' pend' /\ p'.Perm p /\ Rn le p' 0 pend'.toList p.size /\ pend'.size <= 1) ?s5 ?f5 ?i5) ?p5)
  case i5 => exact ⟨p', pend', rfl, S', P', R', by have := R'.len_le; rw [MQ] at this; lia⟩
  case f5 =>
   rintro c st' ⟨p', pend', rfl, S', P', R', hl⟩
   exact ⟨p', pend', rfl, S', P', R', by lia⟩
  case s5 =>
   rintro x c st' _ hx ⟨p', pend', rfl, S', P', R', hl⟩
   refine wpS_bind (wpS_get ?_)
   rw [S'.2.2.1]
   by_cases e1 : pend'.size <= 1
   ·rw [LO e1]
    exact wpS_pure ⟨p', pend', rfl, S', P', R', e1⟩
   rw [LP e1]
   have hs' := P'.size_eq
   refine wpS_bind (pp o hc S' (hp _ P') ?_ R' (by lia) fun p4 pend4 st4 S4 N4 R4 h4 => ?_)
   ·exact Fp (by lia)
   ·exact wpS_pure ⟨p4, pend4, rfl, S4, N4.1.trans P', R4, by lia⟩
  case p5 =>
   rintro c st' ⟨p', pend', rfl, S', P', R', hl⟩
   refine wpS_pure (h p' pend' st' S' P' ?_)
   cases hq : pend'.toList with
   | nil =>
    rw [hq] at R'
    have : 0 = p.size := R'
    intro i j _ _ h3
    lia
   | cons e es =>
    cases es with
    | nil =>
     rw [hq] at R'
     obtain ⟨r1, r2, r3, r4⟩ := R'
     have r4' : 0 + e.2.1 = p.size := r4
     rw [<- r4']
     exact r3
    | cons e2 es =>
     have := congrArg List.length hq
     rw [MQ] at this
     simp at this
     lia
end
section
variable {prog : Program} {w : World} {A : Around} {E : Value -> Shared -> Prop} {s : Shared}
structure Known (prog : Program) (w : World) (s : Shared) (vs : List Value) (κ : SortKind) (lt : Nat -> Nat -> Bool) : Prop where
 kind : ∀ (A : Around) (E : Value -> Shared -> Prop) (h' : Heap) (Q : SortKind -> Shared -> Prop), (∀ b o, s.heap.get? b = some o -> h'.get? b = some o) -> 2 <= vs.length -> Q κ { s with heap := h' } -> wpAny (model prog w) A (keyKind' vs.toArray) Q E { s with heap := h' }
 ask : ∀ (A : Around) (h' : Heap) (i j : Nat) (C : Bool -> Shared -> Prop), (∀ b o, s.heap.get? b = some o -> h'.get? b = some o) -> i < vs.length -> j < vs.length -> C (lt i j) { s with heap := h' } -> kas_ask prog w A κ vs i j C { s with heap := h' }
theorem Known.on {vs : List Value} {κ : SortKind} {lt : Nat -> Nat -> Bool} {h : Heap} (k : Known prog w s vs κ lt) (hk : ∀ b o, s.heap.get? b = some o -> h.get? b = some o) : Known prog w { s with heap := h } vs κ lt :=
 ⟨fun A E h' Q h2 => k.kind A E h' Q fun b o e => h2 b o (hk b o e), fun A h' i j C h2 => k.ask A h' i j C fun b o e => h2 b o (hk b o e)⟩
noncomputable def kf (vs : List Value) (p : Array Nat) : Array Value := (p.toList.map fun i => vs.getD i Value.none).toArray
theorem Ax {vs : List Value} {p : Array Nat} (h : p.size = vs.length) : (kf vs p).size = vs.length := by
 unfold kf; simp [h]
theorem xX {vs : List Value} : kf vs (List.range vs.length).toArray = vs.toArray := by
 unfold kf
 congr 1
 apply List.ext_getElem
 ·simp
 ·intro i h1 h2
  simp at h1
  simp [h1]
theorem FY {le : Nat -> Nat -> Prop} (rf : ∀ a, le a a) {n : Nat} (h : n < 2) (p : Array Nat) : Asc le p n := fun i j hij hj => by
 have e : i = j := by lia
 subst e; exact rf _
theorem DN {a : Addr} {vs : List Value} {n : Nat} {κ : SortKind} {lt : Nat -> Nat -> Bool} {le : Nat -> Nat -> Prop} {P : PySem.Fin -> Shared -> Prop} (o : Ord lt le) (ho : s.heap.get? a = some (seqObj "list" vs.toArray n)) (hN : vs.length <= sizeLine)
  (hk : ∀ h', (∀ b o, b ≠ a -> s.heap.get? b = some o -> h'.get? b = some o) -> Known prog w { s with heap := h' } vs κ lt)
  (h : ∀ p : Array Nat, p.Perm (List.range vs.length).toArray -> Asc le p vs.length -> P (.done (.ret .none)) { s with heap := sortedHeap s.heap a vs (kf vs p) }) : wpAny (model prog w) A (Builtin.«list.sort» ⟨[.ref a], []⟩) P E s := by
 have ha : a < s.heap.objs.size := L5 ho
 obtain ⟨e1, ho1⟩ : ∃ e1, (s.heap.update a (Obj.mapSeq fun _ => #[])).get? a = some (seqObj "list" #[] e1) := ⟨_, get?_update_seq ho fun _ => #[]⟩
 have ne1 : a ≠ ((s.heap.update a (Obj.mapSeq fun _ => #[])).push (seqObj "tuple" vs.toArray 0)).objs.size := by rw [size_push', Heap.size_update]; exact Mi (Nat.lt_succ_of_lt ha)
 have ne2 : a ≠ (s.heap.update a (Obj.mapSeq fun _ => #[])).objs.size := by rw [Heap.size_update]; exact Mi ha
 have ho6 : (((s.heap.update a (Obj.mapSeq fun _ => #[])).push (seqObj "tuple" vs.toArray 0)).push (seqObj "list" #[] 0)).get? a = some (seqObj "list" #[] e1) := by rw [Heap.get?_push_ne _ _ _ ne1, Heap.get?_push_ne _ _ _ ne2, ho1]
 have keep : ∀ b q, b ≠ a -> s.heap.get? b = some q -> (((s.heap.update a (Obj.mapSeq fun _ => #[])).push (seqObj "tuple" vs.toArray 0)).push (seqObj "list" #[] 0)).get? b = some q := fun b q hb hq =>
  Mg _ (Mg _ ((Heap.get?_update_ne _ _ _ _ hb).trans hq))
 have K := hk _ keep
 rw [list_sort_plain]; refine LQ (listItems_at ho rfl (LQ (listUpdate_at ho rfl (LQ (seqEpoch_at ho1 rfl (LQ (wpAny_newTuple (LQ (wpAny_newList (My ?_))))))))))
 dsimp only
 have hn : vs.toArray.size = vs.length := by simp
 have fin : ∀ (p : Array Nat) (st : SortSt), p.Perm (List.range vs.length).toArray -> Asc le p vs.length -> (arrOf st).map (·.2) = kf vs p -> failedOf st = none ->
   wpAny (model prog w) A (do
    let touched := (← seqEpoch a) != e1
    Builtin.List.listUpdate (.ref a) fun _ => (arrOf st).map (·.2)
    if let some e := failedOf st then rule "list.sort.comparison-raised"; throw e
    if touched then rule "list.sort.modified"; raiseError "ValueError" "list modified during sort"
    ret .none) P E { s with heap := ((s.heap.update a (Obj.mapSeq fun _ => #[])).push (seqObj "tuple" vs.toArray 0)).push (seqObj "list" #[] 0) } := fun p st hp hs ho2 hf => by
  have hz : (kf vs p).size <= sizeLine + 1 := by
   rw [Ax (by rw [hp.size_eq]; simp)]; lia
  rw [ho2, hf]
  refine LQ (seqEpoch_at ho6 rfl (LQ (listUpdate_at ho6 rfl ?_ (hsz2 := hz))))
  simp only [bne_self_eq_false, Bool.false_eq_true, if_false]
  exact LS (h p hp hs)
 by_cases h2 : vs.toArray.size < 2
 ·rw [LO h2, LO h2]
  refine LQ (LS ?_)
  rw [StateT.run_pure]
  refine LQ (LS (fin (List.range vs.length).toArray _ (Array.Perm.refl _) (FY o.rf (by lia) _) ?_ rfl))
  rw [xX]
  show ((vs.toArray.zip vs.toArray).map (·.2)) = vs.toArray
  apply Array.ext
  ·simp
  ·intro i h1 h2; simp
 ·rw [LP h2, LP h2]
  refine LQ (K.kind _ _ _ _ (fun _ _ e => e) (by lia) ?_)
  have pos : 0 < vs.length := by lia
  have perm0 : ∀ p' : Array Nat, p'.Perm (List.range vs.length).toArray -> ∀ i, i < p'.size -> at' p' i < vs.length := fun p' h' i _ => Hn pos h' i
  have esz : (vs.toArray.zip vs.toArray).size = vs.length := by simp
  have er := kas_range (vs.toArray.zip vs.toArray)
  rw [esz] at er
  have run := GL (prog := prog) (w := w) (A := A) (E := E) (κ := κ) (it := vs.toArray.zip vs.toArray) (n := vs.length) (lt := lt) (le := le) (p := (List.range vs.length).toArray) (st := SortSt.mk' κ (vs.toArray.zip vs.toArray) #[] 7 none)
   (s := { s with heap := ((s.heap.update a (Obj.mapSeq fun _ => #[])).push (seqObj "tuple" vs.toArray 0)).push (seqObj "list" #[] 0) })
   (Q := fun _ st => ∃ p : Array Nat, (arrOf st).map (·.2) = kf vs p /\ failedOf st = none /\ p.Perm (List.range vs.length).toArray /\ Asc le p vs.length) o
   (fun i j C hi hj hc => by rw [<- kat_ask_eq (ks := vs) (vs := vs) rfl]; exact K.ask _ _ i j C (fun _ _ e => e) hi hj hc) ⟨rfl, er.symm, rfl, rfl⟩ perm0
   (fun p' pend' st' S' hp hu => ⟨p', kat_snds rfl S'.2.1, S'.2.2.2, hp, fun i j hij hj => hu i j (Mr _) hij (by simpa using hj)⟩)
  refine LQ (wpAny_mono run (fun r s' hr => ?_) fun _ _ e => e)
  ·obtain ⟨rfl, p, e2, hf, hp, hs⟩ := hr
   exact fin p r.2 hp hs e2 hf
theorem uY {l : Addr} {vs : List Value} {κ : SortKind} {lt : Nat -> Nat -> Bool} {le : Nat -> Nat -> Prop} {Q : Value -> Shared -> Prop} (o : Ord lt le) (hl : s.heap.IsList l vs.toArray) (hN : vs.length <= sizeLine) (hk : Known prog w s vs κ lt)
  (h : ∀ p : Array Nat, p.Perm (List.range vs.length).toArray -> Asc le p vs.length -> Q (.ref (s.heap.objs.size + 1)) { s with heap := sortedAll s.heap vs (kf vs p) }) : wpAny (model prog w) A (call (.builtin "sorted") [.ref l]) Q E s := by
 have hz : vs.length <= sizeLine := hN
 have sz : ((s.heap.push (seqObj "list" #[] 0)).update s.heap.objs.size (Obj.mapSeq (· ++ vs.toArray))).objs.size = s.heap.objs.size + 1 := by rw [Heap.size_update, size_push']
 have at1 : (((s.heap.push (seqObj "list" #[] 0)).update s.heap.objs.size (Obj.mapSeq (· ++ vs.toArray))).push (seqObj "list" vs.toArray 0)).get? (s.heap.objs.size + 1) = some (seqObj "list" vs.toArray 0) := by rw [<- sz]; exact Mu _ rfl
 have old : ∀ b q, s.heap.get? b = some q -> b ≠ s.heap.objs.size + 1 /\ (((s.heap.push (seqObj "list" #[] 0)).update s.heap.objs.size (Obj.mapSeq (· ++ vs.toArray))).push (seqObj "list" vs.toArray 0)).get? b = some q := fun b q e => by
  have hb := L5 e
  refine ⟨Mi (Nat.lt_succ_of_lt hb), Mg _ ?_⟩
  rw [Heap.get?_update_ne _ _ _ _ (Mi hb)]
  exact Mg _ e
 refine Calls.call_function_entry kind_sorted plain_sorted entry_sorted (args_sorted1 (.ref l)) ?_; unfold Builtin.«sorted»
 refine LQ (m := checkCount "sorted" 1 1 _) (LS (LQ (collect_list hl (LQ (wpAny_newList ?_ hz)) hz)))
 show wpAny (model prog w) _ _ _ _ { s with heap := ((s.heap.push (seqObj "list" #[] 0)).update s.heap.objs.size (Obj.mapSeq (· ++ vs.toArray))).push (seqObj "list" vs.toArray 0) }
 rw [sz]
 refine LQ (My (wpAny_call_entry slot_list_sort ⟨_, at1, rfl⟩ entry_list_sort (DN (κ := κ) (le := le) o at1 hN (fun h' kp => ?_) fun p hp hs => ⟨_, rfl, LS ⟨_, rfl, h p hp hs⟩⟩) (args_list_sort _)))
 exact hk.on fun b q e => kp b q (old b q e).1 (old b q e).2
end
section
variable {prog : Program} {w : World} {A : Around} {E : Value -> Shared -> Prop} {s : Shared}
noncomputable def gO : List Int -> List Int -> Bool
 | [], [] => false
 | [], _ :: _ => true
 | _ :: _, [] => false
 | x :: xs, y :: ys => if x = y then gO xs ys else decide (x < y)
theorem qu : ∀ a : List Int, gO a a = false
 | [] => rfl
 | x :: xs => by unfold gO; rw [LO rfl]; exact qu xs
theorem t8 : ∀ a b : List Int, gO a b = true -> gO b a = false
 | [], [], h => by unfold gO at h; cases h
 | [], _ :: _, _ => by unfold gO; rfl
 | _ :: _, [], h => by unfold gO at h; cases h
 | x :: xs, y :: ys, h => by
  unfold gO at h ⊢
  by_cases e : x = y
  ·rw [LO e] at h; rw [LO e.symm]; exact t8 xs ys h
  ·rw [LP e] at h
   rw [LP (Ma e)]
   have := MI h
   exact LX (by lia)
theorem sF : ∀ a b c : List Int, gO b a = false -> gO c b = false -> gO c a = false
 | [], _, [], _, _ => rfl
 | [], [], _ :: _, _, h => by unfold gO at h; cases h <;> rfl
 | [], _ :: _, _ :: _, _, _ => by unfold gO; rfl
 | _ :: _, [], _, h, _ => by unfold gO at h; cases h
 | x :: xs, y :: ys, [], _, h => by unfold gO at h; cases h
 | x :: xs, y :: ys, z :: zs, h1, h2 => by
  unfold gO at h1 h2 ⊢
  by_cases e1 : y = x
  ·rw [LO e1] at h1
   by_cases e2 : z = y
   ·rw [LO e2] at h2
    rw [LO (e2.trans e1)]
    exact sF xs ys zs h1 h2
   ·rw [LP e2] at h2
    rw [LP (by lia)]
    have := MM h2
    exact LX (by lia)
  ·rw [LP e1] at h1
   have g1 := MM h1
   by_cases e2 : z = y
   ·rw [LP (by lia)]
    exact LX (by lia)
   ·rw [LP e2] at h2
    have g2 := MM h2
    rw [LP (by lia)]
    exact LX (by lia)
theorem EY (f : Nat -> List Int) : Ord (fun i j => gO (f i) (f j)) (fun i j => gO (f j) (f i) = false) :=
 ⟨fun a b c h1 h2 => sF _ _ _ h1 h2, fun a => qu _, fun a b h => t8 _ _ h, fun a b h => h⟩
def Ja (h : Heap) (v : Value) (ns : List Int) : Prop := ∃ a o xs n, v = .ref a /\ h.get? a = some o /\ o.cls = .type "tuple" /\ o.data = .seq xs n /\ IntsAre xs.toList ns
theorem FB : ∀ (xs ys : List Value) (ns ms : List Int) (i : Nat) (fin : Bool) (Q : Bool -> Shared -> Prop), IntsAre xs ns -> IntsAre ys ms -> (fin = decide (xs.length < ys.length)) -> Q (gO ns ms) s ->
  KatLex prog w A true fin Q (xs.zip ys) i s := by
 intro xs
 induction xs with
 | nil =>
  intro ys ns ms i fin Q hx hy hf hq
  cases hx
  rw [List.zip_nil_left]
  show Q fin s
  rw [hf]
  cases hy with
  | nil => exact hq
  | cons b u ty => exact hq
 | cons x xs ih =>
  intro ys ns ms i fin Q hx hy hf hq
  cases hx with
  | cons a t tx =>
   cases hy with
   | nil =>
    rw [List.zip_nil_right]
    show Q fin s
    rw [hf]
    exact hq
   | @cons c u ys' ms' ty =>
    rw [MR]
    refine kat_cons ((SeqAt.EqAt.int_int a t c u) prog w _ _ ?_)
    unfold gO at hq
    by_cases e : a = c
    ·rw [LO e] at hq
     have eb : (a == c) = true := by simpa using e
     rw [eb]
     exact kat_yes (ih ys' _ ms' (i + 1) fin Q tx ty (by rw [hf]; simp) hq)
    ·rw [LP e] at hq
     have eb : (a == c) = false := by simpa using e
     rw [eb]
     refine kat_no ?_
     cases q : i == 0 with
     | true => exact oneLt_int hq
     | false => exact kat_one _ _ (lt_int hq)
theorem AF {vs : List Value} {f : Nat -> List Int} (hv : ∀ i, i < vs.length -> Ja s.heap (vs.getD i Value.none) (f i) /\ f i ≠ []) : Known prog w s vs (tuples' true) fun i j => gO (f i) (f j) := by
 refine ⟨fun A E h' Q hk h2 hq => ?_, fun A h' i j C hk hi hj hc => ?_⟩
 ·have hv' : ∀ v ∈ vs, ∃ n t dR a o xs k, v = .ref a /\ h'.get? a = some o /\ o.cls = .type "tuple" /\ o.data = .seq xs k /\ xs.toList = Value.int n t :: dR := fun v hm => by
   obtain ⟨i, hi, e⟩ := List.getElem_of_mem hm
   obtain ⟨⟨a, o, xs, k, e1, e2, e3, e4, e5⟩, ne⟩ := hv i hi
   have ev : vs.getD i Value.none = v := by rw [MZ, Mf hi]; exact e
   rw [ev] at e1
   revert e5 ne
   generalize f i = ns
   generalize ex : xs.toList = L
   intro ne e5
   cases e5 with
   | nil => exact absurd rfl ne
   | @cons n t vs' ns' tl => exact ⟨n, t, vs', a, o, xs, k, e1, hk _ _ e2, e3, e4, ex⟩
  have fs : ∀ L : List Value, (∀ v ∈ L, ∃ n t dR a o xs k, v = .ref a /\ h'.get? a = some o /\ o.cls = .type "tuple" /\ o.data = .seq xs k /\ xs.toList = Value.int n t :: dR) -> ∃ gs, KatTups h' L gs /\ gs.length = L.length /\ ∀ v ∈ gs, ∃ n t, v = Value.int n t := by
   intro L
   induction L with
   | nil => exact fun _ => ⟨[], .nil, rfl, fun _ h => (by cases h)⟩
   | cons v L ih =>
    intro hL
    obtain ⟨gs, g1, g2, g3⟩ := ih fun u hu => hL u (LY _ hu)
    obtain ⟨n, t, dR, a, o, xs, k, rfl, e2, e3, e4, e5⟩ := hL v LV
    refine ⟨.int n t :: gs, .cons e2 e3 e4 (by rw [<- MX, e5]; rfl) g1, by rw [Mh, Mh, g2], fun u hu => ?_⟩
    rcases L9.mp hu with rfl | hu
    ·exact ⟨n, t, rfl⟩
    ·exact g3 u hu
  obtain ⟨gs, g1, g2, g3⟩ := fs vs hv'
  refine kat_kind (s := { s with heap := h' }) (T := .type "int") g1 (by lia) (fun v hm => ?_) (by decide) hq
  obtain ⟨n, t, rfl⟩ := g3 v hm
  exact Looks.of_pure rfl
 ·obtain ⟨⟨a, o, xs, k, e1, e2, e3, e4, e5⟩, _⟩ := hv i hi
  obtain ⟨⟨a', o', xs', k', e1', e2', e3', e4', e5'⟩, _⟩ := hv j hj
  unfold kas_ask
  rw [e1, e1']
  refine kat_lt (s := { s with heap := h' }) (hk _ _ e2) e4 (hk _ _ e2') e4' ?_
  refine FB (s := { s with heap := h' }) _ _ _ _ _ _ _ e5 e5' ?_ hc
  simp
theorem rp : ∀ {vs : List Value} {ns : List Int}, IntsAre vs ns -> ∀ i, i < vs.length -> ∃ t, vs.getD i Value.none = .int (ns.getD i 0) t
 | _, _, .nil, i, h => by simp at h
 | _, _, .cons n t _, 0, _ => ⟨t, rfl⟩
 | _, _, .cons n t tl, i + 1, h => by
  obtain ⟨u, e⟩ := rp tl i (by simpa using h)
  exact ⟨u, by simpa using e⟩
theorem zM {vs : List Value} {ns : List Int} (hI : IntsAre vs ns) : Known prog w s vs oneType' fun i j => decide (ns.getD i 0 < ns.getD j 0) := by
 refine ⟨fun A E h' Q hk h2 hq => ?_, fun A h' i j C hk hi hj hc => ?_⟩
 ·rw [ksk_kind (keys := vs.toArray) (kz := ns) (by simpa using hI) (by simpa using h2)]
  exact LS hq
 ·obtain ⟨t, e1⟩ := rp hI i hi
  obtain ⟨u, e2⟩ := rp hI j hj
  unfold kas_ask
  rw [e1, e2, keyLt'_oneType]
  exact oneLt_int hc
theorem DK (f : Nat -> Int) : Ord (fun i j => decide (f i < f j)) (fun i j => f i <= f j) :=
 ⟨fun _ _ _ h k => Int.le_trans h k, fun _ => Int.le_refl _, fun a b h => Int.le_of_lt (MI h), fun a b h => by have := MM h; show f b <= f a; lia⟩
theorem xp {vs : List Value} {ns : List Int} (hI : IntsAre vs ns) : ∀ L : List Nat, (∀ i ∈ L, i < vs.length) -> IntsAre (L.map fun i => vs.getD i Value.none) (L.map fun i => ns.getD i 0)
 | [], _ => .nil
 | i :: L, h => by
  obtain ⟨t, e⟩ := rp hI i (h i LV)
  rw [L1, L1, e]
  exact .cons _ t (xp hI L fun j hj => h j (LY _ hj))
theorem y8 : ∀ {vs : List Value} {ns : List Int}, IntsAre vs ns -> vs.length = ns.length
 | _, _, .nil => rfl
 | _, _, .cons n t tl => by rw [Mh, Mh, y8 tl]
theorem we {l : Addr} {vs : List Value} {ns : List Int} {Q : Value -> Shared -> Prop} (hl : s.heap.IsList l vs.toArray) (hI : IntsAre vs ns) (hN : vs.length <= sizeLine)
  (h : ∀ (out : Array Value) ms, IntsAre out.toList ms -> ms.Perm ns -> ms.Pairwise (· <= ·) -> Q (.ref (s.heap.objs.size + 1)) { s with heap := sortedAll s.heap vs out }) : wpAny (model prog w) A (call (.builtin "sorted") [.ref l]) Q E s := by
 refine uY (DK fun i => ns.getD i 0) hl hN (zM hI) fun p hp ha => ?_
 have e := y8 hI
 have hb : ∀ i ∈ p.toList, i < vs.length := fun i hi => by simpa using (Array.perm_iff_toList_perm.mp hp).mem_iff.mp hi
 rw [e] at hp ha
 obtain ⟨p1, p2⟩ := AJ (vs := ns) (d := 0) hp ha
 exact h (kf vs p) _ (by simpa [kf] using xp hI p.toList hb) p1 (p2 _ fun i j _ _ h => h)
end
end Srt
namespace L2
open PySem
noncomputable def Hh (K : W.Frag) : List V -> Hp -> VK -> Prop := fun xs H Q => ∃ p ys, xs = [.ref p] /\ ((SqL K H p ys /\ ∀ l, H l = none -> Q (.ref l) (upd H l (.tup ys))) \/ (SqT K H p ys /\ Q (.ref p) H))
noncomputable def Ik (K : W.Frag) : List V -> Hp -> VK -> Prop := fun xs H Q => ∃ p ys, xs = [.ref p] /\ (SqL K H p ys \/ SqT K H p ys) /\ ∀ l, H l = none -> Q (.ref l) (upd H l (.lst ys))
noncomputable def Jl : List V -> Hp -> VK -> Prop := fun xs H Q => ∃ i j, xs = [.int i, .int j] /\ Q (.int (if j > i then j else i)) H
noncomputable def IO : List V -> Hp -> VK -> Prop := fun xs H Q => ∃ i j, xs = [.int i, .int j] /\ Q (.int (if j < i then j else i)) H
noncomputable def JK : R2 := fun x y H Q => y = .non /\ Q (.bl (decide (x = .non))) H
noncomputable def Jj : R2 := fun x y H Q => y = .non /\ Q (.bl (!decide (x = .non))) H
noncomputable def IU (K : W.Frag) (ta : TE) : TT := fun σ H Q => ta σ H fun x H' => ∃ k, Dw K x H' k /\ Q k H'
noncomputable def xO (K : W.Frag) : List V -> Hp -> VK -> Prop := fun xs H Q => ∃ p, ∃ ns : List Int, xs = [.ref p] /\ SqL K H p (ns.map V.int) /\ ns.length < 30000 /\
 ∀ (ms : List Int) l, ms.Perm ns -> ms.Pairwise (· <= ·) -> H l = none -> Q (.ref l) (upd H l (.lst (ms.map V.int)))
noncomputable def rN (K : W.Frag) (tl : TE) : TI := fun σ H R => tl σ H fun x H1 => ∃ a, x = .ref a /\ (((∃ xs, SqL K H1 a xs) /\ R (Itl K a) H1) \/ ((∃ xs, SqT K H1 a xs) /\ R (Itt K a) H1))
end L2
namespace M
open PySem L2
inductive D where
 | non | bl (b : Bool) | int (i : Int) | str (x : Str) | ty (n : String) | lst (l : List D) | tup (l : List D) | scr (l : List D) | ins (N : Str) (ns : List Str) (l : List D) | dic (ks : List (List Int))
 deriving Inhabited
theorem cX {S S' : Hp} (s : Same S S') {a : Addr} {u : HO} (h : Rd S a u) : Rd S' a u := h.elim (fun e => .inl (s _ _ e)) fun ⟨o, e⟩ => .inr ⟨o, s _ _ e⟩
theorem dX {K : W.Frag} {S S' : Hp} (s : Same S S') {a : Addr} {xs : List V} (h : SqL K S a xs) : SqL K S' a xs := h.elim (fun e => .inl (cX s e)) .inr
theorem dr {K : W.Frag} {S S' : Hp} (s : Same S S') {a : Addr} {xs : List V} (h : SqT K S a xs) : SqT K S' a xs := h.elim (fun e => .inl (cX s e)) .inr
def TpA (K : W.Frag) (S : Hp) (a : Addr) (xs : List V) : Prop := S a = some (.tup xs)
theorem TpA.of {K : W.Frag} {S : Hp} {a : Addr} {xs : List V} (h : S a = some (.tup xs)) : TpA K S a xs := h
theorem TpA.sq {K : W.Frag} {S : Hp} {a : Addr} {xs : List V} (h : TpA K S a xs) : SqT K S a xs := SqT.of h
theorem TpA.mono {K : W.Frag} {S S' : Hp} (s : Same S S') {a : Addr} {xs : List V} (h : TpA K S a xs) : TpA K S' a xs := s _ _ h
noncomputable def fm (ks : List (List Int)) : List (List Key × V) := ks.map fun k => (k.map Sum.inl, V.bl true)
mutual
noncomputable def Den (K : W.Frag) (S : Hp) : D -> V -> Prop
 | .non, v => v = .non
 | .bl b, v => v = .bl b
 | .int i, v => v = .int i
 | .str x, v => v = .str x
 | .ty x, v => v = .ty x
 | .lst l, v => ∃ p xs, v = .ref p /\ Rd S p (.lst xs) /\ Dens K S l xs
 | .tup l, v => ∃ p xs, v = .ref p /\ TpA K S p xs /\ Dens K S l xs
 | .scr l, v => ∃ p xs, v = .ref p /\ SqL K S p xs /\ Dens K S l xs
 | .ins N ns l, v => ∃ p C dx fs, v = .ref p /\ W.nsIn K mainGlobals N = some (some (.ref C)) /\ S p = some (.ins C dx fs) /\ fs.map (·.1) = ns /\ Dens K S l (fs.map (·.2))
 | .dic ks, v => ∃ p, v = .ref p /\ Rd S p (.dT (fm ks))
noncomputable def Dens (K : W.Frag) (S : Hp) : List D -> List V -> Prop
 | [], xs => xs = []
 | d :: ds, xs => ∃ y ys, xs = y :: ys /\ Den K S d y /\ Dens K S ds ys
end
section
variable {K : W.Frag} {S S' H H' : Hp}
theorem Dens.nil : Dens K S [] [] := by unfold Dens; rfl
theorem Dens.cons {d : D} {ds : List D} {y : V} {ys : List V} (h : Den K S d y) (k : Dens K S ds ys) : Dens K S (d :: ds) (y :: ys) := by unfold Dens; exact ⟨y, ys, rfl, h, k⟩
theorem Dens.nil_of {xs : List V} (h : Dens K S [] xs) : xs = [] := by unfold Dens at h; exact h
theorem Dens.cons_of {d : D} {ds : List D} {xs : List V} (h : Dens K S (d :: ds) xs) : ∃ y ys, xs = y :: ys /\ Den K S d y /\ Dens K S ds ys := by unfold Dens at h; exact h
theorem Dens.length : ∀ {ds : List D} {xs : List V}, Dens K S ds xs -> ds.length = xs.length
 | [], _, h => by rw [h.nil_of]; rfl
 | _ :: _, _, h => by
  obtain ⟨y, ys, rfl, _, k⟩ := h.cons_of
  rw [Mh, Mh, k.length]
theorem Dens.append : ∀ {ds es : List D} {xs ys : List V}, Dens K S ds xs -> Dens K S es ys -> Dens K S (ds ++ es) (xs ++ ys)
 | [], _, _, _, h, k => by rw [h.nil_of]; exact k
 | _ :: _, _, _, _, h, k => by
  obtain ⟨y, ys, rfl, a, b⟩ := h.cons_of
  exact .cons a (b.append k)
theorem Dens.get : ∀ {ds : List D} {xs : List V} {i : Nat} {d : D}, Dens K S ds xs -> ds[i]? = some d -> ∃ x, xs[i]? = some x /\ Den K S d x
 | [], _, _, _, _, e => by simp at e
 | _ :: _, _, 0, _, h, e => by
  obtain ⟨y, ys, rfl, a, b⟩ := h.cons_of
  simp at e; subst e
  exact ⟨y, rfl, a⟩
 | _ :: _, _, i + 1, _, h, e => by
  obtain ⟨y, ys, rfl, a, b⟩ := h.cons_of
  obtain ⟨x, e1, h1⟩ := b.get (i := i) (by simpa using e)
  exact ⟨x, by simpa using e1, h1⟩
theorem Dens.get' {ds : List D} {xs : List V} {i : Nat} {x : V} (h : Dens K S ds xs) (e : xs[i]? = some x) : ∃ d, ds[i]? = some d /\ Den K S d x := by
 have hi : i < ds.length := by
  rw [h.length]
  exact (LW.mp e).1
 obtain ⟨y, e1, h1⟩ := h.get (Mf hi)
 rw [e] at e1; cases e1
 exact ⟨_, Mf hi, h1⟩
theorem Dens.set : ∀ {ds : List D} {xs : List V} {d : D} {x : V} (i : Nat), Dens K S ds xs -> Den K S d x -> Dens K S (ds.set i d) (xs.set i x)
 | [], _, _, _, _, h, _ => by rw [h.nil_of]; exact .nil
 | _ :: _, _, _, _, 0, h, k => by
  obtain ⟨y, ys, rfl, a, b⟩ := h.cons_of
  exact .cons k b
 | _ :: _, _, _, _, i + 1, h, k => by
  obtain ⟨y, ys, rfl, a, b⟩ := h.cons_of
  exact .cons a (b.set i k)
theorem Dens.take : ∀ {ds : List D} {xs : List V} (i : Nat), Dens K S ds xs -> Dens K S (ds.take i) (xs.take i)
 | [], _, _, h => by rw [h.nil_of]; simp; exact .nil
 | _ :: _, _, 0, h => by simp; exact .nil
 | _ :: _, _, i + 1, h => by
  obtain ⟨y, ys, rfl, a, b⟩ := h.cons_of
  exact .cons a (b.take i)
theorem Dens.drop : ∀ {ds : List D} {xs : List V} (i : Nat), Dens K S ds xs -> Dens K S (ds.drop i) (xs.drop i)
 | [], _, _, h => by rw [h.nil_of]; simp; exact .nil
 | _ :: _, _, 0, h => h
 | _ :: _, _, i + 1, h => by
  obtain ⟨y, ys, rfl, a, b⟩ := h.cons_of
  exact b.drop i
mutual
theorem Den.mono (s : Same S S') : ∀ {d : D} {v : V}, Den K S d v -> Den K S' d v
 | .dic _, _, h => by
  unfold Den at *
  obtain ⟨p, e, h1⟩ := h
  exact ⟨p, e, cX s h1⟩
 | .non, _, h => by unfold Den at *; exact h
 | .bl _, _, h => by unfold Den at *; exact h
 | .int _, _, h => by unfold Den at *; exact h
 | .str _, _, h => by unfold Den at *; exact h
 | .ty _, _, h => by unfold Den at *; exact h
 | .lst _, _, h => by
  unfold Den at *
  obtain ⟨p, xs, e, h1, h2⟩ := h
  exact ⟨p, xs, e, cX s h1, Dens.mono s h2⟩
 | .tup _, _, h => by
  unfold Den at *
  obtain ⟨p, xs, e, h1, h2⟩ := h
  exact ⟨p, xs, e, TpA.mono s h1, Dens.mono s h2⟩
 | .scr _, _, h => by
  unfold Den at *
  obtain ⟨p, xs, e, h1, h2⟩ := h
  exact ⟨p, xs, e, dX s h1, Dens.mono s h2⟩
 | .ins _ _ _, _, h => by
  unfold Den at *
  obtain ⟨p, C, dx, fs, e, h0, h1, h2, h3⟩ := h
  exact ⟨p, C, dx, fs, e, h0, s _ _ h1, h2, Dens.mono s h3⟩
theorem Dens.mono (s : Same S S') : ∀ {ds : List D} {xs : List V}, Dens K S ds xs -> Dens K S' ds xs
 | [], _, h => by rw [h.nil_of]; exact .nil
 | _ :: _, _, h => by
  obtain ⟨y, ys, rfl, a, b⟩ := h.cons_of
  exact .cons (Den.mono s a) (Dens.mono s b)
end
theorem den_int {i : Int} {v : V} : Den K S (.int i) v ↔ v = .int i := by unfold Den; exact Iff.rfl
theorem den_bl {b : Bool} {v : V} : Den K S (.bl b) v ↔ v = .bl b := by unfold Den; exact Iff.rfl
theorem den_non {v : V} : Den K S .non v ↔ v = .non := by unfold Den; exact Iff.rfl
theorem den_str {x : Str} {v : V} : Den K S (.str x) v ↔ v = .str x := by unfold Den; exact Iff.rfl
theorem den_ty {x : String} {v : V} : Den K S (.ty x) v ↔ v = .ty x := by unfold Den; exact Iff.rfl
theorem den_tup {l : List D} {v : V} : Den K S (.tup l) v ↔ ∃ p xs, v = .ref p /\ TpA K S p xs /\ Dens K S l xs := by
 constructor
 ·intro h; unfold Den at h; exact h
 ·intro h; unfold Den; exact h
theorem hU {l : List D} {v : V} (h : Den K S (.tup l) v) : ∃ p xs, v = .ref p /\ SqT K S p xs /\ Dens K S l xs := by
 obtain ⟨p, xs, e, h1, h2⟩ := den_tup.mp h
 exact ⟨p, xs, e, h1.sq, h2⟩
theorem den_lst {l : List D} {v : V} : Den K S (.lst l) v ↔ ∃ p xs, v = .ref p /\ Rd S p (.lst xs) /\ Dens K S l xs := by
 constructor
 ·intro h; unfold Den at h; exact h
 ·intro h; unfold Den; exact h
theorem den_scr {l : List D} {v : V} : Den K S (.scr l) v ↔ ∃ p xs, v = .ref p /\ SqL K S p xs /\ Dens K S l xs := by
 constructor
 ·intro h; unfold Den at h; exact h
 ·intro h; unfold Den; exact h
theorem den_ins {N : Str} {ns : List Str} {l : List D} {v : V} : Den K S (.ins N ns l) v ↔ ∃ p C dx fs, v = .ref p /\ W.nsIn K mainGlobals N = some (some (.ref C)) /\ S p = some (.ins C dx fs) /\ fs.map (·.1) = ns /\ Dens K S l (fs.map (·.2)) := by
 constructor
 ·intro h; unfold Den at h; exact h
 ·intro h; unfold Den; exact h
def DenP (K : W.Frag) (S H : Hp) (d : D) (v : V) : Prop := Den K S d v \/ ∃ l p xs, d = .lst l /\ v = .ref p /\ H p = some (.lst xs) /\ Dens K S l xs
theorem Den.p {d : D} {v : V} (h : Den K S d v) : DenP K S H d v := .inl h
theorem DenP.lst {l : List D} {v : V} (s : Same S H) (h : DenP K S H (.lst l) v) : ∃ p xs, v = .ref p /\ Rd H p (.lst xs) /\ Dens K S l xs := by
 rcases h with h | ⟨l', p, xs, e, e1, e2, e3⟩
 ·obtain ⟨p, xs, e, e1, e2⟩ := den_lst.mp h
  exact ⟨p, xs, e, cX s e1, e2⟩
 ·cases e
  exact ⟨p, xs, e1, .inl e2, e3⟩
theorem DenP.tup {l : List D} {v : V} (s : Same S H) (h : DenP K S H (.tup l) v) : ∃ p xs, v = .ref p /\ SqT K H p xs /\ Dens K S l xs := by
 rcases h with h | ⟨l', p, xs, e, e1, e2, e3⟩
 ·obtain ⟨p, xs, e, e1, e2⟩ := hU h
  exact ⟨p, xs, e, dr s e1, e2⟩
 ·cases e
theorem DenP.scr {l : List D} {v : V} (s : Same S H) (h : DenP K S H (.scr l) v) : ∃ p xs, v = .ref p /\ SqL K H p xs /\ Dens K S l xs := by
 rcases h with h | ⟨l', p, xs, e, e1, e2, e3⟩
 ·obtain ⟨p, xs, e, e1, e2⟩ := den_scr.mp h
  exact ⟨p, xs, e, dX s e1, e2⟩
 ·cases e
theorem DenP.int {i : Int} {v : V} (h : DenP K S H (.int i) v) : v = .int i := by
 rcases h with h | ⟨l', p, xs, e, _⟩
 ·exact den_int.mp h
 ·cases e
theorem DenP.bl {i : Bool} {v : V} (h : DenP K S H (.bl i) v) : v = .bl i := by
 rcases h with h | ⟨l', p, xs, e, _⟩
 ·exact den_bl.mp h
 ·cases e
theorem DenP.str {i : Str} {v : V} (h : DenP K S H (.str i) v) : v = .str i := by
 rcases h with h | ⟨l', p, xs, e, _⟩
 ·exact den_str.mp h
 ·cases e
theorem DenP.non {v : V} (h : DenP K S H .non v) : v = .non := by
 rcases h with h | ⟨l', p, xs, e, _⟩
 ·exact den_non.mp h
 ·cases e
theorem DenP.ty {i : String} {v : V} (h : DenP K S H (.ty i) v) : v = .ty i := by
 rcases h with h | ⟨l', p, xs, e, _⟩
 ·exact den_ty.mp h
 ·cases e
structure Ext (S H S' H' : Hp) : Prop where
 sh : Same S S'
 sub : Same S' H'
 al : ∀ b o, H b = some o -> S b = none -> H' b = some o /\ S' b = none
theorem Ext.refl (h : Same S H) : Ext S H S H := ⟨Same.refl _, h, fun _ _ h n => ⟨h, n⟩⟩
theorem Ext.trans {S1 H1 S2 H2 : Hp} (a : Ext S H S1 H1) (b : Ext S1 H1 S2 H2) : Ext S H S2 H2 := ⟨a.sh.trans b.sh, b.sub, fun c o h n => b.al c o (a.al c o h n).1 (a.al c o h n).2⟩
theorem Ext.same (a : Ext S H S' H') (s : Same S H) : Same H H' := fun b o h => by
 cases q : S b with
 | none => exact (a.al b o h q).1
 | some u =>
  have := s b u q
  rw [h] at this
  cases this
  exact a.sub b o (a.sh b o q)
theorem Ext.new (s : Same S H) {p : Addr} {o : HO} (h : H p = none) : Ext S H (upd S p o) (upd H p o) where
 sh := fun b u e => by rw [aW (cn e (s.free h))]; exact e
 sub := fun b u e => by
  by_cases hb : b = p
  ·subst hb; rw [aO] at e ⊢; exact e
  ·rw [aW hb] at e ⊢; exact s b u e
 al := fun b u e n => by
  have hb := cn e h
  rw [aW hb, aW hb]
  exact ⟨e, n⟩
theorem Ext.own (s : Same S H) {p : Addr} {o : HO} (h : H p = none) : Ext S H S (upd H p o) where
 sh := Same.refl _
 sub := fun b u e => by rw [aW (cn (s b u e) h)]; exact s b u e
 al := fun b u e n => by
  have hb := cn e h
  rw [aW hb]
  exact ⟨e, n⟩
theorem DenP.mono {d : D} {v : V} (e : Ext S H S' H') (s : Same S H) (h : DenP K S H d v) : DenP K S' H' d v := by
 rcases h with h | ⟨l, p, xs, h1, h2, h3, h4⟩
 ·exact .inl (h.mono e.sh)
 ·exact .inr ⟨l, p, xs, h1, h2, e.same s _ _ h3, h4.mono e.sh⟩
inductive DensP (K : W.Frag) (S H : Hp) : List D -> List V -> Prop where
 | nil : DensP K S H [] []
 | cons {d ds v vs} : DenP K S H d v -> DensP K S H ds vs -> DensP K S H (d :: ds) (v :: vs)
inductive O where
 | sh (d : D) | lst (l : List O) | tup (l : List O) | dic (ks : List (List Int))
 deriving Inhabited
mutual
noncomputable def O.d : O -> D
 | .sh d => d
 | .dic ks => .dic ks
 | .lst l => .lst (O.ds l)
 | .tup l => .tup (O.ds l)
noncomputable def O.ds : List O -> List D
 | [] => []
 | o :: l => o.d :: O.ds l
end
mutual
noncomputable def Own (K : W.Frag) (S H : Hp) : O -> V -> List Addr -> Prop
 | .sh d, v, fp => fp = [] /\ Den K S d v
 | .lst l, v, fp => ∃ a xs f, v = .ref a /\ fp = a :: f /\ H a = some (.lst xs) /\ Owns K S H l xs f
 | .tup l, v, fp => ∃ a xs f, v = .ref a /\ fp = a :: f /\ H a = some (.tup xs) /\ Owns K S H l xs f
 | .dic ks, v, fp => ∃ a, v = .ref a /\ fp = [a] /\ H a = some (.dT (fm ks))
noncomputable def Owns (K : W.Frag) (S H : Hp) : List O -> List V -> List Addr -> Prop
 | [], xs, fp => xs = [] /\ fp = []
 | o :: l, xs, fp => ∃ y ys f g, xs = y :: ys /\ fp = f ++ g /\ Own K S H o y f /\ Owns K S H l ys g
end
theorem den_dic {ks : List (List Int)} {v : V} : Den K S (.dic ks) v ↔ ∃ p, v = .ref p /\ Rd S p (.dT (fm ks)) := by unfold Den; exact Iff.rfl
theorem own_dic {ks : List (List Int)} {v : V} {fp : List Addr} : Own K S H (.dic ks) v fp ↔ ∃ a, v = .ref a /\ fp = [a] /\ H a = some (.dT (fm ks)) := by unfold Own; exact Iff.rfl
theorem own_sh {d : D} {v : V} {fp : List Addr} : Own K S H (.sh d) v fp ↔ fp = [] /\ Den K S d v := by unfold Own; exact Iff.rfl
theorem own_lst {l : List O} {v : V} {fp : List Addr} : Own K S H (.lst l) v fp ↔ ∃ a xs f, v = .ref a /\ fp = a :: f /\ H a = some (.lst xs) /\ Owns K S H l xs f := by
 constructor
 ·intro h; unfold Own at h; exact h
 ·intro h; unfold Own; exact h
theorem own_tup {l : List O} {v : V} {fp : List Addr} : Own K S H (.tup l) v fp ↔ ∃ a xs f, v = .ref a /\ fp = a :: f /\ H a = some (.tup xs) /\ Owns K S H l xs f := by
 constructor
 ·intro h; unfold Own at h; exact h
 ·intro h; unfold Own; exact h
theorem Owns.nil : Owns K S H [] [] [] := by unfold Owns; exact ⟨rfl, rfl⟩
theorem Owns.cons {o : O} {l : List O} {y : V} {ys : List V} {f g : List Addr} (h : Own K S H o y f) (k : Owns K S H l ys g) : Owns K S H (o :: l) (y :: ys) (f ++ g) := by unfold Owns; exact ⟨y, ys, f, g, rfl, rfl, h, k⟩
theorem Owns.nil_of {xs : List V} {fp : List Addr} (h : Owns K S H [] xs fp) : xs = [] /\ fp = [] := by unfold Owns at h; exact h
theorem Owns.cons_of {o : O} {l : List O} {xs : List V} {fp : List Addr} (h : Owns K S H (o :: l) xs fp) : ∃ y ys f g, xs = y :: ys /\ fp = f ++ g /\ Own K S H o y f /\ Owns K S H l ys g := by unfold Owns at h; exact h
theorem Owns.length : ∀ {l : List O} {xs : List V} {fp : List Addr}, Owns K S H l xs fp -> l.length = xs.length
 | [], _, _, h => by rw [h.nil_of.1]; rfl
 | _ :: _, _, _, h => by
  obtain ⟨y, ys, f, g, rfl, rfl, _, k⟩ := h.cons_of
  rw [Mh, Mh, k.length]
theorem Owns.append : ∀ {l m : List O} {xs ys : List V} {f g : List Addr}, Owns K S H l xs f -> Owns K S H m ys g -> Owns K S H (l ++ m) (xs ++ ys) (f ++ g)
 | [], _, _, _, _, _, h, k => by rw [h.nil_of.1, h.nil_of.2]; exact k
 | _ :: _, _, _, _, _, _, h, k => by
  obtain ⟨y, ys, f, g, rfl, rfl, a, b⟩ := h.cons_of
  rw [Mj]
  exact .cons a (b.append k)
theorem rq : ∀ {ds : List D} {xs : List V}, Dens K S ds xs -> Owns K S H (ds.map .sh) xs []
 | [], _, h => by rw [h.nil_of]; exact .nil
 | _ :: _, _, h => by
  obtain ⟨y, ys, rfl, a, b⟩ := h.cons_of
  exact .cons (f := []) (own_sh.mpr ⟨rfl, a⟩) (rq b)
theorem jP : ∀ {ds : List D} {xs : List V} {fp : List Addr}, Owns K S H (ds.map .sh) xs fp -> Dens K S ds xs /\ fp = []
 | [], _, _, h => by rw [h.nil_of.1, h.nil_of.2]; exact ⟨.nil, rfl⟩
 | _ :: _, _, _, h => by
  obtain ⟨y, ys, f, g, rfl, rfl, a, b⟩ := h.cons_of
  obtain ⟨e, a⟩ := own_sh.mp a
  obtain ⟨b, e2⟩ := jP b
  exact ⟨.cons a b, by rw [e, e2]; rfl⟩
mutual
theorem Own.mono (s : Same S S') : ∀ {o : O} {v : V} {fp : List Addr}, (∀ b ∈ fp, H' b = H b) -> Own K S H o v fp -> Own K S' H' o v fp
 | .dic _, _, _, k, h => by
  obtain ⟨a, e, rfl, h1⟩ := own_dic.mp h
  exact own_dic.mpr ⟨a, e, rfl, by rw [k a LV]; exact h1⟩
 | .sh _, _, _, k, h => by
  obtain ⟨e, d⟩ := own_sh.mp h
  exact own_sh.mpr ⟨e, d.mono s⟩
 | .lst _, _, _, k, h => by
  obtain ⟨a, xs, f, e, rfl, h1, h2⟩ := own_lst.mp h
  exact own_lst.mpr ⟨a, xs, f, e, rfl, by rw [k a LV]; exact h1, Owns.mono s (fun b hb => k b (LY _ hb)) h2⟩
 | .tup _, _, _, k, h => by
  obtain ⟨a, xs, f, e, rfl, h1, h2⟩ := own_tup.mp h
  exact own_tup.mpr ⟨a, xs, f, e, rfl, by rw [k a LV]; exact h1, Owns.mono s (fun b hb => k b (LY _ hb)) h2⟩
theorem Owns.mono (s : Same S S') : ∀ {l : List O} {xs : List V} {fp : List Addr}, (∀ b ∈ fp, H' b = H b) -> Owns K S H l xs fp -> Owns K S' H' l xs fp
 | [], _, _, k, h => by rw [h.nil_of.1, h.nil_of.2]; exact .nil
 | _ :: _, _, _, k, h => by
  obtain ⟨y, ys, f, g, rfl, rfl, a, b⟩ := h.cons_of
  exact .cons (Own.mono s (fun b hb => k b (Me _ hb)) a) (Owns.mono s (fun b hb => k b (L0 _ hb)) b)
end
mutual
theorem Own.there : ∀ {o : O} {v : V} {fp : List Addr}, Own K S H o v fp -> ∀ b ∈ fp, H b ≠ none
 | .dic _, _, _, h => by
  obtain ⟨a, e, rfl, h1⟩ := own_dic.mp h
  intro b hb
  rw [L4] at hb
  subst hb
  rw [h1]; exact fun z => by cases z
 | .sh _, _, _, h => by
  obtain ⟨e, d⟩ := own_sh.mp h
  rw [e]; intro b hb; cases hb
 | .lst _, _, _, h => by
  obtain ⟨a, xs, f, e, rfl, h1, h2⟩ := own_lst.mp h
  intro b hb
  rcases L9.mp hb with rfl | hb
  ·rw [h1]; exact fun z => by cases z
  ·exact Owns.there h2 b hb
 | .tup _, _, _, h => by
  obtain ⟨a, xs, f, e, rfl, h1, h2⟩ := own_tup.mp h
  intro b hb
  rcases L9.mp hb with rfl | hb
  ·rw [h1]; exact fun z => by cases z
  ·exact Owns.there h2 b hb
theorem Owns.there : ∀ {l : List O} {xs : List V} {fp : List Addr}, Owns K S H l xs fp -> ∀ b ∈ fp, H b ≠ none
 | [], _, _, h => by rw [h.nil_of.2]; intro b hb; cases hb
 | _ :: _, _, _, h => by
  obtain ⟨y, ys, f, g, rfl, rfl, a, b⟩ := h.cons_of
  intro c hc
  rcases Mb.mp hc with hc | hc
  ·exact Own.there a c hc
  ·exact Owns.there b c hc
end
mutual
theorem Own.den {S2 : Hp} (s : Same S S2) : ∀ {o : O} {v : V} {fp : List Addr}, (∀ b ∈ fp, S2 b = H b) -> Own K S H o v fp -> Den K S2 o.d v
 | .dic _, _, _, k, h => by
  obtain ⟨a, e, rfl, h1⟩ := own_dic.mp h
  rw [O.d]
  exact den_dic.mpr ⟨a, e, .inl (by rw [k a LV]; exact h1)⟩
 | .sh _, _, _, k, h => by
  obtain ⟨e, d⟩ := own_sh.mp h
  exact d.mono s
 | .lst l, _, _, k, h => by
  obtain ⟨a, xs, f, e, rfl, h1, h2⟩ := own_lst.mp h
  rw [O.d]
  exact den_lst.mpr ⟨a, xs, e, .inl (by rw [k a LV]; exact h1), Owns.den s (fun b hb => k b (LY _ hb)) h2⟩
 | .tup l, _, _, k, h => by
  obtain ⟨a, xs, f, e, rfl, h1, h2⟩ := own_tup.mp h
  rw [O.d]
  exact den_tup.mpr ⟨a, xs, e, TpA.of (by rw [k a LV]; exact h1), Owns.den s (fun b hb => k b (LY _ hb)) h2⟩
theorem Owns.den {S2 : Hp} (s : Same S S2) : ∀ {l : List O} {xs : List V} {fp : List Addr}, (∀ b ∈ fp, S2 b = H b) -> Owns K S H l xs fp -> Dens K S2 (O.ds l) xs
 | [], _, _, k, h => by rw [h.nil_of.1, O.ds]; exact .nil
 | _ :: _, _, _, k, h => by
  obtain ⟨y, ys, f, g, rfl, rfl, a, b⟩ := h.cons_of
  rw [O.ds]
  exact .cons (Own.den s (fun b hb => k b (Me _ hb)) a) (Owns.den s (fun b hb => k b (L0 _ hb)) b)
end
theorem Own.denH {o : O} {v : V} {fp : List Addr} (s : Same S H) (h : Own K S H o v fp) : Den K H o.d v := h.den s fun _ _ => rfl
theorem Ext.keeps {fp : List Addr} (e : Ext S H S' H') (h : ∀ b ∈ fp, S b = none) (t : ∀ b ∈ fp, H b ≠ none) : (∀ b ∈ fp, H' b = H b) /\ ∀ b ∈ fp, S' b = none := by
 have key : ∀ b ∈ fp, H' b = H b /\ S' b = none := fun b hb => by
  cases q : H b with
  | none => exact absurd q (t b hb)
  | some o => exact e.al b o q (h b hb)
 exact ⟨fun b hb => (key b hb).1, fun b hb => (key b hb).2⟩
inductive Sl where
 | un | lo | sh (d : D) | ow (o : O)
 deriving Inhabited
noncomputable abbrev Env := List Sl
structure RlF (K : W.Frag) (A : Hp) (Λ : Nat -> Option Addr) (Φ : Nat -> List Addr) (ρ : Env) (σ : St) (S H : Hp) : Prop where
 len : σ.length = ρ.length
 sub : Same S H
 sh : ∀ (i : Nat) d, ρ[i]? = some (.sh d) -> ∃ v, σ[i]? = some (some v) /\ Den K S d v
 ow : ∀ (i : Nat) o, ρ[i]? = some (.ow o) -> ∃ v, σ[i]? = some (some v) /\ Own K S H o v (Φ i) /\ (Φ i).Nodup /\ ∀ b ∈ Φ i, S b = none /\ A b = none
 dj : ∀ (i j : Nat) o o', i ≠ j -> ρ[i]? = some (.ow o) -> ρ[j]? = some (.ow o') -> ∀ b ∈ Φ i, b ∉ Φ j
 lo : ∀ (i : Nat), ρ[i]? = some .lo -> ∃ a, Λ i = some a /\ σ[i]? = some (some (.ref a))
 asub : Same A H
 adis : ∀ b, S b = none \/ A b = none
def RlA (K : W.Frag) (A : Hp) (Λ : Nat -> Option Addr) (ρ : Env) (σ : St) (S H : Hp) : Prop := ∃ Φ, RlF K A Λ Φ ρ σ S H
def Rl (K : W.Frag) (ρ : Env) (σ : St) (S H : Hp) : Prop := ∃ A Λ Φ, RlF K A Λ Φ ρ σ S H
theorem RlF.ext {A : Hp} {Λ : Nat -> Option Addr} {Φ : Nat -> List Addr} {ρ : Env} {σ : St} (r : RlF K A Λ Φ ρ σ S H) (e : Ext S H S' H') : RlF K A Λ Φ ρ σ S' H' where
 len := r.len
 sub := e.sub
 sh := fun i d h => by
  obtain ⟨v, h1, h2⟩ := r.sh i d h
  exact ⟨v, h1, h2.mono e.sh⟩
 ow := fun i o h => by
  obtain ⟨v, h1, h2, h3, h4⟩ := r.ow i o h
  obtain ⟨k1, k2⟩ := e.keeps (fun b hb => (h4 b hb).1) h2.there
  exact ⟨v, h1, h2.mono e.sh k1, h3, fun b hb => ⟨k2 b hb, (h4 b hb).2⟩⟩
 dj := r.dj
 lo := r.lo
 asub := fun b o h => e.same r.sub b o (r.asub b o h)
 adis := fun b => by
  rcases r.adis b with h | h
  ·cases q : A b with
   | none => exact .inr rfl
   | some o => exact .inl (e.al b o (r.asub b o q) h).2
  ·exact .inr h
theorem RlA.ext {A : Hp} {Λ : Nat -> Option Addr} {ρ : Env} {σ : St} (r : RlA K A Λ ρ σ S H) (e : Ext S H S' H') : RlA K A Λ ρ σ S' H' := let ⟨Φ, f⟩ := r; ⟨Φ, f.ext e⟩
theorem RlA.toRl {A : Hp} {Λ : Nat -> Option Addr} {ρ : Env} {σ : St} (r : RlA K A Λ ρ σ S H) : Rl K ρ σ S H := let ⟨Φ, f⟩ := r; ⟨A, Λ, Φ, f⟩
theorem RlA.sub {A : Hp} {Λ : Nat -> Option Addr} {ρ : Env} {σ : St} (r : RlA K A Λ ρ σ S H) : Same S H := let ⟨_, f⟩ := r; f.sub
theorem RlA.asub {A : Hp} {Λ : Nat -> Option Addr} {ρ : Env} {σ : St} (r : RlA K A Λ ρ σ S H) : Same A H := let ⟨_, f⟩ := r; f.asub
theorem RlA.adis {A : Hp} {Λ : Nat -> Option Addr} {ρ : Env} {σ : St} (r : RlA K A Λ ρ σ S H) : ∀ b, S b = none \/ A b = none := let ⟨_, f⟩ := r; f.adis
theorem RlA.sh {A : Hp} {Λ : Nat -> Option Addr} {ρ : Env} {σ : St} (r : RlA K A Λ ρ σ S H) : ∀ (i : Nat) d, ρ[i]? = some (.sh d) -> ∃ v, σ[i]? = some (some v) /\ Den K S d v := let ⟨_, f⟩ := r; f.sh
theorem Rl.ext {ρ : Env} {σ : St} (r : Rl K ρ σ S H) (e : Ext S H S' H') : Rl K ρ σ S' H' := let ⟨A, Λ, Φ, f⟩ := r; ⟨A, Λ, Φ, f.ext e⟩
theorem Rl.sub {ρ : Env} {σ : St} (r : Rl K ρ σ S H) : Same S H := let ⟨_, _, _, f⟩ := r; f.sub
theorem Rl.sh {ρ : Env} {σ : St} (r : Rl K ρ σ S H) : ∀ (i : Nat) d, ρ[i]? = some (.sh d) -> ∃ v, σ[i]? = some (some v) /\ Den K S d v := let ⟨_, _, _, f⟩ := r; f.sh
theorem Rl.ow {ρ : Env} {σ : St} (r : Rl K ρ σ S H) : ∀ (i : Nat) o, ρ[i]? = some (.ow o) -> ∃ v fp, σ[i]? = some (some v) /\ Own K S H o v fp /\ fp.Nodup /\ ∀ b ∈ fp, S b = none := fun i o h => by
 obtain ⟨A, Λ, Φ, f⟩ := r
 obtain ⟨v, h1, h2, h3, h4⟩ := f.ow i o h
 exact ⟨v, _, h1, h2, h3, fun b hb => (h4 b hb).1⟩
noncomputable abbrev XE := Env -> Option D
noncomputable abbrev XT := Env -> Option Bool
noncomputable abbrev XA := Env -> Option (List D)
def SE (K : W.Frag) (t : TE) (e : XE) : Prop := ∀ ρ σ S H (Q : VK) d, Rl K ρ σ S H -> e ρ = some d -> (∀ v S' H', Ext S H S' H' -> Den K S' d v -> Q v H') -> t σ H Q
def SPk (K : W.Frag) (t : TE) (e : XE) : Prop := ∀ ρ σ S H (Q : VK) d, Rl K ρ σ S H -> e ρ = some d -> (∀ v S' H', Ext S H S' H' -> DenP K S' H' d v -> Q v H') -> t σ H Q
def SF (K : W.Frag) (t : TE) (e : XA) : Prop := ∀ ρ σ S H (Q : VK) l, Rl K ρ σ S H -> e ρ = some l -> (∀ a xs S' H', Ext S H S' H' -> H a = none -> S' a = none -> H' a = some (.lst xs) -> Dens K S' l xs -> Q (.ref a) H') -> t σ H Q
def ST (K : W.Frag) (t : TT) (c : XT) : Prop := ∀ ρ σ S H (Q : Bool -> Hp -> Prop) b, Rl K ρ σ S H -> c ρ = some b -> (∀ S' H', Ext S H S' H' -> Q b H') -> t σ H Q
def SA (K : W.Frag) (t : TA) (e : XA) : Prop := ∀ ρ σ S H (Q : List V -> Hp -> Prop) ds, Rl K ρ σ S H -> e ρ = some ds -> (∀ vs S' H', Ext S H S' H' -> Dens K S' ds vs -> Q vs H') -> t σ H Q
def SAP (K : W.Frag) (t : TA) (e : XA) : Prop := ∀ ρ σ S H (Q : List V -> Hp -> Prop) ds, Rl K ρ σ S H -> e ρ = some ds -> (∀ vs S' H', Ext S H S' H' -> DensP K S' H' ds vs -> Q vs H') -> t σ H Q
theorem SE.p {t : TE} {e : XE} (h : SE K t e) : SPk K t e := fun ρ σ S H Q d r x k => h ρ σ S H Q d r x fun v S' H' z dv => k v S' H' z (.inl dv)
@[simp] noncomputable def xL (e : XA) : XE := fun ρ => (e ρ).map D.lst
theorem SF.e {t : TE} {e : XA} (h : SF K t e) : SE K t (xL e) := fun ρ σ S H Q d r x k => by
 unfold xL at x
 cases q : e ρ with
 | none => rw [q] at x; cases x
 | some l =>
  rw [q] at x
  cases x
  refine h ρ σ S H Q l r q fun a xs S' H' z h1 h2 h3 h4 => ?_
  have s2 : Same S' (upd S' a (.lst xs)) := fun b u e => by rw [aW (cn e h2)]; exact e
  refine k _ (upd S' a (.lst xs)) H' ⟨z.sh.trans s2, fun b u e => ?_, fun b o e n => ?_⟩ (den_lst.mpr ⟨a, xs, rfl, .inl aO, h4.mono s2⟩)
  ·by_cases hb : b = a
   ·subst hb; rw [aO] at e; cases e; exact h3
   ·rw [aW hb] at e; exact z.sub b u e
  ·obtain ⟨y1, y2⟩ := z.al b o e n
   exact ⟨y1, by rw [aW (cn e h1)]; exact y2⟩
@[simp] noncomputable def aC (i : Nat) : XE := fun ρ => match ρ[i]? with | some (.sh d) => some d | _ => none
noncomputable def shs : List O -> Option (List D)
 | [] => some []
 | .sh d :: l => (shs l).map fun r => d :: r
 | _ => none
theorem rD : ∀ l : List D, shs (l.map .sh) = some l
 | [] => rfl
 | d :: l => by rw [L1, shs, rD l]; rfl
theorem vQ : ∀ {os : List O} {l : List D}, shs os = some l -> os = l.map .sh
 | [], l, h => by cases h; rfl
 | o :: os, l, h => by
  cases o with
  | sh d =>
   have h' : (shs os).map (fun r => d :: r) = some l := h
   cases q : shs os with
   | none => rw [q] at h'; cases h'
   | some m => rw [q] at h'; cases h'; rw [vQ q]; rfl
  | lst _ => cases h
  | tup _ => cases h
  | dic _ => cases h
noncomputable def FF : Sl -> Option D
 | .sh d => some d
 | .ow (.lst os) => (shs os).map D.lst
 | _ => none
@[simp] theorem Js (d : D) : FF (.sh d) = some d := rfl
@[simp] theorem Jn (l : List D) : FF (.ow (.lst (l.map .sh))) = some (.lst l) := by show (shs _).map D.lst = _; rw [rD]; rfl
@[simp] noncomputable def ab (i : Nat) : XE := fun ρ => (ρ[i]?).bind FF
theorem aL (i : Nat) : SE K (iY i) (aC i) := fun ρ σ S H Q d r x k => by
 unfold aC at x
 split at x
 ·rename_i d' e
  cases x
  obtain ⟨v, h1, h2⟩ := r.sh i _ e
  exact ⟨v, h1, k v S H (Ext.refl r.sub) h2⟩
 ·cases x
theorem ae (i : Nat) : SPk K (iY i) (ab i) := fun ρ σ S H Q d r x k => by
 unfold ab at x
 cases q : ρ[i]? with
 | none => rw [q] at x; cases x
 | some s =>
  rw [q] at x
  cases s with
  | un => cases x
  | lo => cases x
  | sh d' =>
   cases x
   obtain ⟨v, h1, h2⟩ := r.sh i _ q
   exact ⟨v, h1, k v S H (Ext.refl r.sub) (.inl h2)⟩
  | ow o =>
   cases o with
   | sh d' => cases x
   | tup l => cases x
   | dic ks => cases x
   | lst os =>
    have x' : (shs os).map D.lst = some d := x
    cases qs : shs os with
    | none => rw [qs] at x'; cases x'
    | some l =>
     rw [qs] at x'
     cases x'
     have e := vQ qs
     subst e
     obtain ⟨v, fp, h1, h2, h3, h4⟩ := r.ow i _ q
     obtain ⟨a, xs, f, rfl, rfl, h5, h6⟩ := own_lst.mp h2
     exact ⟨_, h1, k _ S H (Ext.refl r.sub) (.inr ⟨l, a, xs, rfl, rfl, h5, (jP h6).1⟩)⟩
def SQ (K : W.Frag) (t : TE) (e : XE) : Prop := ∀ ρ σ S H (Q : VK) d, Rl K ρ σ S H -> e ρ = some d -> (∀ v S' H', Ext S H S' H' -> Den K H' d v -> Q v H') -> t σ H Q
theorem mL {d : D} {v : V} (s : Same S H) (h : DenP K S H d v) : Den K H d v := by
 rcases h with h | ⟨l, p, xs, rfl, rfl, h1, h2⟩
 ·exact h.mono s
 ·exact den_lst.mpr ⟨p, xs, rfl, .inl h1, h2.mono s⟩
theorem SPk.q {t : TE} {e : XE} (h : SPk K t e) : SQ K t e := fun ρ σ S H Q d r x k => h ρ σ S H Q d r x fun v S' H' z dv => k v S' H' z (mL z.sub dv)
noncomputable def C8 : Sl -> Option D
 | .sh d => some d
 | .ow o => some o.d
 | _ => none
@[simp] theorem IM (d : D) : C8 (.sh d) = some d := rfl
@[simp] theorem Il (o : O) : C8 (.ow o) = some o.d := rfl
@[simp] noncomputable def sK (i : Nat) : XE := fun ρ => (ρ[i]?).bind C8
theorem Eg (i : Nat) : SQ K (iY i) (sK i) := fun ρ σ S H Q d r x k => by
 unfold sK at x
 cases q : ρ[i]? with
 | none => rw [q] at x; cases x
 | some s =>
  rw [q] at x
  cases s with
  | un => cases x
  | lo => cases x
  | sh d' =>
   cases x
   obtain ⟨v, h1, h2⟩ := r.sh i _ q
   exact ⟨v, h1, k v S H (Ext.refl r.sub) (h2.mono r.sub)⟩
  | ow o =>
   cases x
   obtain ⟨v, fp, h1, h2, h3, h4⟩ := r.ow i _ q
   exact ⟨_, h1, k _ S H (Ext.refl r.sub) (h2.denH r.sub)⟩
@[simp] noncomputable def xC (d : D) : XE := fun _ => some d
noncomputable def n5 : D -> Option V
 | .non => some .non | .bl b => some (.bl b) | .int i => some (.int i) | .str x => some (.str x) | .ty x => some (.ty x) | _ => none
theorem nV {d : D} {v : V} (h : n5 d = some v) : Den K S d v := by
 cases d <;> simp [n5] at h <;> subst h <;> unfold Den <;> rfl
theorem s_c {v : V} {d : D} (h : n5 d = some v) : SE K (tC v) (xC d) := fun ρ σ S H Q e r x k => by
 cases x
 exact k v S H (Ext.refl r.sub) (nV h)
@[simp] noncomputable def xFl (e : XE) : XE := fun ρ => (e ρ).bind fun d => if (n5 d).isSome then some d else none
theorem Fv {d : D} {v w : V} (h : n5 d = some w) (k : Den K S d v) : v = w := by
 cases d <;> simp [n5] at h <;> subst h <;> unfold Den at k <;> exact k
@[simp] noncomputable def xOp (f : D -> D -> Option D) (a b : XE) : XE := fun ρ => (a ρ).bind fun x => (b ρ).bind fun y => f x y
def SR2 (K : W.Frag) (r : R2) (f : D -> D -> Option D) : Prop := ∀ S H x y d e g (Q : VK), Same S H -> DenP K S H d x -> DenP K S H e y -> f d e = some g -> (∀ v S' H', Ext S H S' H' -> Den K S' g v -> Q v H') -> r x y H Q
theorem ar {r : R2} {f : D -> D -> Option D} {ta tb : TE} {a b : XE} (hr : SR2 K r f) (ha : SPk K ta a) (hb : SPk K tb b) : SE K (tOp r ta tb) (xOp f a b) := fun ρ σ S H Q d r x k => by
 unfold xOp at x
 cases qa : a ρ with
 | none => rw [qa] at x; cases x
 | some da =>
  rw [qa] at x
  dsimp only [Option.bind] at x
  cases qb : b ρ with
  | none => rw [qb] at x; cases x
  | some db =>
   rw [qb] at x
   refine ha ρ σ S H _ da r qa fun v S1 H1 z1 d1 => ?_
   have r1 := r.ext z1
   refine hb ρ σ S1 H1 _ db r1 qb fun w S2 H2 z2 d2 => ?_
   exact hr S2 H2 v w da db d Q z2.sub (d1.mono z2 r1.sub) d2 x fun u S3 H3 z3 d3 => k u S3 H3 ((z1.trans z2).trans z3) d3
theorem Bu {S2 H3 S3 : Hp} (s : Same S H) (z : Ext H H S3 H3) : Ext S H S H3 := ⟨Same.refl _, fun b u e => z.sub b u (z.sh b u (s b u e)), fun b o h n => ⟨z.sub b o (z.sh b o h), n⟩⟩
@[simp] noncomputable def xUn (f : D -> Option D) (a : XE) : XE := fun ρ => (a ρ).bind f
def SR1 (K : W.Frag) (r : V -> Hp -> VK -> Prop) (f : D -> Option D) : Prop := ∀ S H x d g (Q : VK), Same S H -> DenP K S H d x -> f d = some g -> (∀ v S' H', Ext S H S' H' -> Den K S' g v -> Q v H') -> r x H Q
theorem B2 {r : V -> Hp -> VK -> Prop} {f : D -> Option D} {ta : TE} {a : XE} (hr : SR1 K r f) (ha : SPk K ta a) : SE K (tUn r ta) (xUn f a) := fun ρ σ S H Q d r x k => by
 unfold xUn at x
 cases qa : a ρ with
 | none => rw [qa] at x; cases x
 | some da =>
  rw [qa] at x
  refine ha ρ σ S H _ da r qa fun v S1 H1 z1 d1 => ?_
  exact hr S1 H1 v da d Q z1.sub d1 x fun u S3 H3 z3 d3 => k u S3 H3 (z1.trans z3) d3
@[simp] noncomputable def aq : XA := fun _ => some []
@[simp] noncomputable def ac (a : XE) (b : XA) : XA := fun ρ => (a ρ).bind fun x => (b ρ).bind fun y => some (x :: y)
theorem aE : SA K um aq := fun ρ σ S H Q ds r x k => by cases x; exact k [] S H (Ext.refl r.sub) .nil
theorem bN : SAP K um aq := fun ρ σ S H Q ds r x k => by cases x; exact k [] S H (Ext.refl r.sub) .nil
theorem gZ {a : XE} {b : XA} {ρ : Env} {ds : List D} (x : ac a b ρ = some ds) : ∃ d r, a ρ = some d /\ b ρ = some r /\ ds = d :: r := by
 unfold ac at x
 cases qa : a ρ with
 | none => rw [qa] at x; cases x
 | some da =>
  rw [qa] at x
  dsimp only [Option.bind] at x
  cases qb : b ρ with
  | none => rw [qb] at x; cases x
  | some db => rw [qb] at x; cases x; exact ⟨_, _, rfl, rfl, rfl⟩
theorem ah {ta : TE} {tr : TA} {a : XE} {b : XA} (ha : SE K ta a) (hb : SA K tr b) : SA K (kX ta tr) (ac a b) := fun ρ σ S H Q ds r x k => by
 obtain ⟨da, db, qa, qb, rfl⟩ := gZ x
 refine ha ρ σ S H _ da r qa fun v S1 H1 z1 d1 => hb ρ σ S1 H1 _ db (r.ext z1) qb fun vs S2 H2 z2 d2 => k _ S2 H2 (z1.trans z2) (.cons (d1.mono z2.sh) d2)
theorem aR {ta : TE} {tr : TA} {a : XE} {b : XA} (ha : SPk K ta a) (hb : SAP K tr b) : SAP K (kX ta tr) (ac a b) := fun ρ σ S H Q ds r x k => by
 obtain ⟨da, db, qa, qb, rfl⟩ := gZ x
 refine ha ρ σ S H _ da r qa fun v S1 H1 z1 d1 => hb ρ σ S1 H1 _ db (r.ext z1) qb fun vs S2 H2 z2 d2 => k _ S2 H2 (z1.trans z2) (.cons (d1.mono z2 (r.ext z1).sub) d2)
@[irreducible] noncomputable def LIM : Nat := 1000000
theorem gj : LIM < sizeLine := by rw [sizeLine_eq]; unfold LIM; decide
@[simp] noncomputable def dF (a : XA) : XE := fun ρ => (a ρ).bind fun l => if l.length <= LIM then some (.tup l) else none
theorem fi {t : TA} {a : XA} (h : SA K t a) : SE K (Iq t) (dF a) := fun ρ σ S H Q d r x k => by
 unfold dF at x
 cases q : a ρ with
 | none => rw [q] at x; cases x
 | some l =>
  rw [q] at x
  dsimp only [Option.bind] at x
  split at x
  ·rename_i hl
   cases x
   refine h ρ σ S H _ l r q fun vs S1 H1 z1 d1 => ⟨?_, fun p hp => ?_⟩
   ·rw [<- d1.length]; exact MB (MJ hl gj)
   ·have z2 := Ext.new (o := .tup vs) z1.sub hp
    exact k _ _ _ (z1.trans z2) (den_tup.mpr ⟨p, vs, rfl, TpA.of aO, d1.mono z2.sh⟩)
  ·cases x
@[simp] noncomputable def nU (a : XA) : XA := fun ρ => (a ρ).bind fun l => if l.length <= LIM then some l else none
theorem kT {t : TA} {a : XA} (h : SA K t a) : SF K (IQ t) (nU a) := fun ρ σ S H Q l r x k => by
 unfold nU at x
 cases q : a ρ with
 | none => rw [q] at x; cases x
 | some l =>
  rw [q] at x
  dsimp only [Option.bind] at x
  split at x
  ·rename_i hl
   cases x
   refine h ρ σ S H _ l r q fun vs S1 H1 z1 d1 => ⟨?_, fun p hp => ?_⟩
   ·rw [<- d1.length]; exact MB (MJ hl gj)
   ·have hp0 : H p = none := (z1.same r.sub).free hp
    exact k p vs S1 _ (z1.trans (Ext.own z1.sub hp)) hp0 (z1.sub.free hp) aO d1
  ·cases x
@[simp] noncomputable def xCB (f : List D -> Option D) (a : XA) : XE := fun ρ => (a ρ).bind f
def SRB (K : W.Frag) (r : List V -> Hp -> VK -> Prop) (f : List D -> Option D) : Prop := ∀ S H vs ds g (Q : VK), Same S H -> DensP K S H ds vs -> f ds = some g -> (∀ v S' H', Ext S H S' H' -> Den K S' g v -> Q v H') -> r vs H Q
theorem gy {r : List V -> Hp -> VK -> Prop} {f : List D -> Option D} {t : TA} {a : XA} (hr : SRB K r f) (h : SAP K t a) : SE K (tCB r t) (xCB f a) := fun ρ σ S H Q d rl x k => by
 unfold xCB at x
 cases q : a ρ with
 | none => rw [q] at x; cases x
 | some ds =>
  rw [q] at x
  refine h ρ σ S H _ ds rl q fun vs S1 H1 z1 d1 => ?_
  exact hr S1 H1 vs ds d Q z1.sub d1 x fun v S2 H2 z2 d2 => k v S2 H2 (z1.trans z2) d2
@[simp] noncomputable def s9 (f : List D -> Option (List D)) (a : XA) : XA := fun ρ => (a ρ).bind f
def SRF (K : W.Frag) (r : List V -> Hp -> VK -> Prop) (f : List D -> Option (List D)) : Prop := ∀ S H vs ds g (Q : VK), Same S H -> DensP K S H ds vs -> f ds = some g -> (∀ a xs H', Ext S H S H' -> H a = none -> H' a = some (.lst xs) -> Dens K S g xs -> Q (.ref a) H') -> r vs H Q
theorem Gg {r : List V -> Hp -> VK -> Prop} {f : List D -> Option (List D)} {t : TA} {a : XA} (hr : SRF K r f) (h : SAP K t a) : SF K (tCB r t) (s9 f a) := fun ρ σ S H Q d rl x k => by
 unfold s9 at x
 cases q : a ρ with
 | none => rw [q] at x; cases x
 | some ds =>
  rw [q] at x
  refine h ρ σ S H _ ds rl q fun vs S1 H1 z1 d1 => ?_
  exact hr S1 H1 vs ds d Q z1.sub d1 x fun b xs H2 z2 h1 h2 d2 => k b xs S1 H2 (z1.trans z2) ((z1.same rl.sub).free h1) (z1.sub.free h1) h2 d2
def STr (K : W.Frag) (t : TE) (e : Env -> Option O) : Prop := ∀ ρ σ S H (Q : VK) o, Rl K ρ σ S H -> e ρ = some o -> (∀ v fp S' H', Ext S H S' H' -> Own K S' H' o v fp -> fp.Nodup -> (∀ b ∈ fp, H b = none /\ S' b = none) -> Q v H') -> t σ H Q
@[simp] noncomputable def xLT (e : XA) : Env -> Option O := fun ρ => (e ρ).map fun l => .lst (l.map .sh)
theorem SF.t {t : TE} {e : XA} (h : SF K t e) : STr K t (xLT e) := fun ρ σ S H Q o r x k => by
 unfold xLT at x
 cases q : e ρ with
 | none => rw [q] at x; cases x
 | some l =>
  rw [q] at x
  cases x
  refine h ρ σ S H Q l r q fun a xs S' H' z h1 h2 h3 h4 => ?_
  refine k _ [a] S' H' z (own_lst.mpr ⟨a, xs, [], rfl, rfl, h3, rq h4⟩) (by simp) fun b hb => ?_
  rw [L4.mp hb]
  exact ⟨h1, h2⟩
@[simp] noncomputable def xSh (e : XE) : Env -> Option O := fun ρ => (e ρ).map .sh
theorem SE.t {t : TE} {e : XE} (h : SE K t e) : STr K t (xSh e) := fun ρ σ S H Q o r x k => by
 unfold xSh at x
 cases q : e ρ with
 | none => rw [q] at x; cases x
 | some d =>
  rw [q] at x
  cases x
  exact h ρ σ S H Q d r q fun v S' H' z dv => k v [] S' H' z (own_sh.mpr ⟨rfl, dv⟩) .nil fun b hb => by cases hb
noncomputable def zU (S H : Hp) (fp : List Addr) : Hp := fun b => if b ∈ fp then H b else S b
theorem AU {fp : List Addr} {b : Addr} (h : b ∈ fp) : zU S H fp b = H b := by unfold zU; rw [LO h]
theorem tY {fp : List Addr} {b : Addr} (h : b ∉ fp) : zU S H fp b = S b := by unfold zU; rw [LP h]
theorem vk {fp : List Addr} (n : ∀ b ∈ fp, S b = none) : Same S (zU S H fp) := fun b o e => by
 rw [tY fun hb => by rw [n b hb] at e; cases e]
 exact e
theorem DF {fp : List Addr} (s : Same S H) : Same (zU S H fp) H := fun b o e => by
 by_cases hb : b ∈ fp
 ·rw [AU hb] at e; exact e
 ·rw [tY hb] at e; exact s b o e
theorem C9 {fp : List Addr} (z : Ext S H S' H') (n : ∀ b ∈ fp, H b = none /\ S' b = none) : Ext S H (zU S' H' fp) H' :=
 ⟨z.sh.trans (vk fun b hb => (n b hb).2), DF z.sub, fun b o h hn => ⟨(z.al b o h hn).1, by rw [tY fun hb => by rw [(n b hb).1] at h; cases h]; exact (z.al b o h hn).2⟩⟩
@[simp] noncomputable def xOD (e : Env -> Option O) : XE := fun ρ => (e ρ).map O.d
theorem STr.e {t : TE} {e : Env -> Option O} (h : STr K t e) : SE K t (xOD e) := fun ρ σ S H Q d r x k => by
 unfold xOD at x
 cases q : e ρ with
 | none => rw [q] at x; cases x
 | some o =>
  rw [q] at x
  cases x
  exact h ρ σ S H Q o r q fun v fp S' H' z ow nd n => k v _ H' (C9 z n) (ow.den (vk fun b hb => (n b hb).2) fun b hb => AU hb)
noncomputable def ft (K : W.Frag) (n : Nat) (m : List D -> Option O) : Sp := fun vs H Q _ => vs.length = n /\ ∃ S ds o, Same S H /\ Dens K S ds vs /\ m ds = some o /\ ∀ v fp S' H', Ext S H S' H' -> Own K S' H' o v fp -> fp.Nodup -> (∀ b ∈ fp, H b = none /\ S' b = none) -> Q v H'
@[simp] noncomputable def o9 (m : List D -> Option O) (a : XA) : Env -> Option O := fun ρ => (a ρ).bind m
theorem rK {n : Nat} {m : List D -> Option O} {E : XK} {t : TA} {a : XA} (h : SA K t a) (hn : ∀ ρ ds, a ρ = some ds -> ds.length = n) : STr K (Bl (ft K n m) [] E t) (o9 m a) := fun ρ σ S H Q o rl x k => by
 unfold o9 at x
 cases q : a ρ with
 | none => rw [q] at x; cases x
 | some ds =>
  rw [q] at x
  refine h ρ σ S H _ ds rl q fun vs S1 H1 z1 d1 => ?_
  rw [Mv]
  refine ⟨by rw [<- d1.length]; exact hn ρ ds q, S1, ds, o, z1.sub, d1, x, fun v fp S2 H2 z2 ow nd n => k v fp S2 H2 (z1.trans z2) ow nd fun b hb => ⟨(z1.same rl.sub).free (n b hb).1, (n b hb).2⟩⟩
@[simp] noncomputable def bd (m : List D -> Option D) (a : XA) : XE := fun ρ => (a ρ).bind m
theorem bS {n : Nat} {m : List D -> Option O} {E : XK} {t : TA} {a : XA} (h : SA K t a) (hn : ∀ ρ ds, a ρ = some ds -> ds.length = n) : SE K (Bl (ft K n m) [] E t) (bd (fun ds => (m ds).map O.d) a) := by
 have := (rK (m := m) (E := E) h hn).e
 have e : xOD (o9 m a) = bd (fun ds => (m ds).map O.d) a := by
  funext ρ
  show ((a ρ).bind m).map O.d = (a ρ).bind fun ds => (m ds).map O.d
  cases a ρ <;> rfl
 rw [e] at this
 exact this
def SAQ (K : W.Frag) (t : TA) (e : XA) : Prop := ∀ ρ σ S H (Q : List V -> Hp -> Prop) ds, Rl K ρ σ S H -> e ρ = some ds -> (∀ vs S' H', Ext S H S' H' -> Dens K H' ds vs -> Q vs H') -> t σ H Q
theorem AI : SAQ K um aq := fun ρ σ S H Q ds r x k => by cases x; exact k [] S H (Ext.refl r.sub) .nil
theorem rJ {ta : TE} {tr : TA} {a : XE} {b : XA} (ha : SQ K ta a) (hb : SAQ K tr b) : SAQ K (kX ta tr) (ac a b) := fun ρ σ S H Q ds r x k => by
 obtain ⟨da, db, qa, qb, rfl⟩ := gZ x
 refine ha ρ σ S H _ da r qa fun v S1 H1 z1 d1 => hb ρ σ S1 H1 _ db (r.ext z1) qb fun vs S2 H2 z2 d2 => k _ S2 H2 (z1.trans z2) (.cons (d1.mono (z2.same (r.ext z1).sub)) d2)
@[simp] noncomputable def nE (m : List D -> Option D) (a : XA) : XE := fun ρ => ((a ρ).bind m).bind fun d => if (n5 d).isSome then some d else none
theorem Be {n : Nat} {m : List D -> Option O} {E : XK} {t : TA} {a : XA} (h : SAQ K t a) (hn : ∀ ρ ds, a ρ = some ds -> ds.length = n) : SE K (Bl (ft K n m) [] E t) (nE (fun ds => (m ds).map O.d) a) := fun ρ σ S H Q d rl x k => by
 unfold nE at x
 cases q : a ρ with
 | none => rw [q] at x; cases x
 | some ds =>
  rw [q] at x
  dsimp only [Option.bind] at x
  cases q2 : m ds with
  | none => rw [q2] at x; cases x
  | some o =>
   rw [q2] at x
   dsimp only [Option.map] at x
   split at x
   ·rename_i hf
    cases x
    obtain ⟨w, hw⟩ := Option.isSome_iff_exists.mp hf
    refine h ρ σ S H _ ds rl q fun vs S1 H1 z1 d1 => ?_
    rw [Mv]
    refine ⟨by rw [<- d1.length]; exact hn ρ ds q, H1, ds, o, Same.refl _, d1, q2, fun v fp S2 H2 z2 ow nd n => ?_⟩
    have dv := ow.denH z2.sub
    rw [Fv hw dv]
    exact k w S1 H2 (z1.trans (Bu (S2 := S1) z1.sub z2)) (nV hw)
   ·cases x
theorem Io {r : List V -> Hp -> VK -> Prop} {f : List D -> Option D} {t : TA} {a : XA} (hr : SRB K r f) (h : SAQ K t a) : SQ K (tCB r t) (xCB f a) := fun ρ σ S H Q d rl x k => by
 unfold xCB at x
 cases q : a ρ with
 | none => rw [q] at x; cases x
 | some ds =>
  rw [q] at x
  refine h ρ σ S H _ ds rl q fun vs S1 H1 z1 d1 => ?_
  have dp : DensP K H1 H1 ds vs := by
   clear q x
   revert d1
   induction ds generalizing vs with
   | nil => intro d1; rw [d1.nil_of]; exact .nil
   | cons d ds ih =>
    intro d1
    obtain ⟨y, ys, rfl, e1, e2⟩ := d1.cons_of
    exact .cons (.inl e1) (ih ys e2)
  exact hr H1 H1 vs ds d Q (Same.refl _) dp x fun v S2 H2 z2 d2 => k v S1 H2 (z1.trans (Bu (S2 := S1) z1.sub z2)) (d2.mono z2.sub)
@[simp] noncomputable def KA : Env -> Option (List O) := fun _ => some []
@[simp] noncomputable def Kg (a : Env -> Option O) (b : Env -> Option (List O)) : Env -> Option (List O) := fun ρ => (a ρ).bind fun x => (b ρ).bind fun y => some (x :: y)
@[simp] noncomputable def KW (a : Env -> Option (List O)) : Env -> Option O := fun ρ => (a ρ).bind fun l => if l.length <= LIM then some (.tup l) else none
@[simp] noncomputable def KZ (a : Env -> Option (List O)) : Env -> Option O := fun ρ => (a ρ).bind fun l => if l.length <= LIM then some (.lst l) else none
theorem aZ {ρ : Env} {ds : List D} (h : aq ρ = some ds) : ds.length = 0 := by cases h; rfl
theorem au {a : XE} {b : XA} {n : Nat} (h : ∀ ρ ds, b ρ = some ds -> ds.length = n) (ρ : Env) (ds : List D) (x : ac a b ρ = some ds) : ds.length = n + 1 := by
 obtain ⟨da, db, qa, qb, rfl⟩ := gZ x
 rw [Mh, h ρ db qb]
@[simp] noncomputable def CY (a b : XE) : XE := fun ρ => (a ρ).bind fun x => match x with | .bl true => b ρ | .bl false => some (.bl false) | _ => none
@[simp] noncomputable def LG (a b : XE) : XE := fun ρ => (a ρ).bind fun x => match x with | .bl true => some (.bl true) | .bl false => b ρ | _ => none
@[simp] noncomputable def Kw (a : XE) : XE := fun ρ => (a ρ).bind fun x => match x with | .bl c => some (.bl (!c)) | _ => none
theorem Ht {ta tb : TE} {a b : XE} (ha : SPk K ta a) (hb : SE K tb b) : SE K (Gw ta tb) (CY a b) := fun ρ σ S H Q d r x k => by
 unfold CY at x
 cases qa : a ρ with
 | none => rw [qa] at x; cases x
 | some da =>
  rw [qa] at x
  dsimp only [Option.bind] at x
  refine ha ρ σ S H _ da r qa fun v S1 H1 z1 d1 => ?_
  split at x
  ·exact ⟨true, d1.bl, wR (hb ρ σ S1 H1 Q d (r.ext z1) x fun w S2 H2 z2 d2 => k w S2 H2 (z1.trans z2) d2)⟩
  ·cases x
   exact ⟨false, d1.bl, x5 (k _ S1 H1 z1 (den_bl.mpr rfl))⟩
  ·cases x
@[simp] noncomputable def LD (c : XT) (a b : XE) : XE := fun ρ => (c ρ).bind fun q => if q = true then a ρ else b ρ
@[simp] noncomputable def xB (a : XE) : XT := fun ρ => (a ρ).bind fun x => match x with | .bl c => some c | _ => none
theorem s_b {ta : TE} {a : XE} (ha : SPk K ta a) : ST K (tB ta) (xB a) := fun ρ σ S H Q b r x k => by
 unfold xB at x
 cases qa : a ρ with
 | none => rw [qa] at x; cases x
 | some da =>
  rw [qa] at x
  dsimp only [Option.bind] at x
  refine ha ρ σ S H _ da r qa fun v S1 H1 z1 d1 => ?_
  split at x
  ·cases x
   exact ⟨_, d1.bl, k S1 H1 z1⟩
  ·cases x
theorem bc {ta : TE} {a : XE} (ha : SPk K ta a) : ST K (GB ta) (xB a) := s_b ha
noncomputable def yE : D -> Option Bool
 | .non => some false
 | .bl b => some b
 | .int i => some (i != 0)
 | .str y => if y.length <= LIM then some ((y.length : Int) != 0) else none
 | .lst l => some (!l.isEmpty)
 | .tup l => some (!l.isEmpty)
 | .scr l => some (!l.isEmpty)
 | _ => none
theorem nq {ds : List D} {xs : List V} (h : Dens K S ds xs) : (!ds.isEmpty) = !xs.isEmpty := by
 have := h.length
 cases ds <;> cases xs <;> simp_all
@[simp] noncomputable def dQ (a : XE) : XT := fun ρ => (a ρ).bind yE
theorem Et {d : D} {v : V} {b : Bool} (s : Same S H) (h : DenP K S H d v) (x : yE d = some b) : Dw K v H b := by
 cases d with
 | non => rw [h.non]; cases x; rfl
 | bl c => rw [h.bl]; cases x; rfl
 | int i => rw [h.int]; cases x; rfl
 | str y =>
  rw [h.str]
  have x' : (if y.length <= LIM then some ((y.length : Int) != 0) else none) = some b := x
  split at x'
  ·rename_i hl; cases x'; exact ⟨MB (MJ hl gj), rfl⟩
  ·cases x'
 | lst l =>
  obtain ⟨p, xs, rfl, h1, h2⟩ := h.lst s
  cases x
  exact .inl ⟨xs, .inl h1, nq h2⟩
 | tup l =>
  obtain ⟨p, xs, rfl, h1, h2⟩ := h.tup s
  cases x
  exact .inr (.inl ⟨xs, h1, nq h2⟩)
 | scr l =>
  obtain ⟨p, xs, rfl, h1, h2⟩ := h.scr s
  cases x
  exact .inl ⟨xs, h1, nq h2⟩
 | _ => cases x
end
section
variable {K : W.Frag} {S S' H H' : Hp}
theorem Ij {ta : TE} {a : XE} (ha : SPk K ta a) : ST K (fun σ H Q => ta σ H fun x H' => ∃ k, Dw K x H' k /\ Q k H') (dQ a) := fun ρ σ S H Q b r x k => by
 unfold dQ at x
 cases qa : a ρ with
 | none => rw [qa] at x; cases x
 | some da =>
  rw [qa] at x
  exact ha ρ σ S H _ da r qa fun v S1 H1 z1 d1 => ⟨b, Et z1.sub d1 x, k S1 H1 z1⟩
@[simp] noncomputable def jl (a b : XT) : XT := fun ρ => (a ρ).bind fun x => if x = true then b ρ else some false
@[simp] noncomputable def xOr (a b : XT) : XT := fun ρ => (a ρ).bind fun x => if x = true then some true else b ρ
@[simp] noncomputable def gT (a : XT) : XT := fun ρ => (a ρ).map fun x => !x
theorem qP {ta tb : TT} {a b : XT} (ha : ST K ta a) (hb : ST K tb b) : ST K (I0 ta tb) (jl a b) := fun ρ σ S H Q d r x k => by
 unfold jl at x
 cases qa : a ρ with
 | none => rw [qa] at x; cases x
 | some q =>
  rw [qa] at x
  dsimp only [Option.bind] at x
  refine ha ρ σ S H _ q r qa fun S1 H1 z1 => ?_
  cases q with
  | true => exact wR (hb ρ σ S1 H1 Q d (r.ext z1) (by simpa using x) fun S2 H2 z2 => k S2 H2 (z1.trans z2))
  | false =>
   have : d = false := by simpa using x.symm
   subst this
   exact x5 (k S1 H1 z1)
theorem wz {ta tb : TT} {a b : XT} (ha : ST K ta a) (hb : ST K tb b) : ST K (tOr ta tb) (xOr a b) := fun ρ σ S H Q d r x k => by
 unfold xOr at x
 cases qa : a ρ with
 | none => rw [qa] at x; cases x
 | some q =>
  rw [qa] at x
  dsimp only [Option.bind] at x
  refine ha ρ σ S H _ q r qa fun S1 H1 z1 => ?_
  cases q with
  | false => exact x5 (hb ρ σ S1 H1 Q d (r.ext z1) (by simpa using x) fun S2 H2 z2 => k S2 H2 (z1.trans z2))
  | true =>
   have : d = true := by simpa using x.symm
   subst this
   exact wR (k S1 H1 z1)
theorem p0 {ta : TT} {a : XT} (ha : ST K ta a) : ST K (Im ta) (gT a) := fun ρ σ S H Q d r x k => by
 unfold gT at x
 cases qa : a ρ with
 | none => rw [qa] at x; cases x
 | some q =>
  rw [qa] at x
  cases x
  exact ha ρ σ S H _ q r qa k
inductive Out where
 | nx (ρ : Env) | rt (d : D) | ro (o : O) | bk (ρ : Env) | ct (ρ : Env)
noncomputable abbrev XS := Env -> Option Out
noncomputable def Done (K : W.Frag) (A : Hp) (Λ : Nat -> Option Addr) (S : Hp) (E : Ends) : Out -> Prop
 | .nx ρ => ∀ σ' S' H', RlA K A Λ ρ σ' S' H' -> Same S S' -> E.nx σ' H'
 | .bk ρ => ∀ σ' S' H', RlA K A Λ ρ σ' S' H' -> Same S S' -> E.bk σ' H'
 | .ct ρ => ∀ σ' S' H', RlA K A Λ ρ σ' S' H' -> Same S S' -> E.ct σ' H'
 | .rt d => ∀ v S' H', Same S S' -> Same S' H' -> Same A H' -> (∀ b, S' b = none \/ A b = none) -> Den K S' d v -> E.rt v H'
 | .ro o => ∀ v fp S' H', Same S S' -> Same S' H' -> Same A H' -> (∀ b, S' b = none \/ A b = none) -> Own K S' H' o v fp -> fp.Nodup -> (∀ b ∈ fp, S' b = none /\ A b = none) -> E.rt v H'
theorem Done.mono {A : Hp} {Λ : Nat -> Option Addr} {E : Ends} {o : Out} (s : Same S S') (h : Done K A Λ S E o) : Done K A Λ S' E o := by
 cases o with
 | nx ρ => exact fun σ1 S1 H1 r z => h σ1 S1 H1 r (s.trans z)
 | bk ρ => exact fun σ1 S1 H1 r z => h σ1 S1 H1 r (s.trans z)
 | ct ρ => exact fun σ1 S1 H1 r z => h σ1 S1 H1 r (s.trans z)
 | rt d => exact fun v S1 H1 z => h v S1 H1 (s.trans z)
 | ro d => exact fun v fp S1 H1 z => h v fp S1 H1 (s.trans z)
def SS (K : W.Frag) (t : TS) (m : XS) : Prop := ∀ A Λ ρ σ S H (E : Ends) o, RlA K A Λ ρ σ S H -> m ρ = some o -> Done K A Λ S E o -> t E σ H
@[simp] noncomputable def dM : XS := fun ρ => some (.nx ρ)
theorem cK : SS K BB dM := fun A Λ ρ σ S H E o r x k => by cases x; exact k σ S H r (Same.refl _)
@[simp] noncomputable def JJ : XS := fun ρ => some (.bk ρ)
@[simp] noncomputable def KH : XS := fun ρ => some (.ct ρ)
@[simp] noncomputable def JE : XS := fun _ => none
@[simp] noncomputable def aX (m n : XS) : XS := fun ρ => match m ρ with | some (.nx ρ') => n ρ' | o => o
theorem aI {t u : TS} {m n : XS} (ht : SS K t m) (hu : SS K u n) : SS K (wx t u) (aX m n) := fun A Λ ρ σ S H E o r x k => by
 unfold aX at x
 cases q : m ρ with
 | none => rw [q] at x; cases x
 | some om =>
  rw [q] at x
  refine ht A Λ ρ σ S H _ om r q ?_
  cases om with
  | nx ρ' => exact fun σ' S' H' r' z => hu A Λ ρ' σ' S' H' E o r' x (k.mono z)
  | rt d => cases x; exact k
  | ro d => cases x; exact k
  | bk d => cases x; exact k
  | ct d => cases x; exact k
@[simp] noncomputable def dH (e : XE) : XS := fun ρ => (e ρ).map .rt
theorem cc {te : TE} {e : XE} (h : SE K te e) : SS K (CG te) (dH e) := fun A Λ ρ σ S H E o r x k => by
 unfold dH at x
 cases q : e ρ with
 | none => rw [q] at x; cases x
 | some d =>
  rw [q] at x
  cases x
  refine h ρ σ S H _ d r.toRl q fun v S1 H1 z1 d1 => ?_
  have r1 := r.ext z1
  exact k v S1 H1 z1.sh z1.sub r1.asub r1.adis d1
@[simp] noncomputable def KE (e : Env -> Option O) : XS := fun ρ => (e ρ).map .ro
@[simp] noncomputable def tf (i : Nat) : XS := fun ρ => match ρ[i]? with | some (.sh d) => some (.rt d) | some (.ow o) => some (.ro o) | _ => none
theorem rQ (i : Nat) : SS K (CG (iY i)) (tf i) := fun A Λ ρ σ S H E o r x k => by
 unfold tf at x
 cases q : ρ[i]? with
 | none => rw [q] at x; cases x
 | some s =>
  rw [q] at x
  obtain ⟨Φ, f⟩ := r
  cases s with
  | un => cases x
  | lo => cases x
  | sh d =>
   cases x
   obtain ⟨v, h1, h2⟩ := f.sh i d q
   exact ⟨v, h1, k v S H (Same.refl _) f.sub f.asub f.adis h2⟩
  | ow ot =>
   cases x
   obtain ⟨v, h1, h2, h3, h4⟩ := f.ow i ot q
   exact ⟨v, h1, k v _ S H (Same.refl _) f.sub f.asub f.adis h2 h3 h4⟩
@[simp] noncomputable def KI : XS := fun _ => some (.rt .non)
@[simp] noncomputable def xIf (c : XT) (m n : XS) : XS := fun ρ => (c ρ).bind fun b => if b = true then m ρ else n ρ
theorem hJ {tc : TT} {t u : TS} {c : XT} {m n : XS} (hc : ST K tc c) (ht : SS K t m) (hu : SS K u n) : SS K (Fw tc t u) (xIf c m n) := fun A Λ ρ σ S H E o r x k => by
 unfold xIf at x
 cases qc : c ρ with
 | none => rw [qc] at x; cases x
 | some q =>
  rw [qc] at x
  dsimp only [Option.bind] at x
  refine hc ρ σ S H _ q r.toRl qc fun S1 H1 z1 => ?_
  cases q with
  | true => exact wR (ht A Λ ρ σ S1 H1 E o (r.ext z1) (by simpa using x) (k.mono z1.sh))
  | false => exact x5 (hu A Λ ρ σ S1 H1 E o (r.ext z1) (by simpa using x) (k.mono z1.sh))
theorem bm {α : Type} {l : List α} {i j : Nat} {x y : α} (h : (l.set i x)[j]? = some y) : (i = j /\ y = x /\ i < l.length) \/ (i ≠ j /\ l[j]? = some y) := by
 by_cases hij : i = j
 ·subst hij
  have hl := (LW.mp h).1
  rw [MC] at hl
  rw [MK hl] at h
  exact .inl ⟨rfl, (Ml h).symm, hl⟩
 ·rw [Ms hij] at h
  exact .inr ⟨hij, h⟩
theorem RlF.set {A : Hp} {Λ : Nat -> Option Addr} {Φ : Nat -> List Addr} {ρ : Env} {σ : St} {d : D} {v : V} (r : RlF K A Λ Φ ρ σ S H) (i : Nat) (h : Den K S d v) : RlF K A Λ Φ (ρ.set i (.sh d)) (σ.set i (some v)) S H where
 len := by rw [MC, MC]; exact r.len
 sub := r.sub
 sh := fun j e hj => by
  rcases bm hj with ⟨rfl, e, hl⟩ | ⟨hij, hj⟩
  ·cases e
   exact ⟨v, MK (by rw [r.len]; exact hl), h⟩
  ·rw [Ms hij]
   exact r.sh j e hj
 ow := fun j o hj => by
  rcases bm hj with ⟨rfl, e, hl⟩ | ⟨hij, hj⟩
  ·cases e
  ·rw [Ms hij]
   exact r.ow j o hj
 dj := fun j k o o' hjk h1 h2 => by
  rcases bm h1 with ⟨rfl, e, hl⟩ | ⟨hij, h1⟩
  ·cases e
  ·rcases bm h2 with ⟨rfl, e, hl⟩ | ⟨hik, h2⟩
   ·cases e
   ·exact r.dj j k o o' hjk h1 h2
 lo := fun j hj => by
  rcases bm hj with ⟨rfl, e, hl⟩ | ⟨hij, hj⟩
  ·cases e
  ·rw [Ms hij]
   exact r.lo j hj
 asub := r.asub
 adis := r.adis
theorem RlA.set {A : Hp} {Λ : Nat -> Option Addr} {ρ : Env} {σ : St} {d : D} {v : V} (r : RlA K A Λ ρ σ S H) (i : Nat) (h : Den K S d v) : RlA K A Λ (ρ.set i (.sh d)) (σ.set i (some v)) S H := let ⟨Φ, f⟩ := r; ⟨Φ, f.set i h⟩
theorem RlF.put {A : Hp} {Λ : Nat -> Option Addr} {Φ : Nat -> List Addr} {ρ : Env} {σ : St} {o : O} {v : V} {fp : List Addr} (r : RlF K A Λ Φ ρ σ S H) (i : Nat) (sub : Same S H') (asub : Same A H') (ow : Own K S H' o v fp) (nd : fp.Nodup) (n : ∀ b ∈ fp, S b = none /\ A b = none)
  (keep : ∀ (j : Nat) o', j ≠ i -> ρ[j]? = some (.ow o') -> ∀ b ∈ Φ j, H' b = H b /\ b ∉ fp) : RlF K A Λ (fun j => if j = i then fp else Φ j) (ρ.set i (.ow o)) (σ.set i (some v)) S H' where
 len := by rw [MC, MC]; exact r.len
 sub := sub
 sh := fun j e hj => by
  rcases bm hj with ⟨rfl, e, hl⟩ | ⟨hij, hj⟩
  ·cases e
  ·rw [Ms hij]
   exact r.sh j e hj
 ow := fun j o' hj => by
  rcases bm hj with ⟨rfl, e, hl⟩ | ⟨hij, hj⟩
  ·cases e
   rw [LO rfl]
   exact ⟨v, MK (by rw [r.len]; exact hl), ow, nd, n⟩
  ·rw [Ms hij, LP (Ma hij)]
   obtain ⟨w, h1, h2, h3, h4⟩ := r.ow j o' hj
   exact ⟨w, h1, h2.mono (Same.refl _) fun b hb => (keep j o' (Ma hij) hj b hb).1, h3, h4⟩
 dj := fun j k o1 o2 hjk h1 h2 b hb hb2 => by
  rcases bm h1 with ⟨rfl, e, hl⟩ | ⟨hij, h1⟩
  ·rcases bm h2 with ⟨rfl, e, hl⟩ | ⟨hik, h2⟩
   ·exact hjk rfl
   ·rw [LO rfl] at hb
    rw [LP (Ma hik)] at hb2
    exact (keep k o2 (Ma hik) h2 b hb2).2 hb
  ·rcases bm h2 with ⟨rfl, e, hl⟩ | ⟨hik, h2⟩
   ·rw [LO rfl] at hb2
    rw [LP (Ma hij)] at hb
    exact (keep j o1 (Ma hij) h1 b hb).2 hb2
   ·rw [LP (Ma hij)] at hb
    rw [LP (Ma hik)] at hb2
    exact r.dj j k o1 o2 hjk h1 h2 b hb hb2
 lo := fun j hj => by
  rcases bm hj with ⟨rfl, e, hl⟩ | ⟨hij, hj⟩
  ·cases e
  ·rw [Ms hij]
   exact r.lo j hj
 asub := asub
 adis := r.adis
theorem xl {α : Type} {l : List α} {i : Nat} {x : α} (h : l[i]? = some x) : l.set i x = l := by
 apply List.ext_getElem?
 intro j
 by_cases e : i = j
 ·subst e
  rw [MK (LW.mp h).1, h]
 ·rw [Ms e]
noncomputable def frz (i : Nat) (ρ : Env) : Env := match ρ[i]? with | some (.ow o) => ρ.set i (.sh o.d) | _ => ρ
@[simp] noncomputable def Li (i : Nat) (m : XS) : XS := fun ρ => m (frz i ρ)
noncomputable abbrev XG := D -> Env -> Option Env
noncomputable abbrev XGs := List D -> Env -> Option Env
def SG (K : W.Frag) (g : TG) (x : XG) : Prop := ∀ A Λ ρ σ S H v d (Q : St -> Hp -> Prop) ρ', RlA K A Λ ρ σ S H -> Den K S d v -> x d ρ = some ρ' -> (∀ σ', RlA K A Λ ρ' σ' S H -> Q σ' H) -> g v σ H Q
def SGs (K : W.Frag) (g : TGs) (x : XGs) : Prop := ∀ A Λ ρ σ S H vs ds (Q : St -> Hp -> Prop) ρ', RlA K A Λ ρ σ S H -> Dens K S ds vs -> x ds ρ = some ρ' -> (∀ σ', RlA K A Λ ρ' σ' S H -> Q σ' H) -> g vs σ H Q
@[simp] noncomputable def af (i : Nat) : XG := fun d ρ => some (ρ.set i (.sh d))
noncomputable def cF : XGs := fun ds ρ => match ds with | [] => some ρ | _ => none
noncomputable def aw (x : XG) (y : XGs) : XGs := fun ds ρ => match ds with | d :: r => (x d ρ).bind (y r) | [] => none
noncomputable def cO (y : XGs) : XG := fun d ρ => match d with | .tup l => y l ρ | _ => none
theorem az (i : Nat) : SG K (dY i) (af i) := fun A Λ ρ σ S H v d Q ρ' r dv x k => by cases x; exact k _ (r.set i dv)
theorem oA : SGs K HG cF := fun A Λ ρ σ S H vs ds Q ρ' r dv x k => by
 cases ds with
 | nil => cases x; exact ⟨dv.nil_of, k σ r⟩
 | cons _ _ => cases x
theorem cA {g : TG} {gs : TGs} {x : XG} {y : XGs} (h : SG K g x) (hs : SGs K gs y) : SGs K (D8 g gs) (aw x y) := fun A Λ ρ σ S H vs ds Q ρ' r dv e k => by
 cases ds with
 | nil => cases e
 | cons d ds =>
  obtain ⟨v, vs, rfl, h1, h2⟩ := dv.cons_of
  have e' : (x d ρ).bind (y ds) = some ρ' := e
  cases q : x d ρ with
  | none => rw [q] at e'; cases e'
  | some ρ1 =>
   rw [q] at e'
   exact ⟨v, vs, rfl, h A Λ ρ σ S H v d _ ρ1 r h1 q fun σ1 r1 => hs A Λ ρ1 σ1 S H vs ds Q ρ' r1 h2 e' k⟩
def A4 (y : XGs) (n : Nat) : Prop := ∀ ds ρ ρ', y ds ρ = some ρ' -> ds.length = n
theorem jB : A4 cF 0 := fun ds ρ ρ' e => by cases ds with | nil => rfl | cons _ _ => cases e
theorem bJ {x : XG} {y : XGs} {n : Nat} (h : A4 y n) : A4 (aw x y) (n + 1) := fun ds ρ ρ' e => by
 cases ds with
 | nil => cases e
 | cons d ds =>
  have e' : (x d ρ).bind (y ds) = some ρ' := e
  cases q : x d ρ with
  | none => rw [q] at e'; cases e'
  | some ρ1 => rw [q] at e'; rw [Mh, h ds ρ1 ρ' e']
theorem nR {gs : TGs} {y : XGs} {n : Nat} (hs : SGs K gs y) (hl : A4 y n) : SG K (GS K n gs) (cO y) := fun A Λ ρ σ S H v d Q ρ' r dv e k => by
 cases d with
 | tup l =>
  obtain ⟨p, xs, rfl, h1, h2⟩ := hU dv
  exact ⟨p, xs, rfl, dr r.sub h1, by rw [<- h2.length]; exact hl l ρ ρ' e, hs A Λ ρ σ S H xs l Q ρ' r h2 e k⟩
 | _ => cases e
@[simp] noncomputable def cP (e : XE) (g : XG) : XS := fun ρ => (e ρ).bind fun d => (g d ρ).map .nx
theorem b6 {te : TE} {g : TG} {e : XE} {x : XG} (h : SE K te e) (hg : SG K g x) : SS K (uz te g) (cP e x) := fun A Λ ρ σ S H E o r y k => by
 unfold cP at y
 cases q : e ρ with
 | none => rw [q] at y; cases y
 | some d =>
  rw [q] at y
  dsimp only [Option.bind] at y
  cases q2 : x d ρ with
  | none => rw [q2] at y; cases y
  | some ρ' =>
   rw [q2] at y
   cases y
   exact h ρ σ S H _ d r.toRl q fun v S1 H1 z1 d1 => hg A Λ ρ σ S1 H1 v d _ ρ' (r.ext z1) d1 q2 fun σ' r' => k σ' S1 H1 r' z1.sh
@[simp] noncomputable def qN (e : Env -> Option O) (i : Nat) : XS := fun ρ => (e ρ).map fun o => .nx (ρ.set i (.ow o))
theorem sn {te : TE} {e : Env -> Option O} {i : Nat} (h : STr K te e) : SS K (uz te (dY i)) (qN e i) := fun A Λ ρ σ S H E o r y k => by
 unfold qN at y
 cases q : e ρ with
 | none => rw [q] at y; cases y
 | some ot =>
  rw [q] at y
  cases y
  obtain ⟨Φ, f⟩ := r
  refine h ρ σ S H _ ot ⟨A, Λ, Φ, f⟩ q fun v fp S1 H1 z1 o1 nd n => ?_
  have r1 := f.ext z1
  refine k _ S1 H1 ⟨_, r1.put (H' := H1) i r1.sub r1.asub o1 nd (fun b hb => ⟨(n b hb).2, f.asub.free (n b hb).1⟩) fun j o' hj e1 b hb => ⟨rfl, fun hf => ?_⟩⟩ z1.sh
  obtain ⟨w, _, k2, _, _⟩ := f.ow j o' e1
  exact k2.there b hb (n b hf).1
@[simp] noncomputable def pZ (e : XA) (i : Nat) : XS := qN (xLT e) i
theorem mO {te : TE} {e : XA} {i : Nat} (h : SF K te e) : SS K (uz te (dY i)) (pZ e i) := sn h.t
noncomputable def dS : O -> List Int -> Option O
 | o, [] => some o
 | .lst l, k :: r => (atI l k).bind fun o => dS o r
 | .tup l, k :: r => (atI l k).bind fun o => dS o r
 | .sh _, _ :: _ => none
 | .dic _, _ :: _ => none
noncomputable def tN (l : List O) (k : Int) (f : O -> O) : List O := match ixN l.length k with
 | some j => (match l[j]? with | some o => l.set j (f o) | none => l)
 | none => l
noncomputable def jw : O -> List Int -> O -> O
 | _, [], q => q
 | .lst l, k :: r, q => .lst (tN l k fun o => jw o r q)
 | .tup l, k :: r, q => .tup (tN l k fun o => jw o r q)
 | .sh d, _ :: _, _ => .sh d
 | .dic d, _ :: _, _ => .dic d
noncomputable def WalkV (H : Hp) : V -> List Int -> V -> Prop
 | v, [], w => v = w
 | v, k :: r, w => ∃ a xs u, v = .ref a /\ (H a = some (.lst xs) \/ H a = some (.tup xs)) /\ atI xs k = some u /\ WalkV H u r w
theorem WalkV.mono (s : Same H H') : ∀ {p : List Int} {v w : V}, WalkV H v p w -> WalkV H' v p w
 | [], _, _, h => h
 | _ :: _, _, _, ⟨a, xs, u, e, h, k, m⟩ => ⟨a, xs, u, e, h.elim (fun z => .inl (s _ _ z)) (fun z => .inr (s _ _ z)), k, m.mono s⟩
theorem WalkV.uniq : ∀ {p : List Int} {v w w' : V}, WalkV H v p w -> WalkV H v p w' -> w = w'
 | [], _, _, _, h, k => h.symm.trans k
 | _ :: _, _, _, _, hpt0, hpt1 => by
  obtain ⟨a, xs, u, e, h, k, m⟩ := hpt0
  obtain ⟨a', xs', u', e', h', k', m'⟩ := hpt1
  rw [e] at e'
  cases e'
  have : xs = xs' := by
   rcases h with h | h <;> rcases h' with h' | h' <;> rw [h] at h' <;> cases h' <;> rfl
  subst this
  rw [k] at k'
  cases k'
  exact m.uniq m'
theorem WalkV.snoc : ∀ {p : List Int} {v w u : V} {k : Int} {a : Addr} {xs : List V}, WalkV H v p w -> w = .ref a -> (H a = some (.lst xs) \/ H a = some (.tup xs)) -> atI xs k = some u -> WalkV H v (p ++ [k]) u
 | [], _, _, u, k, a, xs, h, e, h1, h2 => ⟨a, xs, u, h.trans e, h1, h2, rfl⟩
 | _ :: _, _, _, _, _, _, _, ⟨b, ys, u', e, h, k, m⟩, e', h1, h2 => ⟨b, ys, u', e, h, k, m.snoc e' h1 h2⟩
theorem o5 : ∀ {p : List Int} {o q : O} {k : Int}, dS o (p ++ [k]) = some q -> ∃ q0, dS o p = some q0 /\ dS q0 [k] = some q
 | [], o, q, k, h => ⟨o, by unfold dS; rfl, h⟩
 | j :: p, o, q, k, h => by
  cases o with
  | sh d => cases h
  | dic _ => cases h
  | lst l =>
   have h' : (atI l j).bind (fun o => dS o (p ++ [k])) = some q := h
   cases e : atI l j with
   | none => rw [e] at h'; cases h'
   | some o1 =>
    rw [e] at h'
    obtain ⟨q0, a, b⟩ := o5 (p := p) h'
    exact ⟨q0, by show (atI l j).bind (fun o => dS o p) = some q0; rw [e]; exact a, b⟩
  | tup l =>
   have h' : (atI l j).bind (fun o => dS o (p ++ [k])) = some q := h
   cases e : atI l j with
   | none => rw [e] at h'; cases h'
   | some o1 =>
    rw [e] at h'
    obtain ⟨q0, a, b⟩ := o5 (p := p) h'
    exact ⟨q0, by show (atI l j).bind (fun o => dS o p) = some q0; rw [e]; exact a, b⟩
theorem Owns.split : ∀ {l : List O} {xs : List V} {f : List Addr} {j : Nat} {o : O}, Owns K S H l xs f -> l[j]? = some o -> ∃ x f1 f2 f3, xs[j]? = some x /\ f = f1 ++ (f2 ++ f3) /\ Own K S H o x f2 /\
  ∀ H' o' f2', Own K S H' o' x f2' -> (∀ b ∈ f1, H' b = H b) -> (∀ b ∈ f3, H' b = H b) -> Owns K S H' (l.set j o') xs (f1 ++ (f2' ++ f3))
 | [], _, _, _, _, _, e => by simp at e
 | o0 :: l, _, _, 0, o, h, e => by
  obtain ⟨y, ys, f, g, rfl, rfl, a, b⟩ := h.cons_of
  simp at e; subst e
  exact ⟨y, [], f, g, rfl, rfl, a, fun H' o' f2' h1 _ h3 => Owns.cons (f := f2') h1 (b.mono (Same.refl _) h3)⟩
 | o0 :: l, _, _, j + 1, o, h, e => by
  obtain ⟨y, ys, f, g, rfl, rfl, a, b⟩ := h.cons_of
  obtain ⟨x, f1, f2, f3, e1, rfl, h1, h2⟩ := b.split (j := j) (by simpa using e)
  refine ⟨x, f ++ f1, f2, f3, by simpa using e1, by rw [Mj], h1, fun H' o' f2' k1 k2 k3 => ?_⟩
  rw [Mj]
  exact .cons (a.mono (Same.refl _) fun b hb => k2 b (Me _ hb)) (h2 H' o' f2' k1 (fun b hb => k2 b (L0 _ hb)) k3)
theorem Ar {α : Type} {l : List α} {k : Int} {x : α} (h : atI l k = some x) : ∃ j, ixN l.length k = some j /\ l[j]? = some x := by
 unfold atI at h
 cases q : ixN l.length k with
 | none => rw [q] at h; cases h
 | some j => rw [q] at h; exact ⟨j, rfl, h⟩
theorem Dm : ∀ {p : List Int} {o q : O} {v : V} {fp : List Addr}, Own K S H o v fp -> fp.Nodup -> dS o p = some q -> ∃ w fq, Own K S H q w fq /\ WalkV H v p w /\ (∀ b ∈ fq, b ∈ fp) /\ fq.Nodup /\
  ∀ H' q' fq', Own K S H' q' w fq' -> fq'.Nodup -> (∀ b ∈ fp, b ∉ fq -> H' b = H b) -> (∀ b ∈ fq', b ∈ fp -> b ∈ fq) -> ∃ fp', Own K S H' (jw o p q') v fp' /\ fp'.Nodup /\ ∀ b ∈ fp', b ∈ fp \/ b ∈ fq'
 | [], o, q, v, fp, h, nd, e => by
  have e' : some o = some q := by unfold dS at e; exact e
  cases e'
  exact ⟨v, fp, h, rfl, fun b hb => hb, nd, fun H' q' fq' h1 n1 _ _ => ⟨fq', by unfold jw; exact h1, n1, fun b hb => .inr hb⟩⟩
 | k :: r, o, q, v, fp, h, nd, e => by
  have body : ∀ (l : List O) (a : Addr) (xs : List V) (f : List Addr), v = .ref a -> fp = a :: f -> (H a = some (.lst xs) \/ H a = some (.tup xs)) -> Owns K S H l xs f -> ((atI l k).bind fun o => dS o r) = some q ->
    ∃ w fq, Own K S H q w fq /\ WalkV H v (k :: r) w /\ (∀ b ∈ fq, b ∈ fp) /\ fq.Nodup /\ ∀ H' q' fq', Own K S H' q' w fq' -> fq'.Nodup -> (∀ b ∈ fp, b ∉ fq -> H' b = H b) -> (∀ b ∈ fq', b ∈ fp -> b ∈ fq) ->
     ∃ f', Owns K S H' (tN l k fun o => jw o r q') xs f' /\ H' a = H a /\ (a :: f').Nodup /\ ∀ b ∈ a :: f', b ∈ fp \/ b ∈ fq' := by
   rintro l a xs f rfl rfl ha hl hs
   obtain ⟨na, nf⟩ := Mq.mp nd
   cases qa : atI l k with
   | none => rw [qa] at hs; cases hs
   | some o1 =>
    rw [qa] at hs
    obtain ⟨j, ej, el⟩ := Ar qa
    obtain ⟨x, f1, f2, f3, ex, rfl, h1, h2⟩ := hl.split el
    obtain ⟨n1, n23, d1⟩ := MN.mp nf
    obtain ⟨n2, n3, d2⟩ := MN.mp n23
    obtain ⟨w, fq, k1, k2, k3, k4, k5⟩ := Dm (p := r) h1 n2 hs
    have ax : atI xs k = some x := by unfold atI; rw [<- hl.length, ej]; exact ex
    refine ⟨w, fq, k1, ⟨a, xs, x, rfl, ha, ax, k2⟩, fun b hb => LY _ (L0 _ (Me _ (k3 b hb))), k4, fun H' q' fq' g1 g2 g3 g4 => ?_⟩
    have in2 : ∀ b ∈ fq, b ∈ f2 := k3
    have a1 : ∀ b ∈ f1, b ∉ fq := fun b hb hq => d1 b hb b (Me _ (in2 b hq)) rfl
    have a3 : ∀ b ∈ f3, b ∉ fq := fun b hb hq => d2 b (in2 b hq) b hb rfl
    have aa : a ∉ fq := fun hq => na (L0 _ (Me _ (in2 a hq)))
    obtain ⟨f2', m1, m2, m3⟩ := k5 H' q' fq' g1 g2 (fun b hb hn => g3 b (LY _ (L0 _ (Me _ hb))) hn) fun b hb hp => g4 b hb (LY _ (L0 _ (Me _ hp)))
    have out : ∀ b ∈ f2', b ∉ f1 /\ b ∉ f3 /\ b ≠ a := fun b hb => by
     rcases m3 b hb with hb | hb
     ·exact ⟨fun z => d1 b z b (Me _ hb) rfl, fun z => d2 b hb b z rfl, fun z => na (z ▸ L0 _ (Me _ hb))⟩
     ·refine ⟨fun z => a1 b z (g4 b hb (LY _ (Me _ z))), fun z => a3 b z (g4 b hb (LY _ (L0 _ (L0 _ z)))), fun z => ?_⟩
      subst z
      exact aa (g4 b hb LV)
    refine ⟨f1 ++ (f2' ++ f3), ?_, g3 a LV aa, ?_, fun b hb => ?_⟩
    ·unfold tN
     rw [ej]
     dsimp only
     rw [el]
     exact h2 H' _ f2' m1 (fun b hb => g3 b (LY _ (Me _ hb)) (a1 b hb)) fun b hb => g3 b (LY _ (L0 _ (L0 _ hb))) (a3 b hb)
    ·refine Mq.mpr ⟨fun z => ?_, MN.mpr ⟨n1, MN.mpr ⟨m2, n3, fun b hb c hc e => (out b hb).2.1 (e ▸ hc)⟩, fun b hb c hc e => ?_⟩⟩
     ·rcases Mb.mp z with z | z
      ·exact na (Me _ z)
      ·rcases Mb.mp z with z | z
       ·exact (out a z).2.2 rfl
       ·exact na (L0 _ (L0 _ z))
     ·subst e
      rcases Mb.mp hc with hc | hc
      ·exact (out b hc).1 hb
      ·exact d1 b hb b (L0 _ hc) rfl
    ·rcases L9.mp hb with rfl | hb
     ·exact .inl LV
     ·rcases Mb.mp hb with hb | hb
      ·exact .inl (LY _ (Me _ hb))
      ·rcases Mb.mp hb with hb | hb
       ·exact (m3 b hb).imp (fun z => LY _ (L0 _ (Me _ z))) id
       ·exact .inl (LY _ (L0 _ (L0 _ hb)))
  cases o with
  | sh d => cases e
  | dic _ => cases e
  | lst l =>
   obtain ⟨a, xs, f, e1, e2, h1, h2⟩ := own_lst.mp h
   obtain ⟨w, fq, k1, k2, k3, k4, k5⟩ := body l a xs f e1 e2 (.inl h1) h2 e
   refine ⟨w, fq, k1, k2, k3, k4, fun H' q' fq' g1 g2 g3 g4 => ?_⟩
   obtain ⟨f', m1, m2, m3, m4⟩ := k5 H' q' fq' g1 g2 g3 g4
   exact ⟨a :: f', by unfold jw; exact own_lst.mpr ⟨a, xs, f', e1, rfl, by rw [m2]; exact h1, m1⟩, m3, m4⟩
  | tup l =>
   obtain ⟨a, xs, f, e1, e2, h1, h2⟩ := own_tup.mp h
   obtain ⟨w, fq, k1, k2, k3, k4, k5⟩ := body l a xs f e1 e2 (.inr h1) h2 e
   refine ⟨w, fq, k1, k2, k3, k4, fun H' q' fq' g1 g2 g3 g4 => ?_⟩
   obtain ⟨f', m1, m2, m3, m4⟩ := k5 H' q' fq' g1 g2 g3 g4
   exact ⟨a :: f', by unfold jw; exact own_tup.mpr ⟨a, xs, f', e1, rfl, by rw [m2]; exact h1, m1⟩, m3, m4⟩
noncomputable abbrev XP := Env -> Option (List Int)
def zE (K : W.Frag) (to : TE) (i : Nat) (p : XP) : Prop := ∀ ρ σ S H (Q : VK) is o q, Rl K ρ σ S H -> ρ[i]? = some (.ow o) -> p ρ = some is -> dS o is = some q -> (∀ v w S' H', σ[i]? = some (some v) -> Ext S H S' H' -> WalkV H' v is w -> Q w H') -> to σ H Q
@[simp] noncomputable def xPv : XP := fun _ => some []
theorem lQ (i : Nat) : zE K (iY i) i xPv := fun ρ σ S H Q is o q r h1 h2 h3 k => by
 cases h2
 obtain ⟨v, fp, e, _⟩ := r.ow i o h1
 exact ⟨v, e, k v v S H e (Ext.refl r.sub) rfl⟩
@[simp] noncomputable def xPi (p : XP) (ix : XE) : XP := fun ρ => (p ρ).bind fun is => (ix ρ).bind fun d => match d with | .int k => some (is ++ [k]) | _ => none
theorem JG {to ti : TE} {i : Nat} {p : XP} {ix : XE} (hp : zE K to i p) (hi : SPk K ti ix) : zE K (tOp (rIx K) to ti) i (xPi p ix) := fun ρ σ S H Q is o q r h1 h2 h3 k => by
 unfold xPi at h2
 cases e1 : p ρ with
 | none => rw [e1] at h2; cases h2
 | some js =>
  rw [e1] at h2
  dsimp only [Option.bind] at h2
  cases e2 : ix ρ with
  | none => rw [e2] at h2; cases h2
  | some d =>
   rw [e2] at h2
   cases d with
   | int kk =>
    cases h2
    obtain ⟨q0, s1, s2⟩ := o5 h3
    refine hp ρ σ S H _ js o q0 r h1 e1 s1 fun v w S1 H1 ev z1 wk => ?_
    have r1 := r.ext z1
    refine hi ρ σ S1 H1 _ _ r1 e2 fun u S2 H2 z2 d2 => ?_
    have r2 := r1.ext z2
    obtain ⟨v', fp, ev', ow, nd, _⟩ := r2.ow i o h1
    rw [ev] at ev'
    cases ev'
    obtain ⟨w', fq, k1, k2, _⟩ := Dm ow nd s1
    have ew := k2.uniq (wk.mono (z2.same r1.sub))
    subst ew
    rw [d2.int]
    cases q0 with
    | sh _ => cases s2
    | dic _ => cases s2
    | lst l =>
     have s2' : (atI l kk).bind (fun o => dS o []) = some q := s2
     cases e3 : atI l kk with
     | none => rw [e3] at s2'; cases s2'
     | some o1 =>
      obtain ⟨a, xs, f, rfl, rfl, hx, hl⟩ := own_lst.mp k1
      obtain ⟨j, ej, el⟩ := Ar e3
      obtain ⟨x, _, _, _, ex, _⟩ := hl.split el
      have ax : atI xs kk = some x := by unfold atI; rw [<- hl.length, ej]; exact ex
      exact .inl ⟨a, xs, kk, x, rfl, rfl, SqL.of hx, ax, k v x S2 H2 ev (z1.trans z2) (k2.snoc rfl (.inl hx) ax)⟩
    | tup l =>
     have s2' : (atI l kk).bind (fun o => dS o []) = some q := s2
     cases e3 : atI l kk with
     | none => rw [e3] at s2'; cases s2'
     | some o1 =>
      obtain ⟨a, xs, f, rfl, rfl, hx, hl⟩ := own_tup.mp k1
      obtain ⟨j, ej, el⟩ := Ar e3
      obtain ⟨x, _, _, _, ex, _⟩ := hl.split el
      have ax : atI xs kk = some x := by unfold atI; rw [<- hl.length, ej]; exact ex
      exact .inr (.inl ⟨a, xs, kk, x, rfl, rfl, SqT.of hx, ax, k v x S2 H2 ev (z1.trans z2) (k2.snoc rfl (.inr hx) ax)⟩)
   | _ => cases h2
theorem RlF.at {A : Hp} {Λ : Nat -> Option Addr} {Φ : Nat -> List Addr} {ρ : Env} {σ : St} {i : Nat} {o : O} {is : List Int} {l : List O} {v w : V} (f : RlF K A Λ Φ ρ σ S H) (h1 : ρ[i]? = some (.ow o)) (h2 : dS o is = some (.lst l)) (ev : σ[i]? = some (some v)) (wk : WalkV H v is w) :
  ∃ a xs f0, w = .ref a /\ H a = some (.lst xs) /\ Owns K S H l xs f0 /\ (a :: f0).Nodup /\ (∀ b ∈ a :: f0, b ∈ Φ i) /\ ∀ l' xs' f', (∀ H', (∀ b, b ≠ a -> H' b = H b) -> Owns K S H' l' xs' f') -> (a :: f').Nodup -> (∀ b ∈ f', b ∈ f0 \/ ((∀ (j : Nat) o', ρ[j]? = some (.ow o') -> b ∉ Φ j) /\ S b = none /\ A b = none)) ->
   RlA K A Λ (ρ.set i (.ow (jw o is (.lst l')))) σ S (upd H a (.lst xs')) := by
 obtain ⟨v', e', ow, nd, n⟩ := f.ow i o h1
 rw [ev] at e'
 cases e'
 obtain ⟨w', fq, k1, k2, k3, k4, k5⟩ := Dm ow nd h2
 have ew := k2.uniq wk
 subst ew
 obtain ⟨a, xs, g, rfl, rfl, hx, hl⟩ := own_lst.mp k1
 have ain := k3 a LV
 refine ⟨a, xs, g, rfl, hx, hl, k4, k3, fun l' xs' f' g1 g2 g3 => ?_⟩
 have ne : ∀ b, b ≠ a -> upd H a (.lst xs') b = H b := fun b hb => aW hb
 obtain ⟨fp', m1, m2, m3⟩ := k5 (upd H a (.lst xs')) (.lst l') (a :: f') (own_lst.mpr ⟨a, xs', f', rfl, rfl, aO, g1 _ ne⟩) g2 (fun b hb hn => ne b fun z => hn (z ▸ LV)) fun b hb hp => by
  rcases L9.mp hb with rfl | hb
  ·exact LV
  ·rcases g3 b hb with z | ⟨z, _⟩
   ·exact LY _ z
   ·exact absurd hp (z i o h1)
 have sub' : Same S (upd H a (.lst xs')) := fun b u e => by rw [ne b fun z => by subst z; rw [(n b ain).1] at e; cases e]; exact f.sub b u e
 have asub' : Same A (upd H a (.lst xs')) := fun b u e => by rw [ne b fun z => by subst z; rw [(n b ain).2] at e; cases e]; exact f.asub b u e
 have fin := f.put (H' := upd H a (.lst xs')) i sub' asub' m1 m2 (fun b hb => by
  rcases m3 b hb with z | z
  ·exact n b z
  ·rcases L9.mp z with rfl | z
   ·exact n b ain
   ·rcases g3 b z with z | ⟨_, z⟩
    ·exact n b (k3 b (LY _ z))
    ·exact z) fun j o' hj e1 b hb => by
   have nb : b ∉ Φ i := fun z => f.dj j i o' o hj e1 h1 b hb z
   refine ⟨ne b fun z => nb (z ▸ ain), fun z => ?_⟩
   rcases m3 b z with z | z
   ·exact nb z
   ·rcases L9.mp z with rfl | z
    ·exact nb ain
    ·rcases g3 b z with z | ⟨z, _⟩
     ·exact nb (k3 b (LY _ z))
     ·exact z j o' e1 hb
 rw [xl ev] at fin
 exact ⟨_, fin⟩
theorem RlF.fresh {A : Hp} {Λ : Nat -> Option Addr} {Φ : Nat -> List Addr} {ρ : Env} {σ : St} {b : Addr} (f : RlF K A Λ Φ ρ σ S H) (h : H b = none) : (∀ (j : Nat) o', ρ[j]? = some (.ow o') -> b ∉ Φ j) /\ S b = none /\ A b = none :=
 ⟨fun j o' e hb => by obtain ⟨_, _, ow, _⟩ := f.ow j o' e; exact ow.there b hb h, f.sub.free h, f.asub.free h⟩
@[simp] noncomputable def sO (i : Nat) (p : XP) (e : Env -> Option O) : XS := fun ρ => match ρ[i]? with
 | some (.ow o) => (p ρ).bind fun is => (e ρ).bind fun x => match dS o is with
  | some (.lst l) => if l.length < LIM then some (.nx (ρ.set i (.ow (jw o is (.lst (l ++ [x])))))) else none
  | _ => none
 | _ => none
theorem ue {to te : TE} {i : Nat} {p : XP} {e : Env -> Option O} (hp : zE K to i p) (h : STr K te e) : SS K (vI (tBM K "list" rAppend to (kX te um))) (sO i p e) := fun A Λ ρ σ S H E out r y k => by
 unfold sO at y
 cases q0 : ρ[i]? with
 | none => rw [q0] at y; cases y
 | some s =>
  rw [q0] at y
  cases s with
  | un => cases y
  | lo => cases y
  | sh d => cases y
  | ow o =>
   dsimp only at y
   cases q1 : p ρ with
   | none => rw [q1] at y; cases y
   | some is =>
    rw [q1] at y
    dsimp only [Option.bind] at y
    cases q2 : e ρ with
    | none => rw [q2] at y; cases y
    | some x =>
     rw [q2] at y
     dsimp only at y
     cases q3 : dS o is with
     | none => rw [q3] at y; cases y
     | some qo =>
      rw [q3] at y
      cases qo with
      | sh _ => cases y
      | dic _ => cases y
      | tup _ => cases y
      | lst l =>
       dsimp only at y
       split at y
       ·rename_i hl
        cases y
        obtain ⟨Φ, f⟩ := r
        refine hp ρ σ S H _ is o _ ⟨A, Λ, Φ, f⟩ q0 q1 q3 fun v w S1 H1 ev z1 wk => ?_
        have f1 := f.ext z1
        obtain ⟨a, xs, g0, rfl, hx, hw, nd0, in0, _⟩ := f1.at q0 q3 ev wk
        refine ⟨.inl ⟨rfl, xs, SqL.of hx⟩, h ρ σ S1 H1 _ x ⟨A, Λ, Φ, f1⟩ q2 fun u fu S2 H2 z2 ou nd n => ?_⟩
        have f2 := f1.ext z2
        obtain ⟨a', xs', g1, e1, hx', hw', nd1, in1, up⟩ := f2.at q0 q3 ev (wk.mono (z2.same f1.sub))
        cases e1
        have fr : ∀ b ∈ fu, (∀ (j : Nat) o', ρ[j]? = some (.ow o') -> b ∉ Φ j) /\ S2 b = none /\ A b = none := fun b hb => ⟨(f1.fresh (n b hb).1).1, (n b hb).2, (f1.fresh (n b hb).1).2.2⟩
        have fa : ∀ b ∈ fu, b ∉ a :: g1 := fun b hb z => (fr b hb).1 i o q0 (in1 b z)
        obtain ⟨na, ng⟩ := Mq.mp nd1
        refine ⟨a, xs', u, rfl, rfl, hx', ?_, ?_⟩
        ·rw [<- hw'.length]; exact Nat.lt_trans hl gj
        ·refine k σ S2 _ (up (l ++ [x]) (xs' ++ [u]) (g1 ++ fu) (fun H' ne => ?_) ?_ fun b hb => ?_) (z1.sh.trans z2.sh)
         ·have := (hw'.mono (H' := H') (Same.refl _) fun b hb => ne b fun z => na (z ▸ hb)).append (.cons (ou.mono (H' := H') (Same.refl _) fun b hb => ne b fun z => fa b hb (z ▸ LV)) .nil)
          rw [Mv] at this
          exact this
         ·refine Mq.mpr ⟨fun z => ?_, MN.mpr ⟨ng, nd, fun b hb c hc e => fa c hc (e ▸ LY _ hb)⟩⟩
          rcases Mb.mp z with z | z
          ·exact na z
          ·exact fa a z LV
         ·rcases Mb.mp hb with hb | hb
          ·exact .inl hb
          ·exact .inr (fr b hb)
       ·cases y
@[simp] noncomputable def KG (i : Nat) (p : XP) (j : Nat) : XS := fun ρ => match ρ[i]? with
 | some (.ow o) => (p ρ).bind fun is => match dS o is with
  | some (.lst l) => (match l.getLast? with
   | some (.sh d) => some (.nx ((ρ.set i (.ow (jw o is (.lst l.dropLast)))).set j (.sh d)))
   | _ => none)
  | _ => none
 | _ => none
theorem Owns.last : ∀ {l : List O} {xs : List V} {f : List Addr} {d : D}, Owns K S H l xs f -> l.getLast? = some (.sh d) -> ∃ y, xs[xs.length - 1]? = some y /\ Den K S d y /\ Owns K S H l.dropLast xs.dropLast f
 | [], _, _, _, _, e => by simp at e
 | [o], _, _, d, h, e => by
  obtain ⟨y, ys, f, g, rfl, rfl, a, b⟩ := h.cons_of
  obtain ⟨rfl, rfl⟩ := b.nil_of
  simp at e; subst e
  obtain ⟨e1, e2⟩ := own_sh.mp a
  subst e1
  exact ⟨y, rfl, e2, .nil⟩
 | o :: o2 :: l, _, _, d, h, e => by
  obtain ⟨y, ys, f, g, rfl, rfl, a, b⟩ := h.cons_of
  obtain ⟨z, h1, h2, h3⟩ := b.last (by simpa using e)
  have hl := b.length
  obtain ⟨y2, ys2, rfl⟩ : ∃ y2 ys2, ys = y2 :: ys2 := by cases ys with | nil => simp at hl | cons y2 ys2 => exact ⟨_, _, rfl⟩
  refine ⟨z, ?_, h2, ?_⟩
  ·simpa using h1
  ·rw [List.dropLast_cons_cons, List.dropLast_cons_cons]; exact .cons a h3
@[simp] noncomputable def KP (i : Nat) (p : XP) : XS := fun ρ => match ρ[i]? with
 | some (.ow o) => (p ρ).bind fun is => match dS o is with
  | some (.lst l) => (match shs l with | some ds => some (.nx (ρ.set i (.ow (jw o is (.lst (ds.reverse.map .sh)))))) | none => none)
  | _ => none
 | _ => none
noncomputable def rExtM : V -> List V -> Hp -> VK -> Prop := fun x vs H Q => ∃ l b xs zs, x = .ref l /\ vs = [.ref b] /\ H l = some (.lst xs) /\ Rd H b (.lst zs) /\ xs.length + zs.length <= sizeLine /\ Q .non (upd H l (.lst (xs ++ zs)))
@[simp] noncomputable def Bx (i : Nat) (p : XP) (e : XE) : XS := fun ρ => match ρ[i]? with
 | some (.ow o) => (p ρ).bind fun is => (e ρ).bind fun d => match dS o is, d with
  | some (.lst l), .lst ds => if l.length + ds.length <= LIM then some (.nx (ρ.set i (.ow (jw o is (.lst (l ++ ds.map .sh)))))) else none
  | _, _ => none
 | _ => none
theorem Di {to te : TE} {i : Nat} {p : XP} {e : XE} (hp : zE K to i p) (h : SE K te e) : SS K (vI (tBM K "list" rExtM to (kX te um))) (Bx i p e) := fun A Λ ρ σ S H E out r y k => by
 unfold Bx at y
 cases q0 : ρ[i]? with
 | none => rw [q0] at y; cases y
 | some s =>
  rw [q0] at y
  cases s with
  | un => cases y
  | lo => cases y
  | sh d => cases y
  | ow o =>
   dsimp only at y
   cases q1 : p ρ with
   | none => rw [q1] at y; cases y
   | some is =>
    rw [q1] at y
    dsimp only [Option.bind] at y
    cases q2 : e ρ with
    | none => rw [q2] at y; cases y
    | some dd =>
     rw [q2] at y
     dsimp only at y
     cases q3 : dS o is with
     | none => rw [q3] at y; cases y
     | some qo =>
      rw [q3] at y
      cases qo with
      | sh _ => cases y
      | dic _ => cases y
      | tup _ => cases y
      | lst l =>
       cases dd with
       | lst ds =>
        dsimp only at y
        split at y
        ·rename_i hl
         cases y
         obtain ⟨Φ, f⟩ := r
         refine hp ρ σ S H _ is o _ ⟨A, Λ, Φ, f⟩ q0 q1 q3 fun v w S1 H1 ev z1 wk => ?_
         have f1 := f.ext z1
         obtain ⟨a, xs, g0, rfl, hx, hw, nd0, in0, _⟩ := f1.at q0 q3 ev wk
         refine ⟨.inl ⟨rfl, xs, SqL.of hx⟩, h ρ σ S1 H1 _ _ ⟨A, Λ, Φ, f1⟩ q2 fun u S2 H2 z2 d2 => ?_⟩
         have f2 := f1.ext z2
         obtain ⟨a', xs', g1, e1, hx', hw', nd1, in1, up⟩ := f2.at q0 q3 ev (wk.mono (z2.same f1.sub))
         cases e1
         obtain ⟨b, zs, rfl, hb, dz⟩ := den_lst.mp d2
         obtain ⟨na, ng⟩ := Mq.mp nd1
         refine ⟨a, b, xs', zs, rfl, rfl, hx', cX z2.sub hb, ?_, ?_⟩
         ·rw [<- hw'.length, <- dz.length]; exact MB (MJ hl gj)
         ·refine k σ S2 _ (up (l ++ ds.map .sh) (xs' ++ zs) g1 (fun H' ne => ?_) nd1 fun b hb => .inl hb) (z1.sh.trans z2.sh)
          have := (hw'.mono (H' := H') (Same.refl _) fun b hb => ne b fun z => na (z ▸ hb)).append (rq (H := H') dz)
          rw [Mv] at this
          exact this
        ·cases y
       | _ => cases y
@[simp] noncomputable def En (i : Nat) (p : XP) (ix e : XE) : XS := fun ρ => (e ρ).bind fun d => match ρ[i]? with
 | some (.ow o) => (p ρ).bind fun is => (ix ρ).bind fun k => match dS o is, k with
  | some (.lst l), .int k => (match shs l with | some ds => (ixN ds.length k).map fun j => .nx (ρ.set i (.ow (jw o is (.lst ((ds.set j d).map .sh))))) | none => none)
  | _, _ => none
 | _ => none
theorem Hx {to te ti : TE} {i : Nat} {p : XP} {e ix : XE} (h : SE K te e) (hp : zE K to i p) (hi : SPk K ti ix) : SS K (uz te (HX to ti Gc)) (En i p ix e) := fun A Λ ρ σ S H E out r y k => by
 unfold En at y
 cases q : e ρ with
 | none => rw [q] at y; cases y
 | some d =>
  rw [q] at y
  dsimp only [Option.bind] at y
  cases q0 : ρ[i]? with
  | none => rw [q0] at y; cases y
  | some s =>
   rw [q0] at y
   cases s with
   | un => cases y
   | lo => cases y
   | sh d => cases y
   | ow o =>
    dsimp only at y
    cases q1 : p ρ with
    | none => rw [q1] at y; cases y
    | some is =>
     rw [q1] at y
     dsimp only at y
     cases q2 : ix ρ with
     | none => rw [q2] at y; cases y
     | some dk =>
      rw [q2] at y
      dsimp only at y
      cases q3 : dS o is with
      | none => rw [q3] at y; cases y
      | some qo =>
       rw [q3] at y
       cases qo with
       | sh _ => cases y
       | dic _ => cases y
       | tup _ => cases y
       | lst l =>
        cases dk with
        | int kk =>
         dsimp only at y
         cases q4 : shs l with
         | none => rw [q4] at y; cases y
         | some ds =>
          rw [q4] at y
          dsimp only at y
          cases q5 : ixN ds.length kk with
          | none => rw [q5] at y; cases y
          | some j =>
           rw [q5] at y
           cases y
           have ed := vQ q4
           subst ed
           obtain ⟨Φ, f⟩ := r
           refine h ρ σ S H _ d ⟨A, Λ, Φ, f⟩ q fun u S0 H0 z0 d0 => ?_
           have f0 := f.ext z0
           refine hp ρ σ S0 H0 _ is o _ ⟨A, Λ, Φ, f0⟩ q0 q1 q3 fun v w S1 H1 ev z1 wk => ?_
           have f1 := f0.ext z1
           refine hi ρ σ S1 H1 _ _ ⟨A, Λ, Φ, f1⟩ q2 fun w2 S2 H2 z2 d2 => ?_
           have f2 := f1.ext z2
           obtain ⟨a', xs', g1, rfl, hx', hw', nd1, in1, up⟩ := f2.at q0 q3 ev (wk.mono (z2.same f1.sub))
           obtain ⟨hd, rfl⟩ := jP hw'
           refine ⟨a', xs', kk, j, rfl, d2.int, hx', by rw [<- hd.length]; exact q5, ?_⟩
           exact k σ S2 _ (up ((ds.set j d).map .sh) (xs'.set j u) [] (fun H' ne => rq (hd.set j ((d0.mono z1.sh).mono z2.sh))) nd1 fun b hb => by cases hb) ((z0.sh.trans z1.sh).trans z2.sh)
        | _ => cases y
@[simp] noncomputable def HC (i : Nat) (e : XE) (f : D -> D -> Option D) : XS := fun ρ => match ρ[i]? with
 | some (.sh x) => (e ρ).bind fun y => (f x y).map fun z => .nx (ρ.set i (.sh z))
 | _ => none
theorem Ji {te : TE} {e : XE} {i : Nat} {ti : TIp} {f : D -> D -> Option D} (h : SPk K te e) (hr : SR2 K ti f) : SS K (Jh i te ti) (HC i e f) := fun A Λ ρ σ S H E o r y k => by
 unfold HC at y
 cases q0 : ρ[i]? with
 | none => rw [q0] at y; cases y
 | some s =>
  rw [q0] at y
  cases s with
  | un => cases y
  | lo => cases y
  | ow d => cases y
  | sh x =>
   dsimp only at y
   cases q : e ρ with
   | none => rw [q] at y; cases y
   | some d =>
    rw [q] at y
    dsimp only [Option.bind] at y
    cases q2 : f x d with
    | none => rw [q2] at y; cases y
    | some g =>
     rw [q2] at y
     cases y
     obtain ⟨v, h1, h2⟩ := r.sh i x q0
     refine ⟨v, h1, h ρ σ S H _ d r.toRl q fun w S1 H1 z1 d1 => ?_⟩
     exact hr S1 H1 v w x d g _ z1.sub (.inl (h2.mono z1.sh)) d1 q2 fun u S2 H2 z2 d2 => k _ S2 H2 ((r.ext (z1.trans z2)).set i d2) (z1.sh.trans z2.sh)
@[simp] noncomputable def KS (e : XE) : XS := fun ρ => (e ρ).map fun _ => .nx ρ
end
section
variable {K : W.Frag} {S S' H H' : Hp}
def Walks (K : W.Frag) (J : It) (S : Hp) (l : List D) : Prop := ∀ S' H', Same S S' -> Same S' H' ->
 (∀ i d, l[i]? = some d -> J.go i H' /\ ∀ x H'', J.yld i H' x H'' -> H'' = H' /\ Den K S' d x) /\ J.stop l.length H'
def SI (K : W.Frag) (wi : TI) (e : XA) : Prop := ∀ ρ σ S H (R : It -> Hp -> Prop) l, Rl K ρ σ S H -> e ρ = some l -> (∀ J S' H', Ext S H S' H' -> Walks K J S' l -> R J H') -> wi σ H R
noncomputable def sG : D -> Option (List D)
 | .lst l => some l | .tup l => some l | .scr l => some l | _ => none
def G8 (K : W.Frag) (J : It) (S H : Hp) (l : List D) : Prop := ∀ S' H', Ext S H S' H' ->
 (∀ i d, l[i]? = some d -> J.go i H' /\ ∀ x H'', J.yld i H' x H'' -> H'' = H' /\ Den K S' d x) /\ J.stop l.length H'
def SIP (K : W.Frag) (wi : TI) (e : XA) : Prop := ∀ ρ σ S H (R : It -> Hp -> Prop) l, Rl K ρ σ S H -> e ρ = some l -> (∀ J S' H', Ext S H S' H' -> G8 K J S' H' l -> R J H') -> wi σ H R
theorem SI.p {wi : TI} {e : XA} (h : SI K wi e) : SIP K wi e := fun ρ σ S H R l r x k => h ρ σ S H R l r x fun J S' H' z w => k J S' H' z fun S2 H2 z2 => w S2 H2 z2.sh z2.sub
@[simp] noncomputable def xIt (e : XE) : XA := fun ρ => (e ρ).bind sG
theorem oP {tl : TE} {e : XE} (h : SE K tl e) : SI K (rN K tl) (xIt e) := fun ρ σ S H R l r x k => by
 unfold xIt at x
 cases q : e ρ with
 | none => rw [q] at x; cases x
 | some d =>
  rw [q] at x
  dsimp only [Option.bind] at x
  refine h ρ σ S H _ d r q fun v S1 H1 z1 d1 => ?_
  cases d with
  | lst l' =>
   cases x
   obtain ⟨p, xs, rfl, h1, h2⟩ := den_lst.mp d1
   refine ⟨p, rfl, .inl ⟨⟨xs, .inl (cX z1.sub h1)⟩, k _ S1 H1 z1 fun S' H' s1 s2 => ⟨fun i d hd => ?_, xs, .inl (cX (s1.trans s2) h1), Nat.le_of_eq h2.length.symm⟩⟩⟩
   obtain ⟨y, e1, e2⟩ := h2.get hd
   refine ⟨⟨xs, y, .inl (cX (s1.trans s2) h1), e1⟩, fun x H'' hy => ⟨hy.1, ?_⟩⟩
   have := hy.2 xs (.inl (cX (s1.trans s2) h1))
   rw [e1] at this
   cases this
   exact e2.mono s1
  | tup l' =>
   cases x
   obtain ⟨p, xs, rfl, h1, h2⟩ := hU d1
   refine ⟨p, rfl, .inr ⟨⟨xs, dr z1.sub h1⟩, k _ S1 H1 z1 fun S' H' s1 s2 => ⟨fun i d hd => ?_, xs, dr (s1.trans s2) h1, Nat.le_of_eq h2.length.symm⟩⟩⟩
   obtain ⟨y, e1, e2⟩ := h2.get hd
   refine ⟨⟨xs, y, dr (s1.trans s2) h1, e1⟩, fun x H'' hy => ⟨hy.1, ?_⟩⟩
   have := hy.2 xs (dr (s1.trans s2) h1)
   rw [e1] at this
   cases this
   exact e2.mono s1
  | scr l' =>
   cases x
   obtain ⟨p, xs, rfl, h1, h2⟩ := den_scr.mp d1
   refine ⟨p, rfl, .inl ⟨⟨xs, dX z1.sub h1⟩, k _ S1 H1 z1 fun S' H' s1 s2 => ⟨fun i d hd => ?_, xs, dX (s1.trans s2) h1, Nat.le_of_eq h2.length.symm⟩⟩⟩
   obtain ⟨y, e1, e2⟩ := h2.get hd
   refine ⟨⟨xs, y, dX (s1.trans s2) h1, e1⟩, fun x H'' hy => ⟨hy.1, ?_⟩⟩
   have := hy.2 xs (dX (s1.trans s2) h1)
   rw [e1] at this
   cases this
   exact e2.mono s1
  | _ => cases x
noncomputable def ifC {α : Type} (p : Prop) (a b : α) : α := @ite α p (Classical.propDecidable p) a b
theorem dn {α : Type} {p : Prop} {a b : α} (h : p) : ifC p a b = a := by unfold ifC; exact LO h
theorem ig {α : Type} {p : Prop} {a x : α} (h : ifC p (some a) none = some x) : p /\ a = x := by
 unfold ifC at h
 by_cases c : p
 ·rw [LO c] at h; exact ⟨c, Ml h⟩
 ·rw [LP c] at h; cases h
theorem i7 {tl : TE} {e : XE} (h : SPk K tl e) : SIP K (rN K tl) (xIt e) := fun ρ σ S H R l r x k => by
 unfold xIt at x
 cases q : e ρ with
 | none => rw [q] at x; cases x
 | some d =>
  rw [q] at x
  dsimp only [Option.bind] at x
  refine h ρ σ S H _ d r q fun v S1 H1 z1 d1 => ?_
  rcases d1 with d1 | ⟨l', p, xs, rfl, rfl, hx, dx⟩
  ·cases d with
   | lst l' =>
    cases x
    obtain ⟨p, xs, rfl, h1, h2⟩ := den_lst.mp d1
    refine ⟨p, rfl, .inl ⟨⟨xs, .inl (cX z1.sub h1)⟩, k _ S1 H1 z1 fun S' H' z2 => ⟨fun i d hd => ?_, xs, .inl (cX (z2.sh.trans z2.sub) h1), Nat.le_of_eq h2.length.symm⟩⟩⟩
    obtain ⟨y, e1, e2⟩ := h2.get hd
    refine ⟨⟨xs, y, .inl (cX (z2.sh.trans z2.sub) h1), e1⟩, fun x H'' hy => ⟨hy.1, ?_⟩⟩
    have := hy.2 xs (.inl (cX (z2.sh.trans z2.sub) h1))
    rw [e1] at this
    cases this
    exact e2.mono z2.sh
   | tup l' =>
    cases x
    obtain ⟨p, xs, rfl, h1, h2⟩ := hU d1
    refine ⟨p, rfl, .inr ⟨⟨xs, dr z1.sub h1⟩, k _ S1 H1 z1 fun S' H' z2 => ⟨fun i d hd => ?_, xs, dr (z2.sh.trans z2.sub) h1, Nat.le_of_eq h2.length.symm⟩⟩⟩
    obtain ⟨y, e1, e2⟩ := h2.get hd
    refine ⟨⟨xs, y, dr (z2.sh.trans z2.sub) h1, e1⟩, fun x H'' hy => ⟨hy.1, ?_⟩⟩
    have := hy.2 xs (dr (z2.sh.trans z2.sub) h1)
    rw [e1] at this
    cases this
    exact e2.mono z2.sh
   | scr l' =>
    cases x
    obtain ⟨p, xs, rfl, h1, h2⟩ := den_scr.mp d1
    refine ⟨p, rfl, .inl ⟨⟨xs, dX z1.sub h1⟩, k _ S1 H1 z1 fun S' H' z2 => ⟨fun i d hd => ?_, xs, dX (z2.sh.trans z2.sub) h1, Nat.le_of_eq h2.length.symm⟩⟩⟩
    obtain ⟨y, e1, e2⟩ := h2.get hd
    refine ⟨⟨xs, y, dX (z2.sh.trans z2.sub) h1, e1⟩, fun x H'' hy => ⟨hy.1, ?_⟩⟩
    have := hy.2 xs (dX (z2.sh.trans z2.sub) h1)
    rw [e1] at this
    cases this
    exact e2.mono z2.sh
   | _ => cases x
  ·cases x
   refine ⟨p, rfl, .inl ⟨⟨xs, SqL.of hx⟩, k _ S1 H1 z1 fun S' H' z2 => ?_⟩⟩
   have hx2 : H' p = some (.lst xs) := z2.same z1.sub _ _ hx
   refine ⟨fun i d hd => ?_, xs, SqL.of hx2, Nat.le_of_eq dx.length.symm⟩
   obtain ⟨y, e1, e2⟩ := dx.get hd
   refine ⟨⟨xs, y, SqL.of hx2, e1⟩, fun x H'' hy => ⟨hy.1, ?_⟩⟩
   have := hy.2 xs (SqL.of hx2)
   rw [e1] at this
   cases this
   exact e2.mono z2.sh
noncomputable def fj (lo : Int) : Nat -> List D
 | 0 => []
 | n + 1 => .int lo :: fj (lo + 1) n
theorem lJ : ∀ (n : Nat) (lo : Int) (i : Nat) (d : D), (fj lo n)[i]? = some d -> i < n /\ d = .int (lo + i)
 | 0, _, _, _, h => by simp [fj] at h
 | n + 1, lo, 0, d, h => by simp [fj] at h; exact ⟨Nat.succ_pos _, by rw [<- h]; simp⟩
 | n + 1, lo, i + 1, d, h => by
  obtain ⟨h1, h2⟩ := lJ n (lo + 1) i d (by simpa [fj] using h)
  exact ⟨Nat.succ_lt_succ h1, by rw [h2]; congr 1; lia⟩
theorem lw : ∀ (n : Nat) (lo : Int), (fj lo n).length = n
 | 0, _ => rfl
 | n + 1, lo => by rw [fj, Mh, lw n]
theorem vz (lo : Int) (n : Nat) : Walks K (Itr lo n) S (fj lo n) := fun S' H' _ _ => ⟨fun i d h => by
 obtain ⟨h1, rfl⟩ := lJ n lo i d h
 exact ⟨h1, fun x H'' y => ⟨y.1, den_int.mpr y.2⟩⟩, by rw [lw]; exact LU _⟩
noncomputable def rT : List D -> Option (List D)
 | [.int j] => ifC (j < 1000000 /\ -1000000 < j) (some (fj 0 j.toNat)) none
 | [.int i, .int j] => ifC (j < 4000000000000000000 /\ -4000000000000000000 < i /\ i < 4000000000000000000 /\ -4000000000000000000 < j) (some (fj i (j - i).toNat)) none
 | _ => none
@[simp] noncomputable def lf (a : XA) : XA := fun ρ => (a ρ).bind rT
theorem pr {ta : TE} {a : XE} (h : SPk K ta a) : SI K (Ga (kX ta um)) (lf (ac a aq)) := fun ρ σ S H R l r x k => by
 unfold lf at x
 cases q : ac a aq ρ with
 | none => rw [q] at x; cases x
 | some ds =>
  rw [q] at x
  obtain ⟨d, e, qa, qb, rfl⟩ := gZ q
  cases qb
  cases d with
  | int j =>
   have x' : ifC (j < 1000000 /\ -1000000 < j) (some (fj 0 j.toNat)) none = some l := x
   obtain ⟨hj, rfl⟩ := ig x'
   refine h ρ σ S H _ _ r qa fun v S1 H1 z1 d1 => ?_
   refine ⟨j, by rw [d1.int], ?_, ?_, k _ S1 H1 z1 (vz 0 _)⟩
   ·have : (2 : Int) ^ 62 = 4611686018427387904 := by decide
    lia
   ·have : (2 : Int) ^ 62 = 4611686018427387904 := by decide
    lia
  | _ => cases x
theorem Er {ta tb : TE} {a b : XE} (h : SPk K ta a) (hb : SPk K tb b) : SI K (Gn (kX ta (kX tb um))) (lf (ac a (ac b aq))) := fun ρ σ S H R l r x k => by
 unfold lf at x
 cases q : ac a (ac b aq) ρ with
 | none => rw [q] at x; cases x
 | some ds =>
  rw [q] at x
  obtain ⟨d, e, qa, qb, rfl⟩ := gZ q
  obtain ⟨d2, e2, qa2, qb2, rfl⟩ := gZ qb
  cases qb2
  cases d with
  | int i =>
   cases d2 with
   | int j =>
    have x' : ifC (j < 4000000000000000000 /\ -4000000000000000000 < i /\ i < 4000000000000000000 /\ -4000000000000000000 < j) (some (fj i (j - i).toNat)) none = some l := x
    obtain ⟨hj, rfl⟩ := ig x'
    refine h ρ σ S H _ _ r qa fun v S1 H1 z1 d1 => ?_
    refine hb ρ σ S1 H1 _ _ (r.ext z1) qa2 fun w S2 H2 z2 d2 => ?_
    have : (2 : Int) ^ 62 = 4611686018427387904 := by decide
    exact ⟨i, j, by rw [d1.int, d2.int], by lia, k _ S2 H2 (z1.trans z2) (vz i _)⟩
   | _ => cases x
  | _ => cases x
noncomputable def Dc : Nat -> Nat -> List D
 | _, 0 => []
 | k, n + 1 => .int (2 * k) :: Dc (k + 1) n
noncomputable def ID : List D -> Option (List D)
 | [.int a, .int j, .int b] => ifC (a = 0 /\ b = 2 /\ 0 <= j /\ j < 1000000) (some (Dc 0 ((j + 1) / 2).toNat)) none
 | _ => none
@[simp] noncomputable def Ky (a : XA) : XA := fun ρ => (a ρ).bind ID
noncomputable def fA (g : XG) (m : XS) : List D -> Env -> Option Out
 | [], ρ => some (.nx ρ)
 | d :: l, ρ => (g d ρ).bind fun ρ1 => match m ρ1 with
  | some (.nx ρ2) => fA g m l ρ2
  | some (.ct ρ2) => fA g m l ρ2
  | some (.bk ρ2) => some (.nx ρ2)
  | some (.rt d) => some (.rt d)
  | some (.ro d) => some (.ro d)
  | none => none
@[simp] noncomputable def eQ (e : XA) (g : XG) (m : XS) : XS := fun ρ => (e ρ).bind fun l => fA g m l ρ
theorem xQ {l : List D} {i : Nat} {d : D} (h : l[i]? = some d) : l.drop i = d :: l.drop (i + 1) := by
 obtain ⟨h1, rfl⟩ := LW.mp h
 exact List.drop_eq_getElem_cons h1
theorem gh {wi : TI} {g : TG} {tb : TS} {e : XA} {x : XG} {m : XS} (hi : SI K wi e) (hg : SG K g x) (hb : SS K tb m) : SS K (Cy wi g tb) (eQ e x m) := fun A Λ ρ σ S H E o r y k => by
 unfold eQ at y
 cases q : e ρ with
 | none => rw [q] at y; cases y
 | some l =>
  rw [q] at y
  dsimp only [Option.bind] at y
  refine hi ρ σ S H _ l r.toRl q fun J S1 H1 z1 wk => ?_
  have r1 := r.ext z1
  refine ⟨fun i n σ' H' => n = l.length - i /\ i <= l.length /\ ∃ ρ' S', RlA K A Λ ρ' σ' S' H' /\ Same S1 S' /\ fA x m (l.drop i) ρ' = some o, ⟨_, rfl, Mr _, ρ, S1, r1, Same.refl _, y⟩, ?_⟩
  rintro i n σ2 H2 ⟨rfl, hil, ρ2, S2, r2, s2, y2⟩
  obtain ⟨w1, w2⟩ := wk S2 H2 s2 r2.sub
  cases qd : l[i]? with
  | none =>
   have : l.length = i := by have := MV.mp qd; lia
   subst this
   rw [MU (LU _)] at y2
   cases y2
   exact .inl ⟨w2, k σ2 S2 H2 r2 (z1.sh.trans s2)⟩
  | some d =>
   obtain ⟨g1, g2⟩ := w1 i d qd
   have hlt := (LW.mp qd).1
   rw [xQ qd] at y2
   unfold fA at y2
   cases qx : x d ρ2 with
   | none => rw [qx] at y2; cases y2
   | some ρ3 =>
    rw [qx] at y2
    dsimp only [Option.bind] at y2
    refine .inr ⟨g1, fun σ' H' => ∃ ρ' S', RlA K A Λ ρ' σ' S' H' /\ Same S1 S' /\ fA x m (l.drop (i + 1)) ρ' = some o, fun σ' H' ⟨ρ', S', a1, a2, a3⟩ => ⟨_, by lia, rfl, hlt, ρ', S', a1, a2, a3⟩, fun xv H3 hy => ?_⟩
    obtain ⟨rfl, dx⟩ := g2 xv H3 hy
    refine hg A Λ ρ2 σ2 S2 H3 xv d _ ρ3 r2 dx qx fun σ3 r3 => ?_
    cases qm : m ρ3 with
    | none => rw [qm] at y2; cases y2
    | some om =>
     rw [qm] at y2
     refine hb A Λ ρ3 σ3 S2 H3 _ om r3 qm ?_
     cases om with
     | nx ρ4 => exact fun σ4 S4 H4 r4 s4 => ⟨ρ4, S4, r4, s2.trans s4, y2⟩
     | ct ρ4 => exact fun σ4 S4 H4 r4 s4 => ⟨ρ4, S4, r4, s2.trans s4, y2⟩
     | bk ρ4 => cases y2; exact fun σ4 S4 H4 r4 s4 => k σ4 S4 H4 r4 ((z1.sh.trans s2).trans s4)
     | rt d4 => cases y2; exact fun v S4 H4 s4 => k v S4 H4 ((z1.sh.trans s2).trans s4)
     | ro d4 => cases y2; exact fun v fp S4 H4 s4 => k v fp S4 H4 ((z1.sh.trans s2).trans s4)
noncomputable def cJ (c : XT) (m : XS) : Nat -> Env -> Option Out
 | 0, _ => none
 | n + 1, ρ => (c ρ).bind fun b => if b = true then (match m ρ with
  | some (.nx ρ2) => cJ c m n ρ2
  | some (.ct ρ2) => cJ c m n ρ2
  | some (.bk ρ2) => some (.nx ρ2)
  | some (.rt d) => some (.rt d)
  | some (.ro d) => some (.ro d)
  | none => none) else some (.nx ρ)
theorem kK (c : XT) (m : XS) : ∀ (n : Nat) (ρ : Env) (o : Out), cJ c m n ρ = some o -> cJ c m (n + 1) ρ = some o
 | 0, _, _, h => by cases h
 | n + 1, ρ, o, h => by
  unfold cJ at h ⊢
  cases qc : c ρ with
  | none => rw [qc] at h; cases h
  | some b =>
   rw [qc] at h
   dsimp only [Option.bind] at h ⊢
   cases b with
   | false => exact h
   | true =>
    rw [LO rfl] at h ⊢
    cases qm : m ρ with
    | none => rw [qm] at h; cases h
    | some om =>
     rw [qm] at h
     cases om with
     | nx ρ2 => exact kK c m n ρ2 o h
     | ct ρ2 => exact kK c m n ρ2 o h
     | bk ρ2 => exact h
     | rt d => exact h
     | ro d => exact h
theorem mx (c : XT) (m : XS) (n : Nat) (ρ : Env) (o : Out) (h : cJ c m n ρ = some o) : ∀ k, cJ c m (n + k) ρ = some o
 | 0 => h
 | k + 1 => kK c m (n + k) ρ o (mx c m n ρ o h k)
noncomputable def n6 (c : XT) (m : XS) : XS := fun ρ => by
 classical
 exact if h : ∃ o n, cJ c m n ρ = some o then some h.choose else none
noncomputable def fh (c : XT) (m : XS) : XS := fun ρ => (cJ c m 64 ρ).or (n6 c m ρ)
theorem tE {c : XT} {m : XS} {ρ : Env} {o o' : Out} {n k : Nat} (h : cJ c m n ρ = some o) (h' : cJ c m k ρ = some o') : o' = o := by
 have h3 := mx c m n ρ o h k
 have h4 := mx c m k ρ _ h' n
 rw [Nat.add_comm k n, h3] at h4
 exact (Ml h4).symm
theorem vA {c : XT} {m : XS} {n : Nat} {ρ : Env} {o : Out} (h : cJ c m n ρ = some o) : fh c m ρ = some o := by
 unfold fh
 cases q : cJ c m 64 ρ with
 | some o' => exact congrArg some (tE h q)
 | none =>
  have hx : ∃ o n, cJ c m n ρ = some o := ⟨o, n, h⟩
  show n6 c m ρ = some o
  unfold n6
  rw [dif_pos hx]
  obtain ⟨n2, h2⟩ := hx.choose_spec
  exact congrArg some (tE h h2)
theorem vD {c : XT} {m : XS} {ρ : Env} {o : Out} (h : fh c m ρ = some o) : ∃ n, cJ c m n ρ = some o := by
 unfold fh at h
 cases q : cJ c m 64 ρ with
 | some o' => rw [q] at h; exact ⟨64, q.trans h⟩
 | none =>
  rw [q] at h
  have h : n6 c m ρ = some o := h
  unfold n6 at h
  split at h
  ·rename_i hx
   cases h
   exact hx.choose_spec
  ·cases h
theorem zJ {c : XT} {m : XS} {ρ : Env} (h : c ρ = some false) : fh c m ρ = some (.nx ρ) := vA (n := 1) (by unfold cJ; rw [h]; rfl)
theorem yU {c : XT} {m : XS} {ρ ρ2 : Env} {o : Out} (h : c ρ = some true) (hm : m ρ = some (.nx ρ2)) (k : fh c m ρ2 = some o) : fh c m ρ = some o := by
 obtain ⟨n, hn⟩ := vD k
 exact vA (n := n + 1) (by unfold cJ; rw [h, hm]; exact hn)
theorem wL {tc : TT} {tb : TS} {c : XT} {m : XS} (hc : ST K tc c) (hb : SS K tb m) : SS K (EN tc tb) (fh c m) := fun A Λ ρ σ S H E o r y k => by
 obtain ⟨n, hn⟩ := vD y
 refine ⟨fun n σ' H' => ∃ ρ' S', RlA K A Λ ρ' σ' S' H' /\ Same S S' /\ cJ c m n ρ' = some o, ⟨n, ρ, S, r, Same.refl _, hn⟩, ?_⟩
 rintro n σ1 H1 ⟨ρ1, S1, r1, s1, h1⟩
 cases n with
 | zero => cases h1
 | succ n =>
  unfold cJ at h1
  cases qc : c ρ1 with
  | none => rw [qc] at h1; cases h1
  | some b =>
   rw [qc] at h1
   dsimp only [Option.bind] at h1
   refine hc ρ1 σ1 S1 H1 _ b r1.toRl qc fun S2 H2 z2 => ?_
   have r2 := r1.ext z2
   cases b with
   | false =>
    rw [LP (by decide)] at h1
    cases h1
    exact x5 (k σ1 S2 H2 r2 (s1.trans z2.sh))
   | true =>
    rw [LO rfl] at h1
    refine wR ⟨fun σ' H' => ∃ ρ' S', RlA K A Λ ρ' σ' S' H' /\ Same S S' /\ cJ c m n ρ' = some o, fun σ' H' a => ⟨n, Nat.lt_succ_self _, a⟩, ?_⟩
    cases qm : m ρ1 with
    | none => rw [qm] at h1; cases h1
    | some om =>
     rw [qm] at h1
     refine hb A Λ ρ1 σ1 S2 H2 _ om r2 qm ?_
     cases om with
     | nx ρ4 => exact fun σ4 S4 H4 r4 s4 => ⟨ρ4, S4, r4, (s1.trans z2.sh).trans s4, h1⟩
     | ct ρ4 => exact fun σ4 S4 H4 r4 s4 => ⟨ρ4, S4, r4, (s1.trans z2.sh).trans s4, h1⟩
     | bk ρ4 => cases h1; exact fun σ4 S4 H4 r4 s4 => k σ4 S4 H4 r4 ((s1.trans z2.sh).trans s4)
     | rt d4 => cases h1; exact fun v S4 H4 s4 => k v S4 H4 ((s1.trans z2.sh).trans s4)
     | ro d4 => cases h1; exact fun v fp S4 H4 s4 => k v fp S4 H4 ((s1.trans z2.sh).trans s4)
@[simp] noncomputable def mB (js : List (Option Nat)) (ρ : Env) : Env := js.map fun o => match o with | none => .un | some j => match ρ[j]? with | some (.sh d) => .sh d | _ => .un
noncomputable def dZ (g : XG) (c : XT) (e : XE) (ρ0 : Env) : List D -> Option (List D)
 | [] => some []
 | d :: l => (g d ρ0).bind fun ρ1 => (c ρ1).bind fun b => if b = true then (e ρ1).bind fun y => (dZ g c e ρ0 l).map fun r => y :: r else dZ g c e ρ0 l
@[simp] noncomputable def b7 (js : List (Option Nat)) (w : XA) (g : XG) (c : XT) (e : XE) : XA := fun ρ => (w ρ).bind fun l => if l.length <= LIM then dZ g c e (mB js ρ) l else none
@[simp] noncomputable def eD : XT := fun _ => some true
theorem t6 : ST K A0 eD := fun ρ σ S H Q b r x k => by cases x; exact k S H (Ext.refl r.sub)
theorem gc {js : List (Option Nat)} {ρ : Env} {i : Nat} {s : Sl} (h : (mB js ρ)[i]? = some s) : s = .un \/ ∃ d j, s = .sh d /\ js[i]? = some (some j) /\ ρ[j]? = some (.sh d) := by
 unfold mB at h
 rw [L3] at h
 cases q : js[i]? with
 | none => rw [q] at h; cases h
 | some o =>
  rw [q] at h
  cases o with
  | none => cases h; exact .inl rfl
  | some j =>
   simp only [Option.map_some] at h
   cases q2 : ρ[j]? with
   | none => rw [q2] at h; cases h; exact .inl rfl
   | some s2 =>
    rw [q2] at h
    cases s2 with
    | un => cases h; exact .inl rfl
    | lo => cases h; exact .inl rfl
    | ow l => cases h; exact .inl rfl
    | sh d => cases h; exact .inr ⟨d, j, rfl, rfl, q2⟩
noncomputable def lT (S H : Hp) : Hp := fun b => match S b with | none => H b | some _ => none
theorem vp {S H : Hp} : Same (lT S H) H := fun b o h => by
 unfold lT at h
 cases q : S b with
 | none => rw [q] at h; exact h
 | some _ => rw [q] at h; cases h
theorem vm {S H : Hp} (b : Addr) : S b = none \/ lT S H b = none := by
 unfold lT
 cases q : S b with
 | none => exact .inl rfl
 | some _ => exact .inr rfl
theorem yD {S H : Hp} {b : Addr} {o : HO} (h : H b = some o) (n : S b = none) : lT S H b = some o := by
 unfold lT
 rw [n]
 exact h
theorem EA {ρ : Env} {σ : St} (r : Rl K ρ σ S H) (js : List (Option Nat)) : RlA K (lT S H) (fun _ => none) (mB js ρ) (inn js σ) S H := by
 refine ⟨fun _ => [], ?_⟩
 exact {
  len := by unfold mB inn; rw [LR, LR]
  sub := r.sub
  sh := fun i d h => by
   rcases gc h with e | ⟨d', j, e, h1, h2⟩
   ·cases e
   ·cases e
    obtain ⟨v, k1, k2⟩ := r.sh j d h2
    refine ⟨v, ?_, k2⟩
    unfold inn
    rw [L3, h1]
    show some ((σ[j]?).join) = some (some v)
    rw [k1]
    rfl
  ow := fun i o h => by
   rcases gc h with e | ⟨d', j, e, h1, h2⟩
   ·cases e
   ·cases e
  dj := fun i j o o' _ h => by
   rcases gc h with e | ⟨d', j, e, h1, h2⟩
   ·cases e
   ·cases e
  lo := fun i h => by
   rcases gc h with e | ⟨d', j, e, h1, h2⟩
   ·cases e
   ·cases e
  asub := vp
  adis := vm }
theorem fP {js : List (Option Nat)} {wi : TI} {g : TG} {tt : TIf} {te : TE} {w : XA} {x : XG} {c : XT} {e : XE} (hi : SIP K wi w) (hg : SG K g x) (hc : ST K tt c) (he : SE K te e) : SF K (uW js wi g tt te) (b7 js w x c e) := fun ρ σ S H Q l r y k => by
 unfold b7 at y
 cases q : w ρ with
 | none => rw [q] at y; cases y
 | some ds =>
  rw [q] at y
  dsimp only [Option.bind] at y
  split at y
  ·rename_i hlim
   refine hi ρ σ S H _ ds r q fun J S1 H1 z1 wk D hD => ?_
   have r1 := r.ext z1
   have hD0 : H D = none := (z1.same r.sub).free hD
   -- the word: what is told so far, what is still to be told
   refine ⟨fun i n H' => n = ds.length - i /\ i <= ds.length /\ ∃ S' done ys dR, Ext S1 H1 S' H' /\ Same S1 S' /\ H' D = some (.lst ys) /\ S' D = none /\ Dens K S' done ys /\ done.length <= i /\ dZ x c e (mB js ρ) (ds.drop i) = some dR /\ l = done ++ dR,
    ⟨_, rfl, Mr _, S1, [], [], l, Ext.own z1.sub hD, Same.refl _, aO, z1.sub.free hD, .nil, Mr _, y, rfl⟩, ?_⟩
   rintro i n H2 ⟨rfl, hil, S2, done, ys, dR, z2, s2, hy, hSD, dy, hdl, y2, rfl⟩
   obtain ⟨w1, w2⟩ := wk S2 H2 z2
   cases qd : ds[i]? with
   | none =>
    have : ds.length = i := by have := MV.mp qd; lia
    subst this
    rw [MU (LU _)] at y2
    cases y2
    rw [Mv] at k
    exact .inl ⟨w2, k D ys S2 H2 (z1.trans z2) hD0 hSD hy dy⟩
   | some d =>
    obtain ⟨g1, g2⟩ := w1 i d qd
    have hlt := (LW.mp qd).1
    rw [xQ qd] at y2
    unfold dZ at y2
    cases qx : x d (mB js ρ) with
    | none => rw [qx] at y2; cases y2
    | some ρ3 =>
     rw [qx] at y2
     dsimp only [Option.bind] at y2
     refine .inr ⟨g1, fun xv H3 hyl => ?_⟩
     obtain ⟨rfl, dx⟩ := g2 xv H3 hyl
     have ri := EA (r1.ext z2) js
     refine hg _ _ _ _ S2 H3 xv d _ ρ3 ri dx qx fun σ3 r3 => ?_
     cases qc : c ρ3 with
     | none => rw [qc] at y2; cases y2
     | some b =>
      rw [qc] at y2
      dsimp only at y2
      refine hc ρ3 σ3 S2 H3 _ b r3.toRl qc fun S4 H4 z4 => ?_
      obtain ⟨al1, al2⟩ := z4.al D _ hy hSD
      cases b with
      | false =>
       rw [LP (by decide)] at y2
       exact x5 ⟨_, by lia, rfl, hlt, S4, done, ys, dR, z2.trans z4, s2.trans z4.sh, al1, al2, dy.mono z4.sh, by lia, y2, rfl⟩
      | true =>
       rw [LO rfl] at y2
       cases qe : e ρ3 with
       | none => rw [qe] at y2; cases y2
       | some dv =>
        rw [qe] at y2
        dsimp only at y2
        cases qr : dZ x c e (mB js ρ) (ds.drop (i + 1)) with
        | none => rw [qr] at y2; cases y2
        | some rest2 =>
         rw [qr] at y2
         cases y2
         refine wR (he ρ3 σ3 S4 H4 _ dv (r3.toRl.ext z4) qe fun v S5 H5 z5 d5 => ?_)
         obtain ⟨b1, b2⟩ := z5.al D _ al1 al2
         refine ⟨ys, b1, ?_, _, by lia, rfl, hlt, S5, done ++ [dv], ys ++ [v], rest2, ?_, (s2.trans z4.sh).trans z5.sh, aO, b2, ((dy.mono z4.sh).mono z5.sh).append (.cons d5 .nil), by rw [LZ, Mt]; lia, qr, by rw [Mj]; rfl⟩
         ·rw [<- dy.length]
          exact Mp (MJ hdl hlt) (Mm hlim (MB gj))
         ·have z6 := (z2.trans z4).trans z5
          exact ⟨z6.sh, fun b u hb => by rw [aW fun z => by subst z; rw [b2] at hb; cases hb]; exact z6.sub b u hb, fun b o hb hn => by
           obtain ⟨c1, c2⟩ := z6.al b o hb hn
           exact ⟨by rw [aW fun z => by subst z; rw [hD] at hb; cases hb]; exact c1, c2⟩⟩
  ·cases y
@[simp] noncomputable def K0 (i : Nat) (g : XG) (m : XS) : XS := fun ρ => match ρ[i]? with
 | some (.ow (.lst os)) => (match shs os with
  | some l => (match fA g m l (ρ.set i .lo) with
   | some (.nx ρ') => (match ρ'[i]? with | some .lo => some (.nx (ρ'.set i (.ow (.lst os)))) | _ => none)
   | some (.rt d) => some (.rt d)
   | _ => none)
  | none => none)
 | _ => none
noncomputable def fnO (n : Nat) (x : XS) (ds : List D) : Option O := match x (ds.map .sh ++ List.replicate (n - ds.length) .un) with
 | some (.rt d) => some (.sh d)
 | some (.ro o) => some o
 | some (.nx _) => some (.sh .non)
 | _ => none
theorem EH {N : List Str} {ds : List D} {vs : List V} (s : Same S H) (h : Dens K S ds vs) : RlA K (lT S H) (fun _ => none) (ds.map .sh ++ List.replicate (N.length - ds.length) .un) (L2.aM N vs) S H := by
 have hl := h.length
 have key : ∀ (i : Nat) t, (ds.map Sl.sh ++ List.replicate (N.length - ds.length) .un)[i]? = some t -> t = .un \/ ∃ d v, t = .sh d /\ (L2.aM N vs)[i]? = some (some v) /\ Den K S d v := fun i t ht => by
  by_cases hi : i < ds.length
  ·rw [Mn (by rw [LR]; exact hi), L3] at ht
   cases q : ds[i]? with
   | none => rw [q] at ht; cases ht
   | some d =>
    rw [q] at ht
    cases ht
    obtain ⟨v, e1, e2⟩ := h.get q
    refine .inr ⟨d, v, rfl, ?_, e2⟩
    unfold L2.aM
    rw [Mn (by rw [LR]; lia), L3, e1]
    rfl
  ·rw [MY (by rw [LR]; lia), List.getElem?_replicate] at ht
   split at ht
   ·cases ht; exact .inl rfl
   ·cases ht
 refine ⟨fun _ => [], ?_⟩
 exact {
  len := by unfold L2.aM; rw [LZ, LZ, LR, LR, List.length_replicate, List.length_replicate, hl]
  sub := s
  sh := fun i d hi => by
   rcases key i _ hi with e | ⟨d', v, e, h1, h2⟩
   ·cases e
   ·cases e; exact ⟨v, h1, h2⟩
  ow := fun i o hi => by
   rcases key i _ hi with e | ⟨d', v, e, h1, h2⟩
   ·cases e
   ·cases e
  dj := fun i j o o' _ hi => by
   rcases key i _ hi with e | ⟨d', v, e, h1, h2⟩
   ·cases e
   ·cases e
  lo := fun i hi => by
   rcases key i _ hi with e | ⟨d', v, e, h1, h2⟩
   ·cases e
   ·cases e
  asub := vp
  adis := vm }
theorem cU {t : TS} {x : XS} {N : List Str} {n k : Nat} {vs : List V} {H : Hp} {Q : VK} {E : XK} (hs : SS K t x) (hN : N.length = n) (h : ft K k (fnO n x) vs H Q E) :
  t { nx := fun _ H' => Q .non H', rt := Q } (L2.aM N vs) H := by
 obtain ⟨_, S, ds, d, s, dd, y, q⟩ := h
 subst hN
 unfold fnO at y
 have r := EH (N := N) s dd
 have ex : ∀ {S' H' : Hp}, Same S S' -> Same S' H' -> Same (lT S H) H' -> (∀ b, S' b = none \/ lT S H b = none) -> Ext S H S' H' := fun s1 s2 s3 s4 => ⟨s1, s2, fun b o hb hn => by
  have ha := yD hb hn
  refine ⟨s3 b o ha, ?_⟩
  rcases s4 b with z | z
  ·exact z
  ·rw [ha] at z; cases z⟩
 cases qx : x (ds.map .sh ++ List.replicate (N.length - ds.length) .un) with
 | none => rw [qx] at y; cases y
 | some o =>
  rw [qx] at y
  refine hs _ _ _ _ S H _ o r qx ?_
  cases o with
  | rt d' =>
   cases y
   exact fun v S' H' s1 s2 s3 s4 dv => q v [] S' H' (ex s1 s2 s3 s4) (own_sh.mpr ⟨rfl, dv⟩) .nil fun b hb => by cases hb
  | ro o' =>
   cases y
   refine fun v fp S' H' s1 s2 s3 s4 ow nd n => q v fp S' H' (ex s1 s2 s3 s4) ow nd fun b hb => ⟨?_, (n b hb).1⟩
   cases qb : H b with
   | none => rfl
   | some u =>
    have := yD qb (s1.free (n b hb).1)
    rw [(n b hb).2] at this; cases this
  | nx ρ' =>
   cases y
   exact fun σ' S' H' r' s1 => q .non [] S' H' (ex s1 r'.sub r'.asub r'.adis) (own_sh.mpr ⟨rfl, den_non.mpr rfl⟩) .nil fun b hb => by cases hb
  | bk ρ' => cases y
  | ct ρ' => cases y
end
noncomputable def dI (f : Int -> Int -> Option D) : D -> D -> Option D
 | .int i, .int j => f i j
 | _, _ => none
noncomputable def yo : D -> D -> Option D := dI fun i j => ifC ((-18446744073709551616 < i /\ i < 18446744073709551616) \/ (-18446744073709551616 < j /\ j < 18446744073709551616)) (some (.int (i * j))) none
noncomputable def qY : D -> D -> Option D := dI fun i j => ifC (0 < j /\ j < 1073741824) (some (.int (i / j))) none
noncomputable def n4 : D -> D -> Option D := dI fun i j => ifC (0 < j) (some (.int (i % j))) none
noncomputable def yH : D -> D -> Option D := dI fun i j => ifC (0 <= j /\ j <= 1000000 /\ i.natAbs < 18446744073709551616) (some (.int (i ^ j.toNat))) none
noncomputable def gd : D -> D -> Option D := dI fun i j => some (.int (i - j))
noncomputable def dLt : D -> D -> Option D := dI fun i j => some (.bl (decide (i < j)))
noncomputable def dLe : D -> D -> Option D := dI fun i j => some (.bl (decide (i <= j)))
noncomputable def dGt : D -> D -> Option D := dI fun i j => some (.bl (decide (j < i)))
noncomputable def dGe : D -> D -> Option D := dI fun i j => some (.bl (decide (j <= i)))
noncomputable def ur : D -> Option D
 | .int i => some (.int (-i))
 | _ => none
section
variable {K : W.Frag}
theorem r_i {C : Int -> Int -> Prop} {g : Int -> Int -> V} {f : Int -> Int -> Option D} (h : ∀ i j d, f i j = some d -> C i j /\ n5 d = some (g i j)) : SR2 K (rI C g) (dI f) := fun S H x y d e z Q s dx dy q k => by
 cases d <;> cases e <;> try cases q
 rename_i i j
 obtain ⟨h1, h2⟩ := h i j z q
 exact ⟨i, j, dx.int, dy.int, h1, k _ S H (Ext.refl s) (nV h2)⟩
theorem B3 {g : Int -> Int -> V} {f : Int -> Int -> Option D} (h : ∀ i j d, f i j = some d -> n5 d = some (g i j)) : SR2 K (rI0 g) (dI f) := fun S H x y d e z Q s dx dy q k => by
 cases d <;> cases e <;> try cases q
 rename_i i j
 exact ⟨i, j, dx.int, dy.int, k _ S H (Ext.refl s) (nV (h i j z q))⟩
theorem GA : SR2 K (rI CMul fun i j => .int (i * j)) yo := r_i fun i j d h => by
 obtain ⟨c, rfl⟩ := ig h
 refine ⟨?_, rfl⟩
 unfold CMul
 have : (2 : Int) ^ 64 = 18446744073709551616 := by decide
 rw [this]
 exact c
theorem qF : SR2 K (rI I9 fun i j => .int (i / j)) qY := r_i fun i j d h => by
 obtain ⟨c, rfl⟩ := ig h
 exact ⟨c, rfl⟩
theorem nS : SR2 K (rI (fun _ j => 0 < j) fun i j => .int (i % j)) n4 := r_i fun i j d h => by
 obtain ⟨c, rfl⟩ := ig h
 exact ⟨c, rfl⟩
theorem D7 : SR2 K (rI Hy fun i j => .int (i ^ j.toNat)) yH := r_i fun i j d h => by
 obtain ⟨c, rfl⟩ := ig h
 refine ⟨?_, rfl⟩
 unfold Hy
 have : (2 : Nat) ^ 64 = 18446744073709551616 := by decide
 rw [this]
 exact c
theorem fB : SR2 K (rI0 fun i j => .int (i - j)) gd := B3 fun i j d h => by cases h; rfl
theorem vV : SR2 K (rI0 fun i j => .bl (decide (i < j))) dLt := B3 fun i j d h => by cases h; rfl
theorem ER : SR2 K (rI0 fun i j => .bl (decide (i <= j))) dLe := B3 fun i j d h => by cases h; rfl
theorem BL : SR2 K (rI0 fun i j => .bl (decide (j < i))) dGt := B3 fun i j d h => by cases h; rfl
theorem Ia : SR2 K (rI0 fun i j => .bl (decide (j <= i))) dGe := B3 fun i j d h => by cases h; rfl
theorem u8 : SR1 K (rU fun i => .int (-i)) ur := fun S H x d g Q s dx q k => by
 cases d <;> try cases q
 rename_i i
 exact ⟨i, dx.int, k _ S H (Ext.refl s) (den_int.mpr rfl)⟩
end
noncomputable def Gz : R2 := fun x y H Q => ∃ l b xs zs, x = .ref l /\ y = .ref b /\ Rd H l (.lst xs) /\ Rd H b (.lst zs) /\ xs.length + zs.length <= sizeLine /\ ∀ p, H p = none -> Q (.ref p) (upd H p (.lst (xs ++ zs)))
noncomputable def Gh (K : W.Frag) : R2 := fun x y H Q => ∃ a b xs ys, x = .ref a /\ y = .ref b /\ SqT K H a xs /\ SqT K H b ys /\ xs.length + ys.length <= sizeLine /\
 (ys = [] -> Q (.ref a) H) /\ (xs = [] -> Q (.ref b) H) /\ ∀ p, H p = none -> Q (.ref p) (upd H p (.tup (xs ++ ys)))
noncomputable def Gu : R2 := fun x y H Q => ∃ i j, x = .str i /\ y = .str j /\ i.length + j.length <= sizeLine /\ Q (.str (i ++ j)) H
noncomputable def Gy (K : W.Frag) : R2 := fun x y H Q => (∃ i j, x = .int i /\ y = .int j /\ Q (.int (i + j)) H) \/ Gz x y H Q \/ Gh K x y H Q \/ Gu x y H Q
noncomputable def cY : D -> D -> Option D
 | .int i, .int j => some (.int (i + j))
 | .lst a, .lst b => if a.length + b.length <= LIM then some (.lst (a ++ b)) else none
 | .tup a, .tup b => if a.length + b.length <= LIM then some (.tup (a ++ b)) else none
 | .str a, .str b => if a.length + b.length <= LIM then some (.str (a ++ b)) else none
 | _, _ => none
section
variable {K : W.Frag}
theorem Dens.nil_iff {S : Hp} {ds : List D} {xs : List V} (h : Dens K S ds xs) : xs = [] ↔ ds = [] := by
 have := h.length
 cases ds <;> cases xs <;> simp_all
theorem tG {n : Nat} (h : n <= LIM) : n <= sizeLine := MB (MJ h gj)
theorem dl : SR2 K (Gy K) cY := fun S H x y d e z Q s dx dy q k => by
 cases d <;> cases e <;> try (cases q; done)
 ·rename_i i j
  cases q
  exact .inl ⟨i, j, dx.int, dy.int, k _ S H (Ext.refl s) (den_int.mpr rfl)⟩
 ·rename_i i j
  have q' : (if i.length + j.length <= LIM then some (D.str (i ++ j)) else none) = some z := q
  split at q'
  ·rename_i hl
   cases q'
   exact .inr (.inr (.inr ⟨i, j, dx.str, dy.str, tG hl, k _ S H (Ext.refl s) (den_str.mpr rfl)⟩))
  ·cases q'
 ·rename_i a b
  have q' : (if a.length + b.length <= LIM then some (D.lst (a ++ b)) else none) = some z := q
  split at q'
  ·rename_i hl
   cases q'
   obtain ⟨p, xs, rfl, h1, h2⟩ := dx.lst s
   obtain ⟨p', ys, rfl, h3, h4⟩ := dy.lst s
   refine .inr (.inl ⟨p, p', xs, ys, rfl, rfl, h1, h3, by rw [<- h2.length, <- h4.length]; exact tG hl, fun q hq => ?_⟩)
   have z := Ext.new (o := .lst (xs ++ ys)) s hq
   exact k _ _ _ z (den_lst.mpr ⟨q, _, rfl, .inl aO, (h2.append h4).mono z.sh⟩)
  ·cases q'
 ·rename_i a b
  have q' : (if a.length + b.length <= LIM then some (D.tup (a ++ b)) else none) = some z := q
  split at q'
  ·rename_i hl
   cases q'
   obtain ⟨p, xs, e1, h1, h2⟩ := dx.tup s
   obtain ⟨p', ys, e2, h3, h4⟩ := dy.tup s
   have dx' : Den K S (.tup a) x := dx.elim id fun ⟨_, _, _, e, _⟩ => by cases e
   have dy' : Den K S (.tup b) y := dy.elim id fun ⟨_, _, _, e, _⟩ => by cases e
   subst e1 e2
   refine .inr (.inr (.inl ⟨p, p', xs, ys, rfl, rfl, h1, h3, by rw [<- h2.length, <- h4.length]; exact tG hl, fun e => ?_, fun e => ?_, fun q hq => ?_⟩))
   ·have := h4.nil_iff.mp e
    subst this
    exact k _ S H (Ext.refl s) (by rw [Mv]; exact dx')
   ·have := h2.nil_iff.mp e
    subst this
    exact k _ S H (Ext.refl s) (by rw [List.nil_append]; exact dy')
   ·have z := Ext.new (o := .tup (xs ++ ys)) s hq
    exact k _ _ _ z (den_tup.mpr ⟨q, _, rfl, TpA.of aO, (h2.append h4).mono z.sh⟩)
  ·cases q'
end
mutual
noncomputable def eqD : D -> D -> Bool
 | .non, .non => true
 | .bl a, .bl b => a == b
 | .bl a, .int j => (if a then 1 else 0) == j
 | .int i, .bl b => i == (if b then 1 else 0)
 | .int i, .int j => i == j
 | .str x, .str y => x == y
 | .lst a, .lst b => eqDs a b
 | .tup a, .tup b => eqDs a b
 | _, _ => false
noncomputable def eqDs : List D -> List D -> Bool
 | [], [] => true
 | x :: xs, y :: ys => eqD x y && eqDs xs ys
 | _, _ => false
end
mutual
noncomputable def okD : Nat -> D -> Bool
 | _, .non => true
 | _, .bl _ => true
 | _, .int _ => true
 | _, .str x => PyData.strOk x
 | n + 1, .lst l => okDs n l
 | n + 1, .tup l => okDs n l
 | _, _ => false
noncomputable def okDs : Nat -> List D -> Bool
 | _, [] => true
 | n, d :: l => okD n d && okDs n l
end
noncomputable def GM (K : W.Frag) (neg : Bool) : R2 := fun x y H Q => ∃ S d e, Same S H /\ DenP K S H d x /\ DenP K S H e y /\ okD 50 d = true /\ okD 50 e = true /\ Q (.bl (if neg then !eqD d e else eqD d e)) H
noncomputable def dEq (neg : Bool) (d e : D) : Option D := if okD 50 d = true /\ okD 50 e = true then some (.bl (if neg then !eqD d e else eqD d e)) else none
section
variable {K : W.Frag}
theorem oB (neg : Bool) : SR2 K (GM K neg) (dEq neg) := fun S H x y d e z Q s dx dy q k => by
 unfold dEq at q
 split at q
 ·rename_i c
  cases q
  exact ⟨S, d, e, s, dx, dy, c.1, c.2, k _ S H (Ext.refl s) (den_bl.mpr rfl)⟩
 ·cases q
end
noncomputable def qQ : D -> Bool
 | .non => true | _ => false
noncomputable def yh (neg : Bool) (d e : D) : Option D := match e with | .non => some (.bl (if neg then !qQ d else qQ d)) | _ => none
section
variable {K : W.Frag}
theorem Bk {S H : Hp} {d : D} {v : V} (h : DenP K S H d v) : decide (v = .non) = qQ d := by
 cases d with
 | non => rw [h.non]; rfl
 | bl b => rw [h.bl]; rfl
 | int b => rw [h.int]; rfl
 | str b => rw [h.str]; rfl
 | ty b => rw [h.ty]; rfl
 | lst l =>
  rcases h with h | ⟨_, p, _, _, e, _⟩
  ·obtain ⟨p, _, e, _⟩ := den_lst.mp h
   rw [e]; rfl
  ·rw [e]; rfl
 | tup l =>
  rcases h with h | ⟨_, p, _, _, e, _⟩
  ·obtain ⟨p, _, e, _⟩ := hU h
   rw [e]; rfl
  ·rw [e]; rfl
 | scr l =>
  rcases h with h | ⟨_, p, _, _, e, _⟩
  ·obtain ⟨p, _, e, _⟩ := den_scr.mp h
   rw [e]; rfl
  ·rw [e]; rfl
 | ins C ns l =>
  rcases h with h | ⟨_, p, _, _, e, _⟩
  ·obtain ⟨p, _, _, _, e, _⟩ := den_ins.mp h
   rw [e]; rfl
  ·rw [e]; rfl
 | dic ks =>
  rcases h with h | ⟨_, p, _, _, e, _⟩
  ·obtain ⟨p, e, _⟩ := den_dic.mp h
   rw [e]; rfl
  ·rw [e]; rfl
theorem Jm : SR2 K JK (yh false) := fun S H x y d e z Q s dx dy q k => by
 cases e <;> try (cases q; done)
 cases q
 exact ⟨dy.non, by rw [Bk dx]; exact k _ S H (Ext.refl s) (den_bl.mpr rfl)⟩
theorem Hz : SR2 K Jj (yh true) := fun S H x y d e z Q s dx dy q k => by
 cases e <;> try (cases q; done)
 cases q
 exact ⟨dy.non, by rw [Bk dx]; exact k _ S H (Ext.refl s) (den_bl.mpr rfl)⟩
end
noncomputable def dIx : D -> D -> Option D
 | .lst l, .int i => atI l i
 | .tup l, .int i => atI l i
 | .scr l, .int i => atI l i
 | .str x, .int i => if x.length <= LIM then (atI x.cps.toList i).map fun c => .str ⟨#[c]⟩ else none
 | _, _ => none
section
variable {K : W.Frag}
theorem sk {S : Hp} {ds : List D} {xs : List V} {i : Int} {d : D} (h : Dens K S ds xs) (e : atI ds i = some d) : ∃ v, atI xs i = some v /\ Den K S d v := by
 unfold atI at e ⊢
 rw [<- h.length]
 cases q : ixN ds.length i with
 | none => rw [q] at e; cases e
 | some j =>
  rw [q] at e
  exact h.get e
theorem bi : SR2 K (rIx K) dIx := fun S H x y d e z Q s dx dy q k => by
 cases d <;> cases e <;> try (cases q; done)
 ·rename_i x' i
  have q' : (if x'.length <= LIM then (atI x'.cps.toList i).map fun c => D.str ⟨#[c]⟩ else none) = some z := q
  split at q'
  ·rename_i hl
   cases qc : atI x'.cps.toList i with
   | none => rw [qc] at q'; cases q'
   | some c =>
    rw [qc] at q'
    cases q'
    exact .inr (.inr ⟨x', i, c, dx.str, dy.int, tG hl, qc, k _ S H (Ext.refl s) (den_str.mpr rfl)⟩)
  ·cases q'
 ·rename_i l i
  obtain ⟨p, xs, rfl, h1, h2⟩ := dx.lst s
  obtain ⟨v, h3, h4⟩ := sk h2 q
  exact .inl ⟨p, xs, i, v, rfl, dy.int, .inl h1, h3, k v S H (Ext.refl s) h4⟩
 ·rename_i l i
  obtain ⟨p, xs, rfl, h1, h2⟩ := dx.tup s
  obtain ⟨v, h3, h4⟩ := sk h2 q
  exact .inr (.inl ⟨p, xs, i, v, rfl, dy.int, h1, h3, k v S H (Ext.refl s) h4⟩)
 ·rename_i l i
  obtain ⟨p, xs, rfl, h1, h2⟩ := dx.scr s
  obtain ⟨v, h3, h4⟩ := sk h2 q
  exact .inl ⟨p, xs, i, v, rfl, dy.int, h1, h3, k v S H (Ext.refl s) h4⟩
end
noncomputable def kE {α : Type} (xs : List α) (lo hi : Option Int) : List α := (xs.drop (HT.sIx xs.length 0 lo)).take (HT.sIx xs.length xs.length hi - HT.sIx xs.length 0 lo)
noncomputable def Ir (K : W.Frag) : V -> Option Int -> Option Int -> Hp -> VK -> Prop := fun x lo hi H Q => Iv K x lo hi H Q \/
 ∃ a xs, x = .ref a /\ SqT K H a xs /\ (nv xs lo hi = xs -> Q (.ref a) H) /\ ∀ p, H p = none -> Q (.ref p) (upd H p (.tup (nv xs lo hi)))
noncomputable abbrev XO := Env -> Option (Option Int)
def SO (K : W.Frag) (t : TO) (o : XO) : Prop := ∀ ρ σ S H (Q : Option Int -> Hp -> Prop) i, Rl K ρ σ S H -> o ρ = some i -> (∀ S' H', Ext S H S' H' -> Q i H') -> t σ H Q
@[simp] noncomputable def aU : XO := fun _ => some none
@[simp] noncomputable def bP (a : XE) : XO := fun ρ => (a ρ).bind fun d => match d with | .int i => some (some i) | _ => none
section
variable {K : W.Frag}
theorem il : SO K Ba aU := fun ρ σ S H Q i r x k => by cases x; exact k S H (Ext.refl r.sub)
theorem jF {ta : TE} {a : XE} (h : SPk K ta a) : SO K (Go ta) (bP a) := fun ρ σ S H Q i r x k => by
 unfold bP at x
 cases q : a ρ with
 | none => rw [q] at x; cases x
 | some d =>
  rw [q] at x
  dsimp only [Option.bind] at x
  cases d <;> try (cases x; done)
  rename_i j
  cases x
  exact h ρ σ S H _ _ r q fun v S1 H1 z1 d1 => ⟨j, d1.int, k S1 H1 z1⟩
theorem nM {S : Hp} {ds : List D} {xs : List V} (h : Dens K S ds xs) (lo hi : Option Int) : Dens K S (kE ds lo hi) (nv xs lo hi) := by
 unfold kE nv
 rw [h.length]
 exact (h.drop _).take _
noncomputable def dSl (d : D) (lo hi : Option Int) : Option D := match d with
 | .lst l => some (.lst (kE l lo hi))
 | .tup l => some (.tup (kE l lo hi))
 | .scr l => some (.lst (kE l lo hi))
 | _ => none
@[simp] noncomputable def xSl (a : XE) (lo hi : XO) : XE := fun ρ => (a ρ).bind fun d => (lo ρ).bind fun l => (hi ρ).bind fun h => dSl d l h
theorem xx {te : TE} {tl th : TO} {a : XE} {lo hi : XO} (ha : SPk K te a) (hl : SO K tl lo) (hh : SO K th hi) : SE K (tSl (Ir K) te tl th) (xSl a lo hi) := fun ρ σ S H Q g r x k => by
 unfold xSl at x
 cases q : a ρ with
 | none => rw [q] at x; cases x
 | some d =>
  rw [q] at x
  dsimp only [Option.bind] at x
  cases ql : lo ρ with
  | none => rw [ql] at x; cases x
  | some l =>
   rw [ql] at x
   dsimp only at x
   cases qh : hi ρ with
   | none => rw [qh] at x; cases x
   | some h =>
    rw [qh] at x
    dsimp only at x
    refine ha ρ σ S H _ d r q fun v S1 H1 z1 d1 => ?_
    have r1 := r.ext z1
    refine hl ρ σ S1 H1 _ l r1 ql fun S2 H2 z2 => ?_
    have r2 := r1.ext z2
    refine hh ρ σ S2 H2 _ h r2 qh fun S3 H3 z3 => ?_
    have z23 := z2.trans z3
    have d3 := d1.mono z23 r1.sub
    have s3 := (r2.ext z3).sub
    have z := z1.trans z23
    cases d <;> try (cases x; done)
    ·cases x
     obtain ⟨p, xs, rfl, h1, h2⟩ := d3.lst s3
     refine .inl ⟨p, xs, rfl, .inl h1, fun p' hp => ?_⟩
     have z4 := Ext.new (o := .lst (nv xs l h)) s3 hp
     exact k _ _ _ (z.trans z4) (den_lst.mpr ⟨p', _, rfl, .inl aO, (nM h2 l h).mono z4.sh⟩)
    ·rename_i ds
     cases x
     have d3' : Den K S3 (.tup ds) v := d3.elim id fun ⟨_, _, _, e, _⟩ => by cases e
     obtain ⟨p, xs, e, h1, h2⟩ := d3.tup s3
     subst e
     refine .inr ⟨p, xs, rfl, h1, fun e => k _ S3 H3 z ?_, fun p' hp => ?_⟩
     ·obtain ⟨p2, xs2, e2, h3, h4⟩ := den_tup.mp d3'
      cases e2
      have c := nM h2 l h
      rw [e] at c
      refine den_tup.mpr ⟨p, xs2, rfl, h3, ?_⟩
      have hlen := c.length
      have : kE ds l h = ds := by
       have hl2 : (kE ds l h).length = ds.length := by rw [c.length, h2.length]
       unfold kE at hl2 ⊢
       rw [List.length_take, List.length_drop] at hl2
       have a0 : HT.sIx ds.length 0 l = 0 \/ ds.length = 0 := by lia
       rcases a0 with a0 | a0
       ·rw [a0, List.drop_zero] at *
        exact List.take_of_length_le (by lia)
       ·have : ds = [] := List.length_eq_zero_iff.mp a0
        subst this
        simp
      rw [this]
      exact h4
     ·have z4 := Ext.new (o := .tup (nv xs l h)) s3 hp
      exact k _ _ _ (z.trans z4) (den_tup.mpr ⟨p', _, rfl, TpA.of aO, (nM h2 l h).mono z4.sh⟩)
    ·cases x
     obtain ⟨p, xs, rfl, h1, h2⟩ := d3.scr s3
     refine .inl ⟨p, xs, rfl, h1, fun p' hp => ?_⟩
     have z4 := Ext.new (o := .lst (nv xs l h)) s3 hp
     exact k _ _ _ (z.trans z4) (den_lst.mpr ⟨p', _, rfl, .inl aO, (nM h2 l h).mono z4.sh⟩)
noncomputable def F8 (K : W.Frag) : List V -> Hp -> VK -> Prop := fun xs H Q => ∃ x n, xs = [x] /\ Id K x H n /\ Q (.int n) H
noncomputable def ik : List D -> Option D
 | [.lst l] => some (.int l.length)
 | [.tup l] => some (.int l.length)
 | [.scr l] => some (.int l.length)
 | [.str x] => if x.length <= LIM then some (.int x.length) else none
 | _ => none
theorem fG {S H : Hp} {d : D} {vs : List V} (h : DensP K S H [d] vs) : ∃ v, vs = [v] /\ DenP K S H d v := by
 cases h with
 | cons a b => cases b; exact ⟨_, rfl, a⟩
theorem AA {S H : Hp} {d e : D} {vs : List V} (h : DensP K S H [d, e] vs) : ∃ v w, vs = [v, w] /\ DenP K S H d v /\ DenP K S H e w := by
 cases h with
 | cons a b => cases b with
  | cons c b => cases b; exact ⟨_, _, rfl, a, c⟩
theorem jf : SRB K (F8 K) ik := fun S H vs ds g Q s d q k => by
 unfold ik at q
 split at q
 ·rename_i l
  cases q
  obtain ⟨v, rfl, d1⟩ := fG d
  obtain ⟨p, xs, rfl, h1, h2⟩ := d1.lst s
  exact ⟨_, xs.length, rfl, .inl ⟨xs, .inl h1, rfl⟩, k _ S H (Ext.refl s) (den_int.mpr (by rw [h2.length]))⟩
 ·rename_i l
  cases q
  obtain ⟨v, rfl, d1⟩ := fG d
  obtain ⟨p, xs, rfl, h1, h2⟩ := d1.tup s
  exact ⟨_, xs.length, rfl, .inr ⟨xs, h1, rfl⟩, k _ S H (Ext.refl s) (den_int.mpr (by rw [h2.length]))⟩
 ·rename_i l
  cases q
  obtain ⟨v, rfl, d1⟩ := fG d
  obtain ⟨p, xs, rfl, h1, h2⟩ := d1.scr s
  exact ⟨_, xs.length, rfl, .inl ⟨xs, h1, rfl⟩, k _ S H (Ext.refl s) (den_int.mpr (by rw [h2.length]))⟩
 ·rename_i x
  split at q
  ·rename_i hl
   cases q
   obtain ⟨v, rfl, d1⟩ := fG d
   exact ⟨_, x.length, rfl, by rw [d1.str]; exact ⟨tG hl, rfl⟩, k _ S H (Ext.refl s) (den_int.mpr rfl)⟩
  ·cases q
 ·cases q
noncomputable def kM : List D -> Option D
 | [.lst l] => some (.tup l)
 | [.tup l] => some (.tup l)
 | [.scr l] => some (.tup l)
 | _ => none
theorem rn : SRB K (Hh K) kM := fun S H vs ds g Q s d q k => by
 unfold kM at q
 split at q
 ·rename_i l
  cases q
  obtain ⟨v, rfl, d1⟩ := fG d
  obtain ⟨p, xs, rfl, h1, h2⟩ := d1.lst s
  refine ⟨p, xs, rfl, .inl ⟨.inl h1, fun q hq => ?_⟩⟩
  have z := Ext.new (o := .tup xs) s hq
  exact k _ _ _ z (den_tup.mpr ⟨q, _, rfl, TpA.of aO, h2.mono z.sh⟩)
 ·rename_i l
  cases q
  obtain ⟨v, rfl, d1⟩ := fG d
  have d' : Den K S (.tup l) v := d1.elim id fun ⟨_, _, _, e, _⟩ => by cases e
  obtain ⟨p, xs, rfl, h1, h2⟩ := d1.tup s
  exact ⟨p, xs, rfl, .inr ⟨h1, k _ S H (Ext.refl s) d'⟩⟩
 ·rename_i l
  cases q
  obtain ⟨v, rfl, d1⟩ := fG d
  obtain ⟨p, xs, rfl, h1, h2⟩ := d1.scr s
  refine ⟨p, xs, rfl, .inl ⟨h1, fun q hq => ?_⟩⟩
  have z := Ext.new (o := .tup xs) s hq
  exact k _ _ _ z (den_tup.mpr ⟨q, _, rfl, TpA.of aO, h2.mono z.sh⟩)
 ·cases q
noncomputable def jm : List D -> Option (List D)
 | [.lst l] => some l
 | [.tup l] => some l
 | [.scr l] => some l
 | _ => none
theorem Hd : SRF K (Ik K) jm := fun S H vs ds g Q s d q k => by
 unfold jm at q
 split at q
 ·rename_i l
  cases q
  obtain ⟨v, rfl, d1⟩ := fG d
  obtain ⟨p, xs, rfl, h1, h2⟩ := d1.lst s
  exact ⟨p, xs, rfl, .inl (.inl h1), fun q hq => k q xs _ (Ext.own s hq) hq aO h2⟩
 ·rename_i l
  cases q
  obtain ⟨v, rfl, d1⟩ := fG d
  obtain ⟨p, xs, rfl, h1, h2⟩ := d1.tup s
  exact ⟨p, xs, rfl, .inr h1, fun q hq => k q xs _ (Ext.own s hq) hq aO h2⟩
 ·rename_i l
  cases q
  obtain ⟨v, rfl, d1⟩ := fG d
  obtain ⟨p, xs, rfl, h1, h2⟩ := d1.scr s
  exact ⟨p, xs, rfl, .inl h1, fun q hq => k q xs _ (Ext.own s hq) hq aO h2⟩
 ·cases q
noncomputable def AV : List D -> Option D
 | [.int i, .int j] => some (.int (if j > i then j else i))
 | _ => none
noncomputable def uX : List D -> Option D
 | [.int i, .int j] => some (.int (if j < i then j else i))
 | _ => none
theorem G2 : SRB K Jl AV := fun S H vs ds g Q s d q k => by
 unfold AV at q
 split at q
 ·rename_i i j
  cases q
  obtain ⟨v, w, rfl, d1, d2⟩ := AA d
  exact ⟨i, j, by rw [d1.int, d2.int], k _ S H (Ext.refl s) (den_int.mpr rfl)⟩
 ·cases q
theorem D0 : SRB K IO uX := fun S H vs ds g Q s d q k => by
 unfold uX at q
 split at q
 ·rename_i i j
  cases q
  obtain ⟨v, w, rfl, d1, d2⟩ := AA d
  exact ⟨i, j, by rw [d1.int, d2.int], k _ S H (Ext.refl s) (den_int.mpr rfl)⟩
 ·cases q
noncomputable def bg : List D -> Option (List Int)
 | [] => some []
 | .int i :: l => (bg l).map fun r => i :: r
 | _ => none
theorem dg {S : Hp} : ∀ {ds : List D} {xs : List V} {ns : List Int}, Dens K S ds xs -> bg ds = some ns -> xs = ns.map V.int /\ ds = ns.map D.int
 | [], xs, ns, h, e => by cases e; exact ⟨h.nil_of, rfl⟩
 | d :: ds, xs, ns, h, e => by
  obtain ⟨y, ys, rfl, h1, h2⟩ := h.cons_of
  cases d <;> try (cases e; done)
  rename_i i
  have e' : (bg ds).map (fun r => i :: r) = some ns := e
  cases q : bg ds with
  | none => rw [q] at e'; cases e'
  | some ms =>
   rw [q] at e'
   cases e'
   obtain ⟨k1, k2⟩ := dg h2 q
   rw [den_int.mp h1, k1]
   exact ⟨rfl, congrArg (D.int i :: ·) k2⟩
noncomputable def Lo : List D -> Option D
 | [.lst l] => (bg l).map fun ns => .int ns.sum
 | _ => none
noncomputable def Ip : List D -> Option D
 | [.int i] => some (.int i)
 | [.bl b] => some (.int (if b then 1 else 0))
 | _ => none
@[simp] noncomputable def Ld (a : XE) : XA := fun ρ => (a ρ).bind fun d => match d with | .lst l => some l.reverse | _ => none
noncomputable def tyD : D -> Option String
 | .non => some "NoneType" | .bl _ => some "bool" | .int _ => some "int" | .str _ => some "str" | .lst _ => some "list" | .tup _ => some "tuple" | _ => none
noncomputable def FJ (t T : String) : Bool := t == T || (t == "bool" && T == "int")
def tyM (K : W.Frag) (H : Hp) (x : V) (t : String) : Prop := match x with
 | .non => t = "NoneType" | .bl _ => t = "bool" | .int _ => t = "int" | .str _ => t = "str"
 | .ref p => (t = "list" /\ ∃ xs, Rd H p (.lst xs)) \/ (t = "tuple" /\ ∃ xs, SqT K H p xs)
 | _ => False
noncomputable def IK : List String := ["bool", "int", "str", "list", "tuple"]
noncomputable def GC (K : W.Frag) : List V -> Hp -> VK -> Prop := fun xs H Q => ∃ x T t, xs = [x, .ty T] /\ tyM K H x t /\ T ∈ IK /\ Q (.bl (FJ t T)) H
noncomputable def ox : List D -> Option D
 | [d, .ty T] => if T ∈ IK then (tyD d).map fun t => .bl (FJ t T) else none
 | _ => none
theorem IH {S H : Hp} {d : D} {v : V} {t : String} (s : Same S H) (h : DenP K S H d v) (e : tyD d = some t) : tyM K H v t := by
 cases d with
 | non => rw [h.non]; cases e; rfl
 | bl b => rw [h.bl]; cases e; rfl
 | int b => rw [h.int]; cases e; rfl
 | str b => rw [h.str]; cases e; rfl
 | lst l =>
  cases e
  obtain ⟨p, xs, rfl, h1, h2⟩ := h.lst s
  exact .inl ⟨rfl, xs, h1⟩
 | tup l =>
  cases e
  obtain ⟨p, xs, rfl, h1, h2⟩ := h.tup s
  exact .inr ⟨rfl, xs, h1⟩
 | _ => cases e
theorem Dd : SRB K (GC K) ox := fun S H vs ds g Q s d q k => by
 unfold ox at q
 split at q
 ·rename_i d0 T
  split at q
  ·rename_i hT
   cases qt : tyD d0 with
   | none => rw [qt] at q; cases q
   | some t =>
    rw [qt] at q
    cases q
    obtain ⟨v, w, rfl, d1, d2⟩ := AA d
    exact ⟨v, T, t, by rw [d2.ty], IH s d1 qt, hT, k _ S H (Ext.refl s) (den_bl.mpr rfl)⟩
  ·cases q
 ·cases q
end
noncomputable def wI (k : List Int) : D := .tup (k.map D.int)
noncomputable def FV : D -> Option (List Int)
 | .tup l => if l.isEmpty then none else bg l
 | _ => none
noncomputable def keys : List D -> Option (List (List Int))
 | [] => some []
 | d :: l => (FV d).bind fun k => (keys l).map fun r => k :: r
theorem w6 : ∀ a b : List Int, HT.aQ a b = true -> HT.aQ b a = false
 | [], [], h => by cases h
 | [], _ :: _, _ => rfl
 | _ :: _, [], h => by cases h
 | x :: a, y :: b, h => by
  have h' : (if x = y then HT.aQ a b else decide (x < y)) = true := h
  show (if y = x then HT.aQ b a else decide (y < x)) = false
  by_cases e : x = y
  ·rw [LO e] at h'; rw [LO e.symm]; exact w6 a b h'
  ·rw [LP e] at h'; rw [LP (fun z => e z.symm)]
   have := MI h'
   exact LX (by lia)
theorem vf : ∀ a b : List Int, HT.aQ a b = false -> HT.aQ b a = false -> a = b
 | [], [], _, _ => rfl
 | [], _ :: _, h, _ => by cases h
 | _ :: _, [], _, h => by cases h
 | x :: a, y :: b, h, k => by
  have h' : (if x = y then HT.aQ a b else decide (x < y)) = false := h
  have k' : (if y = x then HT.aQ b a else decide (y < x)) = false := k
  by_cases e : x = y
  ·rw [LO e] at h'; rw [LO e.symm] at k'
   rw [e, vf a b h' k']
  ·rw [LP e] at h'; rw [LP (fun z => e z.symm)] at k'
   have := MM h'
   have := MM k'
   lia
theorem vg : ∀ a b c : List Int, HT.aQ a b = false -> HT.aQ b c = false -> HT.aQ a c = false
 | [], [], _, _, k => k
 | [], _ :: _, _, h, _ => by cases h
 | _ :: _, _, [], _, _ => rfl
 | _ :: _, [], _ :: _, _, k => by cases k
 | x :: a, y :: b, z :: c, h, k => by
  have h' : (if x = y then HT.aQ a b else decide (x < y)) = false := h
  have k' : (if y = z then HT.aQ b c else decide (y < z)) = false := k
  show (if x = z then HT.aQ a c else decide (x < z)) = false
  by_cases e1 : x = y
  ·rw [LO e1] at h'
   subst e1
   by_cases e2 : x = z
   ·rw [LO e2] at k' ⊢; exact vg a b c h' k'
   ·rw [LP e2] at k' ⊢; exact k'
  ·rw [LP e1] at h'
   have g1 := MM h'
   by_cases e2 : y = z
   ·subst e2
    rw [LP e1]; exact h'
   ·rw [LP e2] at k'
    have g2 := MM k'
    rw [LP (by lia)]
    exact LX (by lia)
noncomputable def B7 (x : List Int) : List (List Int) -> List (List Int)
 | [] => [x]
 | y :: l => if HT.aQ y x = true then y :: B7 x l else x :: y :: l
noncomputable def kF (ks : List (List Int)) : List (List Int) := ks.foldr B7 []
theorem vH (x : List Int) (l : List (List Int)) : (B7 x l).Perm (x :: l) := by
 induction l with
 | nil => exact .refl _
 | cons y l ih =>
  unfold B7
  split
  ·exact (ih.cons y).trans (.swap x y l)
  ·exact .refl _
noncomputable def ve (ns : List Int) : List Int := ns.mergeSort fun a b => decide (a <= b)
theorem m7 (ks : List (List Int)) : (kF ks).Perm ks := by
 induction ks with
 | nil => exact .refl _
 | cons x l ih => exact (vH x (kF l)).trans (ih.cons x)
theorem ud (ns : List Int) : (ve ns).Perm ns := List.mergeSort_perm _ _
theorem FG (x : List Int) (l : List (List Int)) (h : l.Pairwise fun a b => HT.aQ b a = false) : (B7 x l).Pairwise fun a b => HT.aQ b a = false := by
 induction l with
 | nil => exact .cons (fun _ z => by cases z) .nil
 | cons y l ih =>
  have hy : ∀ z, z ∈ l -> HT.aQ z y = false := fun z hz => List.rel_of_pairwise_cons h hz
  unfold B7
  cases q : HT.aQ y x with
  | true =>
   refine .cons (fun z hz => ?_) (ih (List.Pairwise.of_cons h))
   rcases L9.mp ((vH x l).mem_iff.mp hz) with rfl | hz
   ·exact w6 y _ q
   ·exact hy z hz
  | false =>
   refine .cons (fun z hz => ?_) h
   rcases L9.mp hz with rfl | hz
   ·exact q
   ·exact vg z y x (hy z hz) q
theorem xZ (ks : List (List Int)) : (kF ks).Pairwise fun a b => HT.aQ b a = false := by
 induction ks with
 | nil => exact .nil
 | cons x l ih => exact FG x (kF l) ih
theorem DQ (ns : List Int) : (ve ns).Pairwise (· <= ·) := by
 have h := List.pairwise_mergeSort (le := fun a b : Int => decide (a <= b)) (fun a b c h k => by
  have := MI h; have := MI k; exact L6 (by lia)) (fun a b => by
  by_cases h : a <= b
  ·simp [h]
  ·simp [show b <= a by lia]) ns
 exact h.imp fun {a b} e => MI e
theorem zF {ks js : List (List Int)} (hp : js.Perm ks) (hw : js.Pairwise fun a b => HT.aQ b a = false) : js = kF ks :=
 List.Perm.eq_of_pairwise (fun a b _ _ h k => vf a b k h) hw (xZ ks) (hp.trans (m7 ks).symm)
theorem Ag {ns ms : List Int} (hp : ms.Perm ns) (hw : ms.Pairwise (· <= ·)) : ms = ve ns :=
 List.Perm.eq_of_pairwise (fun a b _ _ h k => by lia) hw (DQ ns) (hp.trans (ud ns).symm)
noncomputable def EV (K : W.Frag) : List V -> Hp -> VK -> Prop := fun xs H Q => ∃ p, ∃ yks : List (V × List Int), xs = [.ref p] /\ SqL K H p (yks.map (·.1)) /\ yks.length < 30000 /\ (∀ yk ∈ yks, ∃ q, yk.1 = .ref q /\ SqT K H q (yk.2.map V.int) /\ yk.2 ≠ []) /\
 ∀ (zks : List (V × List Int)) l, zks.Perm yks -> zks.Pairwise (fun a b => HT.aQ b.2 a.2 = false) -> H l = none -> Q (.ref l) (upd H l (.lst (zks.map (·.1))))
noncomputable def ya (K : W.Frag) : List V -> Hp -> VK -> Prop := fun xs H Q => xO K xs H Q \/ EV K xs H Q
noncomputable def oz : List D -> Option (List D)
 | [.lst l] => if l.length < 30000 then (match bg l with
  | some ns => some ((ve ns).map D.int)
  | none => (keys l).map fun ks => (kF ks).map wI) else none
 | _ => none
section
variable {K : W.Frag}
theorem FX {d : D} {k : List Int} (h : FV d = some k) : d = wI k /\ k ≠ [] := by
 cases d <;> try (cases h; done)
 rename_i l
 have h' : (if l.isEmpty then none else bg l) = some k := h
 split at h'
 ·cases h'
 ·rename_i hne
  have key : ∀ (l : List D) (k : List Int), bg l = some k -> l = k.map D.int := by
   intro l
   induction l with
   | nil => intro k e; cases e; rfl
   | cons d l ih =>
    intro k e
    cases d <;> try (cases e; done)
    rename_i i
    have e' : (bg l).map (fun r => i :: r) = some k := e
    cases q : bg l with
    | none => rw [q] at e'; cases e'
    | some m => rw [q] at e'; cases e'; rw [ih m q]; rfl
  have e := key l k h'
  subst e
  exact ⟨rfl, fun z => by subst z; exact hne rfl⟩
theorem A9 : ∀ {l : List D} {ks : List (List Int)}, keys l = some ks -> l = ks.map wI /\ ∀ k ∈ ks, k ≠ []
 | [], ks, h => by cases h; exact ⟨rfl, fun _ h => by cases h⟩
 | d :: l, ks, h => by
  have h' : ((FV d).bind fun k => (keys l).map fun r => k :: r) = some ks := h
  cases q : FV d with
  | none => rw [q] at h'; cases h'
  | some k =>
   rw [q] at h'
   dsimp only [Option.bind] at h'
   cases q2 : keys l with
   | none => rw [q2] at h'; cases h'
   | some r =>
    rw [q2] at h'
    cases h'
    obtain ⟨a, b⟩ := A9 q2
    obtain ⟨c, d⟩ := FX q
    refine ⟨by rw [L1, <- a, <- c], fun k hk => ?_⟩
    rcases L9.mp hk with rfl | hk
    ·exact d
    ·exact b k hk
theorem tW : ∀ {S : Hp} {k : List Int} {xs : List V}, Dens K S (k.map D.int) xs -> xs = k.map V.int
 | S, [], xs, h => h.nil_of
 | S, i :: k, xs, h => by
  obtain ⟨y, ys, rfl, h1, h2⟩ := h.cons_of
  rw [den_int.mp h1, tW h2]
  rfl
theorem w8 {S : Hp} : ∀ {ks : List (List Int)} {xs : List V}, Dens K S (ks.map wI) xs -> (xs.zip ks).map (·.1) = xs /\ (xs.zip ks).map (·.2) = ks /\ (xs.zip ks).length = ks.length /\ ∀ yk ∈ xs.zip ks, Den K S (wI yk.2) yk.1
 | [], xs, h => by rw [h.nil_of]; exact ⟨rfl, rfl, rfl, fun _ h => by cases h⟩
 | k :: ks, xs, h => by
  obtain ⟨y, ys, rfl, h1, h2⟩ := h.cons_of
  obtain ⟨a, b, c, d⟩ := w8 h2
  refine ⟨by rw [MR, L1, a], by rw [MR, L1, b], by rw [MR, Mh, c, Mh], fun yk hm => ?_⟩
  rw [MR] at hm
  rcases L9.mp hm with rfl | hm
  ·exact h1
  ·exact d yk hm
theorem lS {S : Hp} : ∀ {zks : List (V × List Int)}, (∀ yk ∈ zks, Den K S (wI yk.2) yk.1) -> Dens K S ((zks.map (·.2)).map wI) (zks.map (·.1))
 | [], _ => .nil
 | yk :: zks, h => .cons (h yk LV) (lS fun z hz => h z (LY _ hz))
theorem Dk : SRF K (ya K) oz := fun S H vs ds g Q s d q k => by
 unfold oz at q
 split at q
 ·rename_i l
  split at q
  ·rename_i hl
   obtain ⟨v, rfl, d1⟩ := fG d
   obtain ⟨p, xs, rfl, h1, h2⟩ := d1.lst s
   cases qi : bg l with
   | some ns =>
    rw [qi] at q
    cases q
    obtain ⟨e1, e2⟩ := dg h2 qi
    subst e1 e2
    refine .inl ⟨p, ns, rfl, .inl h1, by rw [LR] at hl; exact hl, fun ms a pm pw ha => ?_⟩
    rw [Ag pm pw]
    refine k a _ _ (Ext.own s ha) ha aO ?_
    have key : ∀ ns : List Int, Dens K S (ns.map D.int) (ns.map V.int) := by
     intro ns
     induction ns with
     | nil => exact .nil
     | cons n ns ih => exact .cons (den_int.mpr rfl) ih
    exact key _
   | none =>
    rw [qi] at q
    dsimp only at q
    cases qk : keys l with
    | none => rw [qk] at q; cases q
    | some ks =>
     rw [qk] at q
     cases q
     obtain ⟨e1, e2⟩ := A9 qk
     subst e1
     obtain ⟨a, b, c, dd⟩ := w8 h2
     refine .inr ⟨p, xs.zip ks, rfl, by rw [a]; exact .inl h1, by rw [c]; rw [LR] at hl; exact hl, fun yk hm => ?_, fun zks l pm pw hl => ?_⟩
     ·obtain ⟨q, ys, e, g1, g2⟩ := hU (dd yk hm)
      have := tW g2
      subst this
      refine ⟨q, e, dr s g1, e2 _ ?_⟩
      rw [<- b]
      exact L7.mpr ⟨yk, hm, rfl⟩
     ·have e : zks.map (·.2) = kF ks := by
       refine zF ?_ ?_
       ·rw [<- b]; exact pm.map _
       ·rw [MT]; exact pw
      have dz : Dens K S ((zks.map (·.2)).map wI) (zks.map (·.1)) := lS fun yk hm => dd yk (pm.mem_iff.mp hm)
      rw [e] at dz
      exact k l _ _ (Ext.own s hl) hl aO dz
  ·cases q
 ·cases q
theorem gU {ta : TE} {a : XE} (ha : SPk K ta a) : ST K (IU K ta) (dQ a) := Ij ha
end
noncomputable def Br : D -> D -> Option D := dI fun i j => some (.int (i + j))
section
variable {K : W.Frag}
theorem Fo : SR2 K (ipI fun i j => i + j) Br := B3 (g := fun i j => .int (i + j)) fun i j d h => by cases h; rfl
end
theorem Hr {K : W.Frag} {ta : TE} {a : XE} (ha : SQ K ta a) : ST K (IU K ta) (dQ a) := fun ρ σ S H Q b r x k => by
 unfold dQ at x
 cases qa : a ρ with
 | none => rw [qa] at x; cases x
 | some da =>
  rw [qa] at x
  exact ha ρ σ S H _ da r qa fun v S1 H1 z1 d1 => ⟨b, Et (Same.refl H1) (.inl d1) x, k S1 H1 z1⟩
theorem g8 (g : XG) (m : XS) (d : D) (l : List D) (ρ : Env) : fA g m (d :: l) ρ = (g d ρ).bind fun ρ1 => match m ρ1 with
  | some (.nx ρ2) => fA g m l ρ2
  | some (.ct ρ2) => fA g m l ρ2
  | some (.bk ρ2) => some (.nx ρ2)
  | some (.rt d) => some (.rt d)
  | some (.ro d) => some (.ro d)
  | none => none := rfl
theorem CC {α : Type} {g : XG} {m : XS} (enc : α -> D) (P : List α -> Env -> Prop) (R : D -> Prop) (B : Env -> Prop) (l : List α) (ρ0 : Env) (h0 : P [] ρ0)
  (step : ∀ pre a post ρ, l = pre ++ a :: post -> P pre ρ -> ∃ ρ1 o, g (enc a) ρ = some ρ1 /\ m ρ1 = some o /\ (match o with | .nx ρ2 => P (pre ++ [a]) ρ2 | .ct ρ2 => P (pre ++ [a]) ρ2 | .bk ρ2 => B ρ2 | .rt d => R d | .ro _ => False)) :
  ∃ o, fA g m (l.map enc) ρ0 = some o /\ (match o with | .nx ρ' => P l ρ' \/ B ρ' | .rt d => R d | _ => False) := by
 have key : ∀ (post pre : List α) (ρ : Env), l = pre ++ post -> P pre ρ -> ∃ o, fA g m (post.map enc) ρ = some o /\ (match o with | .nx ρ' => P l ρ' \/ B ρ' | .rt d => R d | _ => False) := by
  intro post
  induction post with
  | nil =>
   intro pre ρ e p
   rw [Mv] at e
   subst e
   exact ⟨_, rfl, .inl p⟩
  | cons a post ih =>
   intro pre ρ e p
   obtain ⟨ρ1, o, h1, h2, h3⟩ := step pre a post ρ e p
   rw [L1, g8, h1]
   dsimp only [Option.bind]
   rw [h2]
   cases o with
   | nx ρ2 => exact ih (pre ++ [a]) ρ2 (by rw [e, Mj]; rfl) h3
   | ct ρ2 => exact ih (pre ++ [a]) ρ2 (by rw [e, Mj]; rfl) h3
   | bk ρ2 => exact ⟨_, rfl, .inr h3⟩
   | rt d => exact ⟨_, rfl, h3⟩
   | ro d => exact h3.elim
 exact key l [] ρ0 rfl h0
theorem bL {α : Type} {g : XG} {m : XS} (enc : α -> D) (P : List α -> Env -> Prop) (l : List α) (ρ0 : Env) (h0 : P [] ρ0)
  (step : ∀ pre a post ρ, l = pre ++ a :: post -> P pre ρ -> ∃ ρ1 ρ2, g (enc a) ρ = some ρ1 /\ (m ρ1 = some (.nx ρ2) \/ m ρ1 = some (.ct ρ2)) /\ P (pre ++ [a]) ρ2) :
  ∃ ρ', fA g m (l.map enc) ρ0 = some (.nx ρ') /\ P l ρ' := by
 obtain ⟨o, h1, h2⟩ := CC (g := g) (m := m) enc P (fun _ => False) (fun _ => False) l ρ0 h0 fun pre a post ρ e p => by
  obtain ⟨ρ1, ρ2, k1, k2, k3⟩ := step pre a post ρ e p
  rcases k2 with k2 | k2
  ·exact ⟨ρ1, _, k1, k2, k3⟩
  ·exact ⟨ρ1, _, k1, k2, k3⟩
 cases o with
 | nx ρ' => exact ⟨ρ', h1, h2.elim id False.elim⟩
 | rt d => exact h2.elim
 | ro d => exact h2.elim
 | bk ρ' => exact h2.elim
 | ct ρ' => exact h2.elim
noncomputable def kG (g : XG) (c : XT) (e : XE) (ρ0 : Env) (d : D) : Option (Option D) := (g d ρ0).bind fun ρ1 => (c ρ1).bind fun b => if b = true then (e ρ1).map some else some none
theorem ir {α : Type} {g : XG} {c : XT} {e : XE} {ρ0 : Env} (enc : α -> D) (f : α -> Option D) : ∀ (l : List α), (∀ a ∈ l, kG g c e ρ0 (enc a) = some (f a)) -> dZ g c e ρ0 (l.map enc) = some (l.filterMap f)
 | [], _ => rfl
 | a :: l, h => by
  have ih := ir (g := g) (c := c) (e := e) (ρ0 := ρ0) enc f l fun b hb => h b (LY _ hb)
  have h1 := h a LV
  unfold kG at h1
  rw [L1, dZ]
  cases q1 : g (enc a) ρ0 with
  | none => rw [q1] at h1; cases h1
  | some ρ1 =>
   rw [q1] at h1
   dsimp only [Option.bind] at h1 ⊢
   cases q2 : c ρ1 with
   | none => rw [q2] at h1; cases h1
   | some b =>
    rw [q2] at h1
    dsimp only at h1 ⊢
    cases b with
    | false =>
     rw [LP (by decide)] at h1 ⊢
     rw [ih, List.filterMap_cons]
     have : f a = none := (Ml h1).symm
     rw [this]
    | true =>
     rw [LO rfl] at h1 ⊢
     cases q3 : e ρ1 with
     | none => rw [q3] at h1; cases h1
     | some y =>
      rw [q3] at h1
      have : f a = some y := (Ml h1).symm
      rw [ih, List.filterMap_cons, this]
      rfl
theorem gH {α : Type} {g : XG} {e : XE} {ρ0 : Env} (enc : α -> D) (f : α -> D) (l : List α) (h : ∀ a ∈ l, kG g eD e ρ0 (enc a) = some (some (f a))) : dZ g eD e ρ0 (l.map enc) = some (l.map f) := by
 rw [ir enc (fun a => some (f a)) l h]
 exact congrArg some (congrFun List.filterMap_eq_map' l)
theorem nG {c : XT} {m : XS} (P : Env -> Prop) (μ : Env -> Nat) (E : Env -> Prop) (step : ∀ ρ, P ρ -> (c ρ = some false /\ E ρ) \/ (c ρ = some true /\ ∃ ρ2, m ρ = some (.nx ρ2) /\ P ρ2 /\ μ ρ2 < μ ρ)) (ρ0 : Env) (h0 : P ρ0) : ∃ ρ', fh c m ρ0 = some (.nx ρ') /\ E ρ' := by
 have key : ∀ (n : Nat) (ρ : Env), μ ρ = n -> P ρ -> ∃ ρ', fh c m ρ = some (.nx ρ') /\ E ρ' := by
  intro n
  induction n using Nat.strongRecOn with
  | ind n ih =>
   intro ρ hn p
   rcases step ρ p with ⟨h1, h2⟩ | ⟨h1, ρ2, h2, h3, h4⟩
   ·exact ⟨ρ, zJ h1, h2⟩
   ·obtain ⟨ρ', k1, k2⟩ := ih (μ ρ2) (by lia) ρ2 rfl h3
    exact ⟨ρ', yU h1 h2 k1, k2⟩
 exact key _ ρ0 rfl h0
noncomputable abbrev prD (p : Int × Int) : D := .tup [.int p.1, .int p.2]
noncomputable abbrev cz (r : List (Int × Int)) : D := .tup (r.map prD)
@[simp] theorem oK {α : Type} (l : List α) (x : α) : atI (l ++ [x]) (-1) = some x := by
 unfold atI ixN
 rw [LP (by decide), LZ, Mt, LO (by lia)]
 have : ((-1 : Int) + ((l.length + 1 : Nat) : Int)).toNat = l.length := by lia
 dsimp only [Option.bind]
 rw [this]
 simp
theorem cQ {α : Type} {l : List α} {j : Nat} {x : α} (h : l[j]? = some x) : atI l (j : Int) = some x := by
 have := (LW.mp h).1
 unfold atI ixN
 rw [LO (by lia), LO (by lia)]
 dsimp only [Option.bind]
 rw [Int.toNat_natCast]
 exact h
@[simp] theorem vJ (l : List O) (x : O) (f : O -> O) : tN (l ++ [x]) (-1) f = l ++ [f x] := by
 unfold tN ixN
 rw [LP (by decide), LZ, Mt, LO (by lia)]
 have : ((-1 : Int) + ((l.length + 1 : Nat) : Int)).toNat = l.length := by lia
 dsimp only
 rw [this]
 simp
@[simp] theorem HS {α : Type} (l : List α) (a b : α) : atI (l ++ [a, b]) (-1) = some b := by
 have := oK (l ++ [a]) b
 rw [Mj] at this
 exact this
@[simp] theorem Jv {α : Type} (a : α) : atI [a] (-1) = some a := oK [] a
@[simp] theorem GN (l : List O) (a b : O) (f : O -> O) : tN (l ++ [a, b]) (-1) f = l ++ [a, f b] := by
 have := vJ (l ++ [a]) b f
 rw [Mj, Mj] at this
 exact this
@[simp] theorem Iw (a : O) (f : O -> O) : tN [a] (-1) f = [f a] := vJ [] a f
@[simp] theorem Ig (i : Int) : n5 (.int i) = some (.int i) := rfl
@[simp] theorem Ju (i : Bool) : n5 (.bl i) = some (.bl i) := rfl
@[simp] theorem IW (i : Str) : n5 (.str i) = some (.str i) := rfl
@[simp] theorem Jd : n5 .non = some .non := rfl
@[simp] theorem Jy (a b : O) (f : O -> O) : tN [a, b] 1 f = [a, f b] := rfl
theorem wX {n : Nat} : ixN (n + 1) (-1) = some n := by
 unfold ixN
 rw [LP (by decide), LO (by lia)]
 congr 1
 lia
section
variable (i j : Int) (a b : List D) (neg : Bool) (ρ : Env)
@[simp] theorem KO : gd (.int i) (.int j) = some (.int (i - j)) := rfl
@[simp] theorem KC : cY (.int i) (.int j) = some (.int (i + j)) := rfl
@[simp] theorem JC : Br (.int i) (.int j) = some (.int (i + j)) := rfl
@[simp] theorem Lu : dLt (.int i) (.int j) = some (.bl (decide (i < j))) := rfl
@[simp] theorem LK : dLe (.int i) (.int j) = some (.bl (decide (i <= j))) := rfl
@[simp] theorem LN : dGt (.int i) (.int j) = some (.bl (decide (j < i))) := rfl
@[simp] theorem LB : dGe (.int i) (.int j) = some (.bl (decide (j <= i))) := rfl
@[simp] theorem KN : ur (.int i) = some (.int (-i)) := rfl
@[simp] theorem JP {i j : Int} (h : -18446744073709551616 < j /\ j < 18446744073709551616) : yo (.int i) (.int j) = some (.int (i * j)) := dn (.inr h)
@[simp] theorem JO {i j : Int} (h : -18446744073709551616 < i /\ i < 18446744073709551616) : yo (.int i) (.int j) = some (.int (i * j)) := dn (.inl h)
@[simp] theorem K7 {i j : Int} (h : 0 < j /\ j < 1073741824) : qY (.int i) (.int j) = some (.int (i / j)) := dn h
@[simp] theorem Lg {i j : Int} (h : 0 < j) : n4 (.int i) (.int j) = some (.int (i % j)) := dn h
@[simp] theorem Gr {i j : Int} (h : 0 <= j /\ j <= 1000000 /\ i.natAbs < 18446744073709551616) : yH (.int i) (.int j) = some (.int (i ^ j.toNat)) := dn h
@[simp] theorem KJ (d : D) : yh neg d .non = some (.bl (if neg then !qQ d else qQ d)) := rfl
@[simp] theorem Iy : qQ .non = true := rfl
@[simp] theorem Jk : qQ (.int i) = false := rfl
@[simp] theorem IX : qQ (.tup a) = false := rfl
@[simp] theorem La : dIx (.lst a) (.int i) = atI a i := rfl
@[simp] theorem Lb : dIx (.tup a) (.int i) = atI a i := rfl
@[simp] theorem K5 : dIx (.scr a) (.int i) = atI a i := rfl
@[simp] theorem JZ : yE (.lst a) = some (!a.isEmpty) := rfl
@[simp] theorem JL : yE (.tup a) = some (!a.isEmpty) := rfl
@[simp] theorem J8 : yE (.scr a) = some (!a.isEmpty) := rfl
@[simp] theorem Ks (x : Bool) : yE (.bl x) = some x := rfl
@[simp] theorem Kh : yE (.int i) = some (i != 0) := rfl
@[simp] theorem Ki : yE .non = some false := rfl
@[simp] theorem JM : ik [.lst a] = some (.int a.length) := rfl
@[simp] theorem JT : ik [.tup a] = some (.int a.length) := rfl
@[simp] theorem JA : ik [.scr a] = some (.int a.length) := rfl
@[simp] theorem J4 : kM [.lst a] = some (.tup a) := rfl
@[simp] theorem JR : kM [.tup a] = some (.tup a) := rfl
@[simp] theorem Kq : jm [.lst a] = some a := rfl
@[simp] theorem Kn : jm [.tup a] = some a := rfl
@[simp] theorem Ko : jm [.scr a] = some a := rfl
@[simp] theorem KD : AV [.int i, .int j] = some (.int (if j > i then j else i)) := rfl
@[simp] theorem KR : uX [.int i, .int j] = some (.int (if j < i then j else i)) := rfl
@[simp] theorem KK : Ip [.int i] = some (.int i) := rfl
@[simp] theorem J5 (x : Bool) : Ip [.bl x] = some (.int (if x then 1 else 0)) := rfl
@[simp] theorem Kf : sG (.lst a) = some a := rfl
@[simp] theorem JY : sG (.tup a) = some a := rfl
@[simp] theorem Jz : sG (.scr a) = some a := rfl
@[simp] theorem KM (lo hi : Option Int) : dSl (.lst a) lo hi = some (.lst (kE a lo hi)) := rfl
@[simp] theorem KQ (lo hi : Option Int) : dSl (.tup a) lo hi = some (.tup (kE a lo hi)) := rfl
@[simp] theorem KU (lo hi : Option Int) : dSl (.scr a) lo hi = some (.lst (kE a lo hi)) := rfl
@[simp] theorem LH (y : XGs) : cO y (.tup a) ρ = y a ρ := rfl
@[simp] theorem LC (x : XG) (y : XGs) (d : D) : aw x y (d :: a) ρ = (x d ρ).bind (y a) := rfl
@[simp] theorem LA : cF [] ρ = some ρ := rfl
@[simp] theorem JX : ox [.int i, .ty "int"] = some (.bl true) := rfl
@[simp] theorem Km : ox [.int i, .ty "bool"] = some (.bl false) := rfl
@[simp] theorem Kb : ox [.tup a, .ty "tuple"] = some (.bl true) := rfl
@[simp] theorem J6 : ox [.lst a, .ty "list"] = some (.bl true) := rfl
@[simp] theorem Jt (x : Bool) : ox [.bl x, .ty "bool"] = some (.bl true) := rfl
theorem HV {j : Int} (h : j < 1000000 /\ -1000000 < j) : rT [.int j] = some (fj 0 j.toNat) := dn h
end
noncomputable abbrev owl (l : List D) : Sl := .ow (.lst (l.map O.sh))
@[simp] theorem IV (os : List O) : FF (.ow (.lst os)) = (shs os).map D.lst := rfl
@[simp] theorem Jx : shs [] = some [] := rfl
@[simp] theorem yR (d : D) (l : List O) : shs (.sh d :: l) = (shs l).map fun r => d :: r := rfl
@[simp] theorem Iz (l : List D) : shs (l.map O.sh) = some l := rD l
@[simp] theorem Df {α : Type} (f : α -> D) (l : List α) : shs (l.map (O.sh ∘ f)) = some (l.map f) := by rw [<- MF]; exact rD _
@[simp] theorem IE {α : Type} (f : α -> D) (l : List α) : shs (l.map fun a => O.sh (f a)) = some (l.map f) := Df f l
@[simp] theorem Ft : ∀ (a b : List O), shs (a ++ b) = (shs a).bind fun x => (shs b).map fun y => x ++ y
 | [], b => by cases h : shs b <;> simp [h]
 | .sh d :: a, b => by
  rw [List.cons_append, yR, yR, Ft a b]
  cases shs a with
  | none => rfl
  | some x => cases shs b <;> rfl
 | .dic _ :: _, _ => rfl
 | .lst _ :: a, b => rfl
 | .tup _ :: a, b => rfl
@[simp] theorem H9 (o : O) : dS o [] = some o := by unfold dS; rfl
@[simp] theorem Ii (l : List O) (k : Int) (r : List Int) : dS (.lst l) (k :: r) = (atI l k).bind fun o => dS o r := rfl
@[simp] theorem Ie (l : List O) (k : Int) (r : List Int) : dS (.tup l) (k :: r) = (atI l k).bind fun o => dS o r := rfl
@[simp] theorem HY (o q : O) : jw o [] q = q := by unfold jw; rfl
@[simp] theorem IC (l : List O) (k : Int) (r : List Int) (q : O) : jw (.lst l) (k :: r) q = .lst (tN l k fun o => jw o r q) := rfl
@[simp] theorem Ix (l : List O) (k : Int) (r : List Int) (q : O) : jw (.tup l) (k :: r) q = .tup (tN l k fun o => jw o r q) := rfl
@[simp] theorem J7 (d : D) : O.d (.sh d) = d := by unfold O.d; rfl
@[simp] theorem Jq (l : List O) : O.d (.lst l) = .lst (O.ds l) := by rw [O.d]
@[simp] theorem Jw (l : List O) : O.d (.tup l) = .tup (O.ds l) := by rw [O.d]
@[simp] theorem IP : O.ds [] = [] := by rw [O.ds]
@[simp] theorem CD (o : O) (l : List O) : O.ds (o :: l) = o.d :: O.ds l := by rw [O.ds]
@[simp] theorem EM : ∀ (a b : List O), O.ds (a ++ b) = O.ds a ++ O.ds b
 | [], b => by simp
 | o :: a, b => by simp [EM a b]
@[simp] theorem zi : ∀ l : List D, O.ds (l.map O.sh) = l
 | [] => by simp
 | d :: l => by simp [zi l]
@[simp] theorem HU {α : Type} (f : α -> D) (l : List α) : O.ds (l.map (O.sh ∘ f)) = l.map f := by rw [<- MF]; exact zi _
@[simp] theorem Le {α : Type} (a b : α) : atI [a, b] 0 = some a := rfl
@[simp] theorem K4 {α : Type} (a b : α) : atI [a, b] 1 = some b := rfl
@[simp] theorem K8 {α : Type} (a b c : α) : atI [a, b, c] 0 = some a := rfl
@[simp] theorem KF {α : Type} (a b c : α) : atI [a, b, c] 1 = some b := rfl
@[simp] theorem Lc {α : Type} (a b c : α) : atI [a, b, c] 2 = some c := rfl
theorem fL : LIM = 1000000 := by unfold LIM; rfl
@[simp] theorem Lp : (0 : Nat) <= LIM := Mr _
@[simp] theorem Lq : (1 : Nat) <= LIM := by rw [fL]; decide
@[simp] theorem LM : (2 : Nat) <= LIM := by rw [fL]; decide
@[simp] theorem Lz : (3 : Nat) <= LIM := by rw [fL]; decide
@[simp] theorem Lh : (4 : Nat) <= LIM := by rw [fL]; decide
@[simp] theorem LI : (5 : Nat) <= LIM := by rw [fL]; decide
@[simp] theorem Lm : (6 : Nat) <= LIM := by rw [fL]; decide
@[simp] theorem Ly : (7 : Nat) <= LIM := by rw [fL]; decide
@[simp] theorem Lv : (8 : Nat) <= LIM := by rw [fL]; decide
@[simp] theorem Ll : (9 : Nat) <= LIM := by rw [fL]; decide
@[simp] theorem Lf : (10 : Nat) <= LIM := by rw [fL]; decide
@[simp] theorem K1 : (0 : Nat) < LIM := by rw [fL]; decide
theorem Hg (p q : Int × Int) : eqD (prD p) (prD q) = decide (p = q) := by
 obtain ⟨a, b⟩ := p
 obtain ⟨c, d⟩ := q
 simp [prD, eqD, eqDs, Prod.ext_iff]
 by_cases h1 : a = c <;> by_cases h2 : b = d <;> simp [h1, h2]
theorem ym : ∀ r t : List (Int × Int), eqDs (r.map prD) (t.map prD) = decide (r = t)
 | [], [] => rfl
 | [], _ :: _ => by simp [eqDs]
 | _ :: _, [] => by simp [eqDs]
 | p :: r, q :: t => by
  rw [L1, L1, eqDs, Hg, ym r t]
  by_cases h1 : p = q <;> by_cases h2 : r = t <;> simp [h1, h2]
theorem F1 (r t : List (Int × Int)) : eqD (cz r) (cz t) = decide (r = t) := by
 unfold cz
 rw [eqD, ym]
theorem xo (n : Nat) : ∀ r : List (Int × Int), okDs (n + 1) (r.map prD) = true
 | [] => by simp [okDs]
 | p :: r => by rw [L1, okDs, xo n r]; simp [prD, okD, okDs]
theorem Bt (r : List (Int × Int)) : okD 50 (cz r) = true := by
 unfold cz
 rw [okD]
 exact xo 48 r
theorem Bd (neg : Bool) (r t : List (Int × Int)) : dEq neg (cz r) (cz t) = some (.bl (if neg then !decide (r = t) else decide (r = t))) := by
 unfold dEq
 rw [LO ⟨Bt r, Bt t⟩, F1]
@[simp] theorem Jp (neg : Bool) (i j : Int) : dEq neg (.int i) (.int j) = some (.bl (if neg then !decide (i = j) else decide (i = j))) := by
 unfold dEq
 rw [LO ⟨by simp [okD], by simp [okD]⟩]
 have : eqD (.int i) (.int j) = decide (i = j) := by simp [eqD]; by_cases h : i = j <;> simp [h]
 rw [this]
@[simp] theorem Ke (neg : Bool) (i j : Bool) : dEq neg (.bl i) (.bl j) = some (.bl (if neg then !decide (i = j) else decide (i = j))) := by
 unfold dEq
 rw [LO ⟨by simp [okD], by simp [okD]⟩]
 have : eqD (.bl i) (.bl j) = decide (i = j) := by simp [eqD]; by_cases h : i = j <;> simp [h]
 rw [this]
theorem uI {K : W.Frag} {S : Hp} : ∀ ns : List Int, Dens K S (ns.map D.int) (ns.map V.int)
 | [] => .nil
 | n :: ns => .cons (den_int.mpr rfl) (uI ns)
theorem CA {K : W.Frag} {H : Hp} {a : Addr} {ns : List Int} {m : List D -> Option O} {E : XK} (hS : SqL K H a (ns.map V.int)) (h : (m [.scr (ns.map D.int)]).map O.d = some (.bl true)) : ft K 1 m [.ref a] H (fun v _ => v = .bl true) E := by
 cases q : m [.scr (ns.map D.int)] with
 | none => rw [q] at h; cases h
 | some o =>
  rw [q] at h
  have e : o.d = .bl true := Ml h
  exact ⟨rfl, H, [.scr (ns.map D.int)], o, Same.refl _, .cons (den_scr.mpr ⟨a, _, rfl, hS, uI ns⟩) .nil, q, fun v fp S' H' z ow _ _ => by
   have dv := ow.denH z.sub
   rw [e] at dv
   exact den_bl.mp dv⟩
end M
namespace L2
open PySem PySem.Spec PyProof.Rows
theorem fE : bootBuiltins "len" = some (.builtin "len") := by decide +kernel
theorem Cu : bootBuiltins "sorted" = some (.builtin "sorted") := by decide +kernel
theorem GZ : bootBuiltins "max" = some (.builtin "max") := by decide +kernel
theorem Af : bootBuiltins "min" = some (.builtin "min") := by decide +kernel
theorem i6 : bootBuiltins "isinstance" = some (.builtin "isinstance") := by decide +kernel
theorem ld : bootBuiltins "tuple" = some (.type "tuple") := by decide +kernel
theorem wm : bootBuiltins "list" = some (.type "list") := by decide +kernel
section
variable {X : Cx}
theorem lm {K : W.Frag} {t T : String} (ht : t ∈ ["NoneType", "bool", "int", "str", "list", "tuple"]) (hT : T ∈ ["bool", "int", "str", "list", "tuple"]) : W.kitOne K (.type t) (.type T) = some (M.FJ t T) := by
 simp only [L9, List.not_mem_nil, or_false] at ht hT
 rcases ht with rfl | rfl | rfl | rfl | rfl | rfl <;> rcases hT with rfl | rfl | rfl | rfl | rfl <;> kernel_rfl
theorem xt : ∀ a b : List Int, Srt.gO a b = HT.aQ a b
 | [], [] => rfl
 | [], _ :: _ => rfl
 | _ :: _, [] => rfl
 | x :: xs, y :: ys => by
  rw [HT.sr, <- xt xs ys]
  rfl
end
end L2
namespace Rev
open PySem
section
variable {prog : Program} {w : World} {A : Around} {s : Shared} {R : Result -> Shared -> Prop} {I : Addr} {fp wr : List Addr} {G : Array GenState -> Array GenState -> Prop} {n : Nat} {P : Nat -> Value -> Prop} {St : Nat -> Shared -> Prop}
end
section
variable {prog : Program} {w : World} {A : Around} {E : Value -> Shared -> Prop} {s : Shared} {I : Addr} {fp wr : List Addr} {G : Array GenState -> Array GenState -> Prop} {n : Nat} {P : Nat -> Value -> Prop} {St : Nat -> Shared -> Prop}
end
end Rev
namespace L2
open PySem PySem.Spec PyProof.Rows
section
variable {X : Cx} {tg : Expr}
theorem bZ {l : Expr} {tl : TE} (hl : PE X l tl) : PI X tg l (rN X.K tl) := by
 intro pins s σ H R I h
 refine thn (hl pins s σ H _ I h) fun v s1 h1 => ?_
 obtain ⟨x, H1, I1, r1, a, e, q⟩ := h1
 subst e
 cases r1
 rcases q with ⟨⟨xs, hq⟩, q⟩ | ⟨⟨xs, hq⟩, q⟩
 ·obtain ⟨its, rv, p, hz⟩ := I1.list hq
  refine wpAny_pyIter_list p.isList ⟨s1.heap.objs.size, [s1.heap.objs.size], _, _, H1, rfl, I1.kept (t' := s1.toks) fun b o e => Mg _ e, CQ a _, ⟨_, Mu _ rfl, rfl, rfl⟩, fun b hb => ?_, q⟩
  rw [L4.mp hb]
  exact I1.fpOk (LU _) I1.fresh
 ·obtain ⟨its, rv, p, hz⟩ := I1.tuple hq
  refine wpAny_pyIter_tuple (show s1.heap.IsTuple a its.toArray from p) ⟨s1.heap.objs.size, [s1.heap.objs.size], _, _, H1, rfl, I1.kept (t' := s1.toks) fun b o e => Mg _ e, Ad a _, ⟨_, Mu _ rfl, rfl, rfl⟩, fun b hb => ?_, q⟩
  rw [L4.mp hb]
  exact I1.fpOk (LU _) I1.fresh
end
section
variable {X : Cx} {tg : Expr}
theorem u9 : ∀ {vs : List Value} {ns : List Int}, IntsAre vs ns -> Vals (ns.map V.int) vs
 | _, _, .nil => .nil
 | _, _, .cons n t h => .cons ⟨t, rfl⟩ (u9 h)
theorem call_sortedI : CallR X (.builtin "sorted") (xO X.K) := by
 intro pins s σ H xs us Q I r h
 obtain ⟨p, ns, rfl, hS, h64, k⟩ := h
 obtain ⟨u, rfl, ru⟩ := r.one
 cases ru
 obtain ⟨its, rv, pl, hz⟩ := I.list hS
 have hI : IntsAre its ns := j9 rv
 have hl : its.length = ns.length := by have := rv.length; rw [LR] at this; exact this.symm
 refine Srt.we pl.isList hI (by rw [sizeLine_eq]; lia) fun out ms ho perm pw => ?_
 obtain ⟨e, at1⟩ := sortedAll_at s.heap its out
 have fresh : s.heap.objs.size <= s.heap.objs.size + 1 := Nat.le_succ _
 refine ⟨.ref (s.heap.objs.size + 1), upd H (s.heap.objs.size + 1) (.lst (ms.map V.int)), I.laid (t' := s.toks) (fun b o hb => sortedAll_old hb) fresh ?_, rfl, k ms _ perm pw (I.hok.fresh fresh)⟩
 exact ⟨by rw [LR, perm.length_eq, sizeLine_eq]; lia, out.toList, e, u9 ho, by simpa using at1⟩
end
end L2
namespace HT
open PySem PySem.Spec PyProof.Rows
section
variable {prog : Program} {w : World} {A : Around} {E : Value -> Shared -> Prop} {s : Shared}
theorem lP {t sl : Addr} {items : Array Value} {vl vu : Value} {lo hi : Option Int} {Q : Value -> Shared -> Prop} (ht : IsTup s.heap t items) (hs : s.heap.IsSliceOf sl vl vu .none) (pl : IsPart vl lo) (pu : IsPart vu hi)
  (hw : sIx items.size 0 lo = 0 /\ sIx items.size items.size hi = items.size) (h : Q (.ref t) s) : wpAny (model prog w) A (getItem (.ref t) (.ref sl)) Q E s := by
 obtain ⟨os, hos, hcs, hds⟩ := id hs
 have hTs : s.TypeIs (.ref sl) "slice" := ⟨os, hos, hcs⟩
 unfold getItem
 try with_reducible refine My ?_
 first | refine LQ (LS ?_) | skip
 refine LQ (wpAny_sequenceKey ht.typeIs (by decide) ?_)
 refine LQ (wpAny_callSpecial?_slot (name := Str.ofString "__getitem__") ht.typeIs PyProof.Rows.slot_tuple_getitem
  (wpAny_call_entry PyProof.Rows.slot_tuple_getitem ht.typeIs entry_tuple_getitem ?_ (args_tuple_getitem _ _)))
 show wpAny _ _ (Builtin.Tuple.tupleItemsOf (.ref t) >>= _) _ _ s
 refine LQ (tupleItemsOf_ ht ?_)
 refine LQ (wpAny_typeOf hTs ?_)
 rw [LO (by decide)]
 refine LQ (jd hs pl pu ?_)
 have hyes : ((((sIx items.size 0 lo : Nat) : Int) == 0 && (1 : Int) == 1 && (sIx items.size items.size hi - sIx items.size 0 lo) == items.size) = true) := by
  rw [hw.1, hw.2]
  simp
 show wpAny _ _ (if (((sIx items.size 0 lo : Nat) : Int) == 0 && (1 : Int) == 1 && (sIx items.size items.size hi - sIx items.size 0 lo) == items.size) = true then _ else _) _ _ s
 rw [LO hyes]
 refine LQ (m := Builtin.Tuple.tupleIsExact _) (LQ (wpAny_typeOf ht.typeIs (LS ?_)))
 rw [LO (by decide)]
 exact LQ (wpAny_rule (LS ⟨_, rfl, LS h⟩))
end
end HT
namespace L2
open PySem PySem.Spec PyProof.Rows M
theorem Inv.rdl {X : Cx} {pins : List (Addr × Obj)} {σ : St} {H : Hp} {s : Shared} {l : Addr} {xs : List V} (I : Inv X pins σ H s) (h : Rd H l (.lst xs)) : xs.length <= sizeLine /\ ∃ (its : List Value) (n : Nat), Vals xs its /\ xs.length = its.length /\ s.heap.get? l = some { cls := .type "list", data := .seq its.toArray n } := by
 obtain ⟨h1, its, n, r, e⟩ := (show ObjOk X.prog X.w H s.heap l (.lst xs) from h.ok I.hok)
 exact ⟨h1, its, n, r, r.length, e⟩
section
variable {X : Cx}
theorem op_catM : OpR X (binaryOp .Add) Gz := by
 intro pins s σ H x y v u Q I rx ry h
 obtain ⟨l, b, xs, zs, rfl, rfl, hH, hB, hz, q⟩ := h
 cases rx
 cases ry
 obtain ⟨z, its, n, r, hl, e⟩ := I.rdl hH
 obtain ⟨z2, its2, n2, r2, hl2, e2⟩ := I.rdl hB
 refine PySem.P.add_list e e2 ?_ (by rw [L8, L8]; lia)
 have ea : its.toArray ++ its2.toArray = (its ++ its2).toArray := by simp
 rw [ea]
 exact ⟨.ref _, _, I.lnew (t' := s.toks) (r.append r2) (by rw [LZ]; lia), rfl, q _ I.fresh⟩
theorem op_tupM : OpR X (binaryOp .Add) (Gh X.K) := by
 intro pins s σ H x y v u Q I rx ry h
 obtain ⟨a, b, xs, ys, rfl, rfl, ha, hb, hz, q1, q2, q⟩ := h
 cases rx
 cases ry
 obtain ⟨its, r1, p1, _⟩ := I.tuple ha
 obtain ⟨its2, r2, p2, _⟩ := I.tuple hb
 have hz2 : its.length + its2.length <= sizeLine := by rw [<- r1.length, <- r2.length]; exact hz
 by_cases hv : its = []
 ·have hx : xs = [] := r1.nil_iff.mp hv
  obtain ⟨⟨cls, dd, data, sl⟩, ho, hc, n, hd⟩ := id p1
  obtain ⟨⟨cls2, dd2, data2, sl2⟩, ho2, hc2, n2, hd2⟩ := id p2
  simp only at hc hd hc2 hd2; subst hc hd hc2 hd2
  exact concat_meets ⟨_, ho, rfl⟩ ⟨_, ho2, rfl⟩ noFill_tuple_add seq_tuple_add PySem.F.slot_tuple_add PySem.F.entry_tuple_add (PySem.F.args_tuple_add_2 (.ref a) (.ref b)) (tuple_addW0 a b its.toArray its2.toArray n n2 dd dd2 sl sl2 (by simp [hv])) ⟨ho, ho2, ⟨.ref b, H, I, rfl, q2 hx⟩⟩
 ·refine HT.F2 p1 p2 hv (fun z => ⟨.ref a, H, I, rfl, q1 (r2.nil_iff.mp z)⟩) (fun z => ?_) hz2
  refine ⟨.ref s.heap.objs.size, _, I.laid (t' := s.toks) (o := .tup (xs ++ ys)) (fun b ob e => Mg _ e) (LU _) ?_, rfl, q _ (I.hok.fresh (LU _))⟩
  exact ⟨by rw [LZ]; exact hz, _, r1.append r2, IsTup.new _ _⟩
theorem FQ : OpR X (binaryOp .Add) Gu := Ai
theorem bx : OpR X (binaryOp .Add) (Gy X.K) := op_add.or (op_catM.or (op_tupM.or FQ))
mutual
noncomputable def pyD : D -> PyData
 | .non => .none
 | .bl b => .bool b
 | .int i => .int i
 | .str x => .str x
 | .lst l => .list (pyDs l)
 | .tup l => .tuple (pyDs l)
 | _ => .none
noncomputable def pyDs : List D -> List PyData
 | [] => []
 | d :: l => pyD d :: pyDs l
end
mutual
theorem mS : ∀ (n : Nat) (d : D), okD n d = true -> (pyD d).canLay0 = true /\ (pyD d).depth <= n
 | _, .non, _ => by simp [pyD, PyData.canLay0, PyData.depth]
 | _, .bl _, _ => by simp [pyD, PyData.canLay0, PyData.depth]
 | _, .int _, _ => by simp [pyD, PyData.canLay0, PyData.depth]
 | n, .str x, h => by
  have h' : PyData.strOk x = true := by cases n <;> simpa [okD] using h
  simp [pyD, PyData.canLay0, PyData.depth, h']
 | 0, .lst l, h => by simp [okD] at h
 | n + 1, .lst l, h => by
  obtain ⟨a, b⟩ := wU n l (by simpa [okD] using h)
  simp only [pyD, PyData.canLay0, PyData.depth]
  exact ⟨a, by lia⟩
 | 0, .tup l, h => by simp [okD] at h
 | n + 1, .tup l, h => by
  obtain ⟨a, b⟩ := wU n l (by simpa [okD] using h)
  simp only [pyD, PyData.canLay0, PyData.depth]
  exact ⟨a, by lia⟩
 | n, .ty _, h => by cases n <;> simp [okD] at h
 | n, .scr _, h => by cases n <;> simp [okD] at h
 | n, .ins _ _ _, h => by cases n <;> simp [okD] at h
theorem wU : ∀ (n : Nat) (l : List D), okDs n l = true -> PyData.canLayAll0 (pyDs l) = true /\ PyData.depthAll (pyDs l) <= n
 | _, [], _ => by simp [pyDs, PyData.canLayAll0, PyData.depthAll]
 | n, d :: l, h => by
  rw [okDs, Mw] at h
  obtain ⟨a, b⟩ := mS n d h.1
  obtain ⟨c, e⟩ := wU n l h.2
  simp only [pyDs, PyData.canLayAll0, PyData.depthAll, a, c]
  exact ⟨rfl, by lia⟩
end
mutual
theorem wa : ∀ (n m : Nat) (d e : D), okD n d = true -> okD m e = true -> PyData.eqv (pyD d) (pyD e) = eqD d e
 | n, m, .non, e, _, he => by cases e <;> first | (simp [pyD, PyData.eqv, eqD]; done) | (cases m <;> simp [okD] at he)
 | n, m, .bl _, e, _, he => by cases e <;> first | (simp [pyD, PyData.eqv, eqD]; done) | (cases m <;> simp [okD] at he)
 | n, m, .int _, e, _, he => by cases e <;> first | (simp [pyD, PyData.eqv, eqD]; done) | (cases m <;> simp [okD] at he)
 | n, m, .str _, e, _, he => by cases e <;> first | (simp [pyD, PyData.eqv, eqD]; done) | (cases m <;> simp [okD] at he)
 | 0, m, .lst _, e, hd, he => by simp [okD] at hd
 | n + 1, m, .lst l, e, hd, he => by
  cases e with
  | lst l' =>
   cases m with
   | zero => simp [okD] at he
   | succ m =>
    simp only [pyD, PyData.eqv, eqD]
    exact eqvs_is n m l l' (by simpa [okD] using hd) (by simpa [okD] using he)
  | _ => first | (simp [pyD, PyData.eqv, eqD]; done) | (cases m <;> simp [okD] at he)
 | 0, m, .tup _, e, hd, he => by simp [okD] at hd
 | n + 1, m, .tup l, e, hd, he => by
  cases e with
  | tup l' =>
   cases m with
   | zero => simp [okD] at he
   | succ m =>
    simp only [pyD, PyData.eqv, eqD]
    exact eqvs_is n m l l' (by simpa [okD] using hd) (by simpa [okD] using he)
  | _ => first | (simp [pyD, PyData.eqv, eqD]; done) | (cases m <;> simp [okD] at he)
 | n, _, .ty _, _, h, _ => by cases n <;> simp [okD] at h
 | n, _, .scr _, _, h, _ => by cases n <;> simp [okD] at h
 | n, _, .ins _ _ _, _, h, _ => by cases n <;> simp [okD] at h
theorem eqvs_is : ∀ (n m : Nat) (l l' : List D), okDs n l = true -> okDs m l' = true -> PyData.eqvAll (pyDs l) (pyDs l') = eqDs l l'
 | _, _, [], [], _, _ => by simp [pyDs, PyData.eqvAll, eqDs]
 | _, _, [], _ :: _, _, _ => by simp [pyDs, PyData.eqvAll, eqDs]
 | _, _, _ :: _, [], _, _ => by simp [pyDs, PyData.eqvAll, eqDs]
 | n, m, d :: l, e :: l', hd, he => by
  rw [okDs, Mw] at hd he
  rw [pyDs, pyDs, PyData.eqvAll, eqDs, wa n m d e hd.1 he.1, eqvs_is n m l l' hd.2 he.2]
end
mutual
theorem fN {pins : List (Addr × Obj)} {σ : St} {H : Hp} {s : Shared} (I : Inv X pins σ H s) : ∀ (n : Nat) {d : D} {x : V} {v : Value}, okD n d = true -> Den X.K H d x -> RelV x v -> ∃ as, Reads s.heap v (pyD d) as
 | _, .non, x, v, _, dx, r => by rw [den_non.mp dx] at r; cases r; exact ⟨_, .none⟩
 | _, .bl b, x, v, _, dx, r => by rw [den_bl.mp dx] at r; cases r; exact ⟨_, .bool b⟩
 | _, .int i, x, v, _, dx, r => by rw [den_int.mp dx] at r; obtain ⟨t, rfl⟩ := r; exact ⟨_, .int i t⟩
 | _, .str y, x, v, _, dx, r => by rw [den_str.mp dx] at r; obtain ⟨t, rfl⟩ := r; exact ⟨_, .str y t⟩
 | 0, .lst _, x, v, h, dx, r => by simp [okD] at h
 | n + 1, .lst l, x, v, h, dx, r => by
  obtain ⟨p, xs, rfl, hp, ds⟩ := den_lst.mp dx
  cases r
  obtain ⟨_, its, k, rv, _, e⟩ := I.rdl hp
  obtain ⟨as, ra⟩ := dens_reads I n (by simpa [okD] using h) ds rv
  exact ⟨_, .list e rfl rfl (by simpa using ra)⟩
 | 0, .tup _, x, v, h, dx, r => by simp [okD] at h
 | n + 1, .tup l, x, v, h, dx, r => by
  obtain ⟨p, xs, rfl, hp, ds⟩ := hU dx
  cases r
  obtain ⟨its, rv, ⟨o, e, c, k, d⟩, _⟩ := I.tuple hp
  obtain ⟨as, ra⟩ := dens_reads I n (by simpa [okD] using h) ds rv
  exact ⟨_, .tuple e c d (by simpa using ra)⟩
 | n, .ty _, _, _, h, _, _ => by cases n <;> simp [okD] at h
 | n, .scr _, _, _, h, _, _ => by cases n <;> simp [okD] at h
 | n, .ins _ _ _, _, _, h, _, _ => by cases n <;> simp [okD] at h
theorem dens_reads {pins : List (Addr × Obj)} {σ : St} {H : Hp} {s : Shared} (I : Inv X pins σ H s) : ∀ (n : Nat) {ds : List D} {xs : List V} {vs : List Value}, okDs n ds = true -> Dens X.K H ds xs -> Vals xs vs -> ∃ as, ReadsAll s.heap vs (pyDs ds) as
 | _, [], xs, vs, _, d, r => by
  rw [d.nil_of] at r
  cases r
  exact ⟨_, .nil⟩
 | n, d :: ds, xs, vs, h, dd, r => by
  rw [okDs, Mw] at h
  obtain ⟨y, ys, rfl, a, b⟩ := dd.cons_of
  cases r with
  | cons r rr =>
   obtain ⟨as, ra⟩ := fN I n h.1 a r
   obtain ⟨bs, rb⟩ := dens_reads I n h.2 b rr
   exact ⟨_, .cons ra rb⟩
end
theorem iX (hu : X.A.units + 64 < cLine) : OpR X (compareOp .Eq) (GM X.K false) := by
 intro pins s σ H x y v u Q I rx ry h
 obtain ⟨S, d, e, sm, dx, dy, cd, ce, q⟩ := h
 obtain ⟨as, ra⟩ := fN I 50 cd (mL sm dx) rx
 obtain ⟨bs, rb⟩ := fN I 50 ce (mL sm dy) ry
 obtain ⟨a1, a2⟩ := mS 50 d cd
 obtain ⟨b1, b2⟩ := mS 50 e ce
 have hm := Nat.min_le_left (pyD d).depth (pyD e).depth
 refine SeqAt.compareEq_reads ra rb a1 b1 (by lia) ⟨.bl _, H, I, rfl, ?_⟩
 rw [wa 50 50 d e cd ce]
 exact q
theorem wq (hu : X.A.units + 64 < cLine) : OpR X (compareOp .NotEq) (GM X.K true) := by
 intro pins s σ H x y v u Q I rx ry h
 obtain ⟨S, d, e, sm, dx, dy, cd, ce, q⟩ := h
 obtain ⟨as, ra⟩ := fN I 50 cd (mL sm dx) rx
 obtain ⟨bs, rb⟩ := fN I 50 ce (mL sm dy) ry
 obtain ⟨a1, a2⟩ := mS 50 d cd
 obtain ⟨b1, b2⟩ := mS 50 e ce
 have hm := Nat.min_le_left (pyD d).depth (pyD e).depth
 refine SeqAt.compareNe_reads ra rb a1 b1 (by lia) ⟨.bl _, H, I, rfl, ?_⟩
 rw [wa 50 50 d e cd ce]
 exact q
theorem cf : CallR X (.builtin "len") (F8 X.K) := E2
theorem pS : CallR X (.builtin "isinstance") (GC X.K) := by
 intro pins s σ H xs us Q I r h
 obtain ⟨x, T, t, rfl, ht, hm, q⟩ := h
 obtain ⟨u, w', rfl, ru, rw'⟩ := r.two
 cases rw'
 have fin : ∀ tk : Nat, EP X pins σ Q (.bool (FJ t T)) { s with toks := tk } := fun tk => ⟨.bl _, H, I.tok tk, rfl, q⟩
 cases x with
 | non => cases ht; exact lq I ru .non (lm (by decide) hm) fin
 | bl b => cases ht; exact lq I ru (.bl b) (lm (by decide) hm) fin
 | int i => cases ht; exact lq I ru (.int i) (lm (by decide) hm) fin
 | str y => cases ht; exact lq I ru (.str y) (lm (by decide) hm) fin
 | ref p =>
  cases ru
  rcases ht with ⟨rfl, xs, h⟩ | ⟨rfl, xs, h⟩
  ·obtain ⟨_, its, n, rv, _, e⟩ := I.rdl h
   exact W.kia_one W.kitx_list I.kIn ⟨_, e, rfl⟩ (lm (by decide) hm) (fun z => nomatch z) fin
  ·obtain ⟨its, rv, ⟨o, e, c, _⟩, _⟩ := I.tuple h
   exact W.kia_one W.kitx_tuple I.kIn ⟨o, e, c⟩ (lm (by decide) hm) (fun z => nomatch z) fin
 | _ => exact (show False from ht).elim
theorem A8 : MtM X "list.extend" rExtM := by
 intro pins s σ H x vs v us Q I rx rv h
 obtain ⟨l, b, xs, zs, rfl, rfl, hH, hB, hz, q⟩ := h
 cases rx
 obtain ⟨u, rfl, ru⟩ := rv.one
 cases ru
 obtain ⟨z, its, n, r, hl, e⟩ := I.lstM hH
 obtain ⟨z2, its2, n2, r2, hl2, e2⟩ := I.rdl hB
 have hsz : its.toArray.size + its2.toArray.size <= sizeLine := by rw [L8, L8]; lia
 have hlong : ¬ (!its.toArray.isEmpty && Builtin.List.listTooLong (its.toArray.size + its2.toArray.size)) = true := by
  rw [EX hsz, Bool.and_false]
  exact MH
 refine call_meets F.slot_list_extend ⟨_, e, rfl⟩ F.entry_list_extend (F.args_list_extend_2 _ _)
  (AutoSeq1.list_extend_list_list_0 l its.toArray n b its2.toArray n2 hlong (by rw [L8]; lia) (by lia)) ⟨e, e2, ?_⟩
 refine ⟨.non, _, I.lset (its' := its ++ its2) hH e (by simp) (r.append r2) ?_, rfl, q⟩
 rw [LZ]
 lia
theorem xb : SlR X (Ir X.K) := by
 refine SlR.or FD ?_
 intro pins s σ H x v vl vu lo hi sl Q I rx hs pl pu h
 obtain ⟨a, xs, rfl, hx, q1, q2⟩ := h
 cases rx
 by_cases hw : HT.sIx xs.length 0 lo = 0 /\ HT.sIx xs.length xs.length hi = xs.length
 ·obtain ⟨its, r, ht, hz⟩ := I.tuple hx
  have hlen : its.toArray.size = xs.length := by rw [L8]; exact r.length.symm
  have hcut : nv xs lo hi = xs := by
   unfold nv
   rw [hw.1, hw.2, List.drop_zero, Nat.sub_zero, List.take_of_length_le (LU _)]
  refine ⟨"tuple", _, PyProof.Rows.slot_tuple_getitem.lookup, ht.typeIs, ?_⟩
  exact HT.lP ht hs pl pu (by rw [hlen]; exact hw) ⟨.ref a, H, I, rfl, q1 hcut⟩
 ·exact GE pins s σ H (.ref a) (.ref a) vl vu lo hi sl Q I rfl hs pl pu ⟨a, xs, rfl, hx, hw, q2⟩
theorem Al : CallR X (.builtin "sorted") (EV X.K) := by
 intro pins s σ H xs us Q I r h
 obtain ⟨p, yks, rfl, hS, h64, hk, k⟩ := h
 obtain ⟨u, rfl, ru⟩ := r.one
 cases ru
 obtain ⟨its, rv, pl, hz⟩ := I.list hS
 have hl : yks.length = its.length := by rw [<- rv.length, LR]
 have atI : ∀ i, i < its.length -> ∃ yk, yks[i]? = some yk /\ yks.getD i (.non, []) = yk /\ RelV yk.1 (its.getD i Value.none) := fun i hi => by
  have ey : yks[i]? = some yks[i] := Mf (by lia)
  have ex : (yks.map (·.1))[i]? = some yks[i].1 := by rw [L3, ey]; rfl
  obtain ⟨v, ev, rl⟩ := rv.get ex
  exact ⟨_, ey, by rw [MZ, ey]; rfl, by rw [MZ, ev]; exact rl⟩
 have tup : ∀ i, i < its.length -> Srt.Ja s.heap (its.getD i Value.none) (yks.getD i (.non, [])).2 /\ (yks.getD i (.non, [])).2 ≠ [] := fun i hi => by
  obtain ⟨yk, e1, e2, rl⟩ := atI i hi
  obtain ⟨q, e3, e4, e5⟩ := hk _ (ML e1)
  rw [e2]
  refine ⟨?_, e5⟩
  rw [e3] at rl
  have rl' : its.getD i Value.none = Value.ref q := rl
  obtain ⟨js, rj, ⟨o, ho, hc, n, hd⟩, _⟩ := I.tuple e4
  refine ⟨q, o, js.toArray, n, rl', ho, hc, hd, ?_⟩
  simpa using j9 rj
 refine Srt.uY (Srt.EY fun i => (yks.getD i (.non, [])).2) pl.isList (by rw [sizeLine_eq]; lia) (Srt.AF tup) fun q hq ha => ?_
 obtain ⟨pv, pw⟩ := Srt.AJ (vs := its) (d := Value.none) hq ha
 rw [<- hl] at hq ha
 obtain ⟨py, wy⟩ := Srt.AJ (vs := yks) (d := ((V.non, []) : V × List Int)) hq ha
 obtain ⟨e, at1⟩ := sortedAll_at s.heap its (Srt.kf its q)
 have hv : Vals ((q.toList.map fun i => yks.getD i (.non, [])).map (·.1)) (q.toList.map fun i => its.getD i Value.none) := by
  have hb : ∀ i ∈ q.toList, i < its.length := fun i hi => by
   have : i < yks.length := by simpa using (Array.perm_iff_toList_perm.mp hq).mem_iff.mp hi
   lia
  revert hb
  generalize q.toList = L
  induction L with
  | nil => exact fun _ => .nil
  | cons i L ih =>
   intro hb
   refine .cons ?_ (ih fun j hj => hb j (LY _ hj))
   obtain ⟨yk, _, e2, rl⟩ := atI i (hb i LV)
   dsimp only
   rw [e2]
   exact rl
 have fresh : s.heap.objs.size <= s.heap.objs.size + 1 := Nat.le_succ _
 refine ⟨.ref (s.heap.objs.size + 1), upd H (s.heap.objs.size + 1) (.lst ((q.toList.map fun i => yks.getD i (.non, [])).map (·.1))), I.laid (t' := s.toks) (fun b o hb => sortedAll_old hb) fresh ?_, rfl, ?_⟩
 ·refine ⟨by rw [LR, py.length_eq, sizeLine_eq]; lia, _, e, hv, at1⟩
 ·refine k _ _ py (wy _ fun i j _ _ h => ?_) (I.hok.fresh fresh)
  rw [<- xt]
  exact h
theorem vR : CallR X (.builtin "sorted") (ya X.K) := call_sortedI.or Al
end
end L2
namespace M
noncomputable def Je (a : List Int) (k : Int) : List Int := if a.any (· == k) then a else a ++ [k]
noncomputable def JD (ns : List Int) : List Int := ns.foldl Je []
end M
namespace L2
open PySem
theorem oj : ∀ {ns : List Int} {its : List Value}, Vals (ns.map V.int) its -> PyProof.Rows.IntsAre its ns
 | [], _, h => by cases h; exact .nil
 | n :: ns, _, h => by
  cases h with
  | cons r t =>
   obtain ⟨tk, rfl⟩ := r
   exact .cons n tk (oj t)
section
variable {X : Cx}
end
end L2
namespace M
open PySem L2
section
variable {K : W.Frag}
end
end M
namespace L2
open PySem M
end L2
namespace M
open PySem L2
@[simp] noncomputable def Jr (a : XE) : XE := fun ρ => (a ρ).bind fun d => match d with | .lst l => (bg l).bind fun ns => if ns.length < 4000 then some (.int ((JD ns).length : Nat)) else none | _ => none
end M
namespace L2
open PySem
section
variable {X : Cx} {o e : Expr} {es : List Expr} {f m : Str} {pos apos p : Pos} {ta : TE} {t : TA} {Ns : List Str} {k : Nat} {g C : Addr} {fd : FuncData} {ps : List Str} {sp : Sp}
structure ClsFn (K : W.Frag) (C : Addr) (m : Str) (f : Addr) : Prop where
 sp : W.specialIn K (.ref C) "__getattribute__" = some (some (.builtin "type.__getattribute__"))
 rd : W.readsIn K C (.type "type") = true
 fn : W.findCls K (.ref C) (.type "type") m = some (.val (.ref f))
 kp : W.keepIn K (.ref f) = true
end
end L2
namespace M
open PySem L2
section
variable {K : W.Frag} {S S' H H' : Hp}
noncomputable def Ih : List Str -> List D -> Str -> Option D
 | n :: ns, d :: l, f => if f = n then some d else Ih ns l f
 | _, _, _ => none
@[simp] noncomputable def Lk (Ns : List Str) (f : Str) (e : XE) : XE := fun ρ => (e ρ).bind fun d => match d with | .ins N ns l => if Ns.contains N then Ih ns l f else none | _ => none
@[simp] noncomputable def K9 (Ns : List Str) (m : Str) (g : List D -> Option D) (e : XE) (a : XA) : XE := fun ρ => (e ρ).bind fun d => match d with | .ins N ns l => if Ns.contains N && !ns.contains m then (a ρ).bind fun ds => g (.ins N ns l :: ds) else none | _ => none
@[simp] noncomputable def K2 (N f : Str) (mi : List D -> Option D) (a : XA) : XE := fun ρ => ((a ρ).bind mi).map fun d => .ins N [f] [d]
end
end M
namespace M
end M
namespace L2
open PySem PySem.Spec PyProof.Rows
section
variable {prog : Program} {w : World} {A : Around} {E : Value -> Shared -> Prop} {s : Shared}
end
section
variable {X : Cx}
end
end L2
namespace M
open PySem L2
section
variable {K : W.Frag}
end
end M
namespace L2
open PySem
theorem gW {XN : List Str} {sc scope : Scope} {N : List Str} {js : List (Option Nat)} (h1 : scope.kind = .function := by rfl) (h2 : ∀ y ∈ scope.names, y.2 ≠ .cell := by decide +kernel) (h3 : ∀ y ∈ scope.names, y.2 = .free -> sc.names.lookup y.1 = some .cell \/ sc.names.lookup y.1 = some .free := by decide +kernel)
  (h4 : ∀ y ∈ scope.names, y.2 = .local -> scope.names.lookup y.1 = some .local := by decide +kernel) (h5 : js.length = N.length := by rfl) (h6 : ((N.zip js).all fun p => match p.2 with | none => true | some j => decide (XN[j]? = some p.1) && decide (scope.names.lookup p.1 = some .free)) = true := by decide +kernel) : CmpOk XN sc scope N js := ⟨h1, h2, h3, h4, h5, h6⟩
end L2
namespace M
open PySem L2
noncomputable def dIn (neg : Bool) : D -> D -> Option D
 | .int i, .lst l => (bg l).map fun ns => .bl (if neg then !ns.contains i else ns.contains i)
 | .int i, .tup l => (bg l).map fun ns => .bl (if neg then !ns.contains i else ns.contains i)
 | _, _ => none
@[simp] noncomputable def Kd (m : List D -> Option D) (e : D) (a : XA) : XE := fun ρ => (a ρ).bind fun ds => m (ds ++ [e])
section
variable {K : W.Frag}
theorem sJ (i : Int) : ∀ ns : List Int, inV (.int i) (ns.map V.int) = ns.contains i
 | [] => rfl
 | n :: ns => by
  have ih := sJ i ns
  unfold inV at ih ⊢
  rw [L1, List.any_cons, ih, List.contains_cons]
  have : eqV (V.int n) (V.int i) = (i == n) := by
   show (n == i) = (i == n)
   rw [Bool.eq_iff_iff, beq_iff_eq, beq_iff_eq]
   exact ⟨Eq.symm, Eq.symm⟩
  rw [this]
theorem pV : ∀ ns : List Int, (ns.map V.int).all nQ = true
 | [] => rfl
 | n :: ns => by rw [L1, List.all_cons, pV ns]; rfl
theorem JS (neg : Bool) : SR2 K (rIn K neg) (dIn neg) := fun S H x y d e z Q s dx dy q k => by
 unfold dIn at q
 split at q
 ·rename_i i l
  cases qi : bg l with
  | none => rw [qi] at q; cases q
  | some ns =>
   rw [qi] at q
   cases q
   obtain ⟨p, xs, rfl, h1, h2⟩ := dy.lst s
   obtain ⟨e, _⟩ := dg h2 qi
   subst e
   have ex := dx.int
   subst ex
   exact ⟨p, _, rfl, .inl (.inl h1), rfl, pV ns, by rw [sJ]; exact k _ S H (Ext.refl s) (den_bl.mpr rfl)⟩
 ·rename_i i l
  cases qi : bg l with
  | none => rw [qi] at q; cases q
  | some ns =>
   rw [qi] at q
   cases q
   obtain ⟨p, xs, rfl, h1, h2⟩ := dy.tup s
   obtain ⟨e, _⟩ := dg h2 qi
   subst e
   have ex := dx.int
   subst ex
   exact ⟨p, _, rfl, .inr h1, rfl, pV ns, by rw [sJ]; exact k _ S H (Ext.refl s) (den_bl.mpr rfl)⟩
 ·cases q
end
end M
namespace L2
open PySem
structure FunD (K : W.Frag) (x qual : Str) (st : Stmt) (T : Addr) (f : Addr) (fd : FuncData) : Prop where
 ex : ∃ (oc : Value) (od : Option Addr) (kV doc pm : Value) (an : Option Addr) (cdv ct : Value) (osl : Array (Option Value)), fd = W.fnOf x qual (bf st) (a9 st) (am st) (.ref T) kV doc pm an cdv ct /\ K.lookup f = some ⟨oc, od, .func fd, osl⟩ /\ W.codeIn K cdv qual = true
section
variable {P : Program} {w : World} {K : W.Frag} {mg : Str -> Option Value} {base : Heap}
end
end L2
namespace L2
open PySem PySem.Spec PyProof.Rows
structure CmpOkC (XN : List Str) (sc scope : Scope) (N : List Str) (js : List (Option Nat)) (t : Str) : Prop where
 kind : scope.kind = .function
 free : ∀ y ∈ scope.names, y.2 = .free -> sc.names.lookup y.1 = some .cell \/ sc.names.lookup y.1 = some .free
 loc : ∀ y ∈ scope.names, y.2 = .local -> scope.names.lookup y.1 = some .local
 len : js.length = N.length
 ix : ((N.zip js).all fun p => match p.2 with | none => true | some j => decide (XN[j]? = some p.1) && decide (scope.names.lookup p.1 = some .free)) = true
 cell1 : ∀ y ∈ scope.names, y.2 = .cell -> y.1 = t
 tl : scope.names.lookup t = some .cell
 laid : ∀ n acc, cellsFrom n scope.names acc = (t, n) :: acc
 pushed : ∀ h, pushCells h scope.names = h.push { cls := .type "cell", data := .cell none }
section
variable {X : Cx} {pins : List (Addr × Obj)} {σ : St} {H : Hp} {s : Shared} {XN N : List Str} {sc scope : Scope} {js : List (Option Nat)}
variable {tg iter elt : Expr} {ifs : List Expr} {pos : Pos} {wi : TI} {g : TG} {tt : TIf} {te : TE}
end
end L2
namespace RevT
open PySem PySem.Calls PyProof.Rows
section
variable {prog : Program} {w : World} {A : Around} {E : Value -> Shared -> Prop} {s : Shared}
end
end RevT
namespace L2
open PySem PySem.Spec PyProof.Rows
section
variable {X : Cx} {tg : Expr}
end
end L2
namespace M
open PySem L2
section
variable {K : W.Frag} {S S' H H' : Hp}
noncomputable def JF : List D -> Option (List D)
 | [.tup l] => some l.reverse | _ => none
@[simp] noncomputable def K3 (a : XA) : XA := fun ρ => (a ρ).bind JF
end
end M
namespace L2
open PySem
structure IsC (K : W.Frag) (C : Addr) : Prop where
 cl : Cls K C
 ha : W.findIn K (.ref C) "__class__" = some (some (.builtin "object.__class__"))
 hn : W.specialIn K (.builtin "object.__class__") "__get__" = some (some (.builtin "getset_descriptor.__get__"))
 htk : W.takesIn K (.builtin "object.__class__") = some true
 hm : W.mroIn K C (.type "object") = some true
section
variable {X : Cx} {e : Expr} {pos p p' : Pos} {ta : TE} {T : Addr} {N : Str} {ans : List (Str × Bool)}
end
end L2
namespace M
open PySem L2
section
variable {K : W.Frag} {S S' H H' : Hp}
@[simp] noncomputable def KL (ans : List (Str × Bool)) (e : XE) : XE := fun ρ => (e ρ).bind fun d => match d with | .ins N _ _ => (ans.lookup N).map .bl | _ => none
end
end M
namespace L2
open PySem PySem.Spec PyProof.Rows Builtin Builtin.ObjectAttr Builtin.Getset_descriptor
structure XCls (K : W.Frag) (C : Addr) : Prop where
 cl : W.hasDictIn K C = true
 ga : W.findIn K (.ref C) "__getattribute__" = some (some (.builtin "BaseException.__getattribute__"))
 gx : W.findIn K (.ref C) "__getattr__" = some none
 ca : W.findIn K (.ref C) "__class__" = some (some (.builtin "object.__class__"))
 hn : W.specialIn K (.builtin "object.__class__") "__get__" = some (some (.builtin "getset_descriptor.__get__"))
 tk : W.takesIn K (.builtin "object.__class__") = some true
 ob : W.mroIn K C (.type "object") = some true
 be : W.mroIn K C (.type "BaseException") = some true
section
variable {prog : Program} {w : World} {A : Around} {E : Value -> Shared -> Prop} {s : Shared} {K : W.Frag} {C a : Addr}
end
end L2
namespace L2
open PySem PySem.Spec PyProof.Rows
section
variable {H H' : Hp} {B h0 h h' : Heap} {fs : List Addr}
end
section
variable {X : Cx} {pins : List (Addr × Obj)} {σ : St} {H : Hp} {s : Shared} {E : XK} {B : Heap} {e : Addr} {cls a0 : Value}
end
section
variable {P : Program} {w : World} {K : W.Frag} {mg : Str -> Option Value} {base : Heap} {N : List Str} {qual : Str} {scope : Scope} {f : Addr} {cdv : Value} {A : Around} {outer : List Env} {s : Shared} {H : Hp} {E : XK}
end
section
variable {X : Cx} {E : XK} {x : Str} {e : Expr} {te : TE} {np cpos pos : Pos}
end
noncomputable abbrev Cx.pin (X : Cx) (ps : List (Addr × Obj)) : Cx := { X with pn := X.pn ++ ps }
section
variable {X : Cx} {pins : List (Addr × Obj)} {σ : St} {H H' : Hp} {s s' : Shared} {e : Addr}
end
section
variable {X : Cx} {body suite : List Stmt} {b0 : Stmt} {x n : Str} {i : Nat} {L : List Str} {tb : XK -> TS} {ts : TS} {np hp pos : Pos}
end
section
variable {X : Cx} {e : Expr} {pos p p' : Pos} {i : Nat} {N : Str} {ans : List (Str × Bool)} {vv : V} {u : Value}
end
end L2
namespace M
open PySem L2
section
variable {K : W.Frag} {S S' H H' : Hp}
inductive RO where
 | rz (N : Str) | nx (ρ : Env)
noncomputable abbrev XR := Env -> Option RO
variable {E : XK}
@[simp] noncomputable def JQ : XR := fun ρ => some (.nx ρ)
@[simp] noncomputable def Jo (N : Str) : XR := fun _ => some (.rz N)
@[simp] noncomputable def Lr (c : XT) (m n : XR) : XR := fun ρ => (c ρ).bind fun b => if b = true then m ρ else n ρ
@[simp] noncomputable def Kx (m n : XR) : XR := fun ρ => (m ρ).bind fun o => match o with | .nx ρ' => n ρ' | .rz N => some (.rz N)
@[simp] noncomputable def Kt (m : XR) : XR := fun ρ => (m ρ).bind fun o => match o with | .nx _ => none | .rz N => some (.rz N)
@[simp] noncomputable def xrE (m : Env -> Option Str) : XR := fun ρ => (m ρ).map .rz
@[simp] noncomputable def Ka (m : List D -> Option Str) (a : XA) : Env -> Option Str := fun ρ => (a ρ).bind m
noncomputable def Gx (N : Str) : List (List (Str × Bool)) -> Option (List Bool)
 | [] => some []
 | a :: l => (a.lookup N).bind fun b => (Gx N l).map fun bs => b :: bs
noncomputable def F7 (i : Nat) (N : Str) : List (Nat × List (List (Str × Bool))) -> Env -> Option Env
 | [], ρ => some ρ
 | p :: l, ρ => if p.1 = i then none else (Gx N p.2).bind fun bs => if bs.length <= 1000 then F7 i N l (ρ.set p.1 (.sh (.lst (bs.map .bl)))) else none
@[simp] noncomputable def Lj (L : List Str) (i : Nat) (m : XR) (l : List (Nat × List (List (Str × Bool)))) : XS := fun ρ => if i < ρ.length then (m ρ).bind fun o => match o with
 | .rz N => if L.contains N then (F7 i N l (ρ.map fun _ => .un)).map fun ρ' => .nx (ρ'.set i .un) else none
 | .nx ρ' => some (.nx ρ') else none
end
end M
namespace L2
open PySem PySem.Spec PyProof.Rows
section
variable {X : Cx} {tg : Expr}
end
end L2
namespace M
open PySem L2
section
variable {K : W.Frag} {S S' H H' : Hp}
noncomputable def Kr : List D -> Option (List D)
 | [.int i, .int j] => some (fj i (j - i).toNat)
 | _ => none
@[simp] noncomputable def KY (a : XA) : XA := fun ρ => (a ρ).bind Kr
end
end M
namespace L2
open PySem PySem.Spec PyProof.Rows
section
variable {X : Cx} {tg : Expr}
end
end L2
namespace M
open PySem L2
section
variable {K : W.Frag} {S S' H H' : Hp}
noncomputable def HJ (x : Str) : List D := x.cps.toList.map fun c => D.str ⟨#[c]⟩
noncomputable def sgD : D -> Option (List D)
 | .str x => some (HJ x)
 | _ => none
@[simp] noncomputable def Ln (e : XE) : XA := fun ρ => (e ρ).bind sgD
noncomputable def J2 (d : D) (lo hi : Option Int) : Option D := match d with
 | .str x => if x.length <= LIM then some (.str (Txt.slice x lo hi)) else none
 | _ => none
@[simp] noncomputable def LF (a : XE) (lo hi : XO) : XE := fun ρ => (a ρ).bind fun d => (lo ρ).bind fun l => (hi ρ).bind fun h => J2 d l h
noncomputable def gr : List D -> Option (List Bool)
 | [] => some []
 | .bl b :: l => (gr l).map fun r => b :: r
 | _ :: _ => none
theorem ss : ∀ {l : List D} {bs : List Bool}, gr l = some bs -> l = bs.map D.bl
 | [], bs, h => by cases h; rfl
 | d :: l, bs, h => by
  cases d <;> try (cases h; done)
  rename_i b
  have h : (gr l).map (fun r => b :: r) = some bs := h
  cases q : gr l with
  | none => rw [q] at h; cases h
  | some r => rw [q] at h; cases h; rw [ss q]; rfl
theorem yK : ∀ {bs : List Bool} {xs : List V}, Dens K S (bs.map D.bl) xs -> xs = bs.map V.bl
 | [], xs, h => h
 | b :: bs, xs, h => by
  obtain ⟨y, ys, rfl, a, r⟩ := h
  rw [den_bl.mp a, yK r]; rfl
end
end M
namespace L2
open PySem
end L2
namespace L2
open PySem PySem.Spec PyProof.Rows
section
variable {X : Cx}
inductive PJ (X : Cx) : List Expr -> List TE -> Prop
 | nil : PJ X [] []
 | cons {e : Expr} {t : TE} {es : List Expr} {ts : List TE} : PE X e t -> PJ X es ts -> PJ X (e :: es) (t :: ts)
end
end L2
namespace M
open PySem L2
section
variable {K : W.Frag} {S S' H H' : Hp}
noncomputable def fvD : D -> Option D
 | .int i => if i.natAbs.log2 < 1920 then some (.str (toString i)) else none
 | .str y => if y.length <= LIM then some (.str y) else none
 | _ => none
@[simp] noncomputable def xFv (e : XE) : XE := fun ρ => (e ρ).bind fvD
inductive SJ (K : W.Frag) : List TE -> List XE -> Prop
 | nil : SJ K [] []
 | cons {t : TE} {a : XE} {ts : List TE} {as : List XE} : SPk K t a -> SJ K ts as -> SJ K (t :: ts) (a :: as)
end
end M
namespace L2
open PySem PySem.Spec PyProof.Rows
section
variable {M : Model} {A : Around} {Ex : Value -> Shared -> Prop} {s : Shared}
end
section
variable {P : Program} {w : World} {K : W.Frag} {mg : Str -> Option Value} {base : Heap} {N : List Str} {qual : Str} {scope : Scope} {f : Addr} {cdv : Value} {A : Around} {outer : List Env} {s : Shared} {H : Hp} {E : XK}
end
section
variable {X : Cx} {pins : List (Addr × Obj)} {σ : St} {H : Hp} {s : Shared} {XN N : List Str} {sc scope : Scope} {js : List (Option Nat)}
variable {tg iter elt : Expr} {ifs : List Expr} {pos : Pos} {wi : TI} {g : TG} {tt : TIf} {te : TE} {E : XK}
end
section
variable {X : Cx}
end
end L2
namespace M
open PySem L2
section
variable {K : W.Frag} {S S' H H' : Hp} {E : XK}
@[simp] noncomputable def Ls (m : XS) : XR := fun ρ => match m ρ with | some (.nx ρ') => some (.nx ρ') | _ => none
@[simp] noncomputable def LL (n : Env -> Option Str) (m : XS) : XR := fun ρ => match n ρ with | some N => some (.rz N) | none => (match m ρ with | some (.nx ρ') => some (.nx ρ') | _ => none)
@[simp] noncomputable def JW (m : Env -> Option Str) : Env -> Option Str := m
@[simp] noncomputable def Kl (e : XE) (m : Env -> Option Str) : Env -> Option Str := fun ρ => (e ρ).bind fun _ => m ρ
@[simp] noncomputable def LJ (n : Env -> Option Str) (e : XE) (m : Env -> Option Str) : Env -> Option Str := fun ρ => match n ρ with | some N => some N | none => (e ρ).bind fun _ => m ρ
@[simp] noncomputable def KB (i : Nat) (m : Env -> Option Str) : Env -> Option Str := fun ρ => match ρ[i]? with | some (.ow (.lst _)) => m ρ | _ => none
noncomputable def Eu (g : XG) (c : XT) (e : XE) (n : Env -> Option Str) (ρ0 : Env) : List D -> Option Str
 | [] => none
 | d :: l => (g d ρ0).bind fun ρ1 => (c ρ1).bind fun b => if b = true then (match n ρ1 with | some N => some N | none => (e ρ1).bind fun _ => Eu g c e n ρ0 l) else Eu g c e n ρ0 l
@[simp] noncomputable def JI (js : List (Option Nat)) (w : XA) (g : XG) (c : XT) (e : XE) (n : Env -> Option Str) : Env -> Option Str := fun ρ => (w ρ).bind fun l => if l.length <= LIM then Eu g c e n (mB js ρ) l else none
noncomputable def Gf (g : XG) (m : XR) : List D -> Env -> Option RO
 | [], ρ => some (.nx ρ)
 | d :: l, ρ => (g d ρ).bind fun ρ1 => (m ρ1).bind fun o => match o with | .nx ρ2 => Gf g m l ρ2 | .rz N => some (.rz N)
@[simp] noncomputable def K6 (e : XA) (g : XG) (m : XR) : XR := fun ρ => (e ρ).bind fun l => Gf g m l ρ
end
end M
namespace L2
open PySem PySem.Spec PyProof.Rows
section
variable {κ : Type} [DecidableEq κ]
noncomputable def kl (kvs : List (κ × V)) (k : κ) : Option V := (kvs.find? fun kv => decide (kv.1 = k)).map (·.2)
noncomputable def gC (kvs : List (κ × V)) (k : κ) (v : V) : List (κ × V) :=
 if (kvs.any fun kv => decide (kv.1 = k)) = true then kvs.map (fun kv => if kv.1 = k then (kv.1, v) else kv) else kvs ++ [(k, v)]
theorem oJ {p : κ × V} {r : List (κ × V)} {k : κ} (e : p.1 = k) : kl (p :: r) k = some p.2 := by simp [kl, List.find?_cons, e]
theorem oI {p : κ × V} {r : List (κ × V)} {k : κ} (e : ¬ p.1 = k) : kl (p :: r) k = kl r k := by simp [kl, List.find?_cons, e]
theorem oq (k : κ) : ∀ kvs : List (κ × V), (kvs.any fun kv => decide (kv.1 = k)) = (kl kvs k).isSome
 | [] => rfl
 | p :: r => by
  rw [List.any_cons]
  by_cases e : p.1 = k
  ·simp only [oJ e, L6 e, Bool.true_or, Option.isSome_some]
  ·rw [oI e, LX e, Bool.false_or]; exact oq k r
theorem iT (kvs : List (κ × V)) (k : κ) (v : V) : (gC kvs k v).length <= kvs.length + 1 := by
 unfold gC
 split
 ·rw [LR]; lia
 ·rw [LZ, Mh, List.length_nil]; lia
theorem zd {kvs : List (κ × V)} {k : κ} (v : V) (h : kl kvs k = none) : gC kvs k v = kvs ++ [(k, v)] := by
 unfold gC
 rw [oq, h]
 exact LP (by decide)
theorem RelO.isSome_eq {o : Option V} {u : Option Value} (r : RelO o u) : o.isSome = u.isSome := by
 cases o with
 | none => cases u with
  | none => rfl
  | some _ => exact (show False from r).elim
 | some _ => cases u with
  | none => exact (show False from r).elim
  | some _ => rfl
theorem KV.val {kvs : List (κ × V)} {vs : List (κ × Value)} (r : KV kvs vs) (k : κ) : RelO (kl kvs k) (valueAt vs k) := by
 unfold KV at r
 induction r with
 | nil => exact True.intro
 | @cons p q ps qs h t ih =>
  obtain ⟨h1, h2⟩ := h
  by_cases e : p.1 = k
  ·have e' : q.1 = k := h1.symm.trans e
   have b : valueAt (q :: qs) k = some q.2 := by simp [valueAt, List.find?_cons, e']
   rw [oJ e, b]; exact h2
  ·have e' : ¬ q.1 = k := fun z => e (h1.trans z)
   have b : valueAt (q :: qs) k = valueAt qs k := by simp [valueAt, List.find?_cons, e']
   rw [oI e, b]; exact ih
theorem KV.any {kvs : List (κ × V)} {vs : List (κ × Value)} (r : KV kvs vs) (k : κ) : (kvs.any fun kv => decide (kv.1 = k)) = vs.any fun kv => decide (kv.1 = k) := by
 unfold KV at r
 induction r with
 | nil => rfl
 | cons h t ih => rw [List.any_cons, List.any_cons, ih, h.1]
theorem KV.repl {kvs : List (κ × V)} {vs : List (κ × Value)} (r : KV kvs vs) (k : κ) {y : V} {u : Value} (ry : RelV y u) :
  KV (kvs.map fun kv => if kv.1 = k then (kv.1, y) else kv) (vs.map fun kv => if kv.1 = k then (kv.1, u) else kv) := by
 unfold KV at r ⊢
 induction r with
 | nil => exact .nil
 | @cons p q ps qs h t ih =>
  rw [L1, L1]
  refine .cons ?_ ih
  obtain ⟨h1, h2⟩ := h
  by_cases e : p.1 = k
  ·rw [LO e, LO (h1.symm.trans e)]; exact ⟨h1, ry⟩
  ·rw [LP e, LP (fun z => e (h1.trans z))]; exact ⟨h1, h2⟩
theorem KV.put {kvs : List (κ × V)} {vs : List (κ × Value)} (r : KV kvs vs) (k : κ) {y : V} {u : Value} (ry : RelV y u) : KV (gC kvs k y) (stored vs k u) := by
 unfold gC stored
 rw [r.any k]
 by_cases e : (vs.any fun kv => decide (kv.1 = k)) = true
 ·rw [LO e, LO e]; exact r.repl k ry
 ·rw [LP e, LP e]; exact Paired.snoc r ⟨rfl, ry⟩
theorem KV.keys {kvs : List (κ × V)} {vs : List (κ × Value)} (r : KV kvs vs) : kvs.map (·.1) = vs.map (·.1) := by
 unfold KV at r
 induction r with
 | nil => rfl
 | cons h t ih => rw [L1, L1, ih, h.1]
theorem KV.length {kvs : List (κ × V)} {vs : List (κ × Value)} (r : KV kvs vs) : kvs.length = vs.length := Paired.length r
end
theorem DS {P : Program} {w : World} {k : Key} {u : Value} (r : RelV (kV k) u) : (bU P w).is k u = true := by
 cases k with
 | inl i => obtain ⟨t, e⟩ := (show ∃ t, u = Value.int i t from r); subst e; exact yG P w i t
 | inr x => obtain ⟨t, e⟩ := (show ∃ t, u = Value.str x t from r); subst e; exact zb P w x t
theorem u6 {P : Program} {w : World} : ∀ {ks : List Key} {us : List Value}, Vals (ks.map kV) us -> ItemsAre (bU P w) ks us
 | [], _, r => by rw [List.map_nil] at r; cases r; exact .nil
 | k :: ks, _, r => by
  rw [L1] at r
  cases r with
  | cons h t => exact .cons (DS h) (u6 t)
noncomputable abbrev KT (H : Hp) : List (List Key × V) -> List (List Key × Addr × Value) -> Prop := Paired fun p q => p.1 = q.1 /\ H q.2.1 = some (.tup (p.1.map kV)) /\ RelV p.2 q.2.2
theorem KT.val {H : Hp} {kvs : List (List Key × V)} {xs : List (List Key × Addr × Value)} (r : KT H kvs xs) (k : List Key) : RelO (kl kvs k) ((atKey xs k).map (·.2)) := by
 induction r with
 | nil => exact True.intro
 | @cons p q ps qs h t ih =>
  obtain ⟨h1, _, h2⟩ := h
  by_cases e : p.1 = k
  ·have e' : q.1 = k := h1.symm.trans e
   have b : atKey (q :: qs) k = some q.2 := by simp [atKey, List.find?_cons, e']
   rw [oJ e, b]; exact h2
  ·have e' : ¬ q.1 = k := fun z => e (h1.trans z)
   have b : atKey (q :: qs) k = atKey qs k := by simp [atKey, List.find?_cons, e']
   rw [oI e, b]; exact ih
theorem KT.repl {H : Hp} {kvs : List (List Key × V)} {xs : List (List Key × Addr × Value)} (r : KT H kvs xs) (k : List Key) {y : V} {u : Value} (ry : RelV y u) :
  KT H (kvs.map fun kv => if kv.1 = k then (kv.1, y) else kv) (xs.map (putAt k u)) := by
 induction r with
 | nil => exact .nil
 | @cons p q ps qs h t ih =>
  rw [L1, L1]
  refine .cons ?_ ih
  obtain ⟨h1, h2, h3⟩ := h
  unfold putAt
  by_cases e : p.1 = k
  ·rw [LO e, LO (h1.symm.trans e)]; exact ⟨h1, h2, ry⟩
  ·rw [LP e, LP (fun z => e (h1.trans z))]; exact ⟨h1, h2, h3⟩
theorem KT.put {H : Hp} {kvs : List (List Key × V)} {xs : List (List Key × Addr × Value)} (r : KT H kvs xs) (k : List Key) {b : Addr} {y : V} {u : Value} (hb : H b = some (.tup (k.map kV))) (ry : RelV y u) :
  KT H (gC kvs k y) (storedH xs k b u) := by
 have e : (kvs.any fun kv => decide (kv.1 = k)) = (atKey xs k).isSome := by
  rw [oq, (r.val k).isSome_eq, Option.isSome_map]
 unfold gC storedH
 rw [e]
 by_cases q : (atKey xs k).isSome = true
 ·rw [LO q, LO q]; exact r.repl k ry
 ·rw [LP q, LP q]; exact Paired.snoc r ⟨rfl, hb, ry⟩
theorem KT.keeps {H H' : Hp} {kvs : List (List Key × V)} {xs : List (List Key × Addr × Value)} (r : KT H kvs xs) (ht : ∀ b ys, H b = some (.tup ys) -> H' b = some (.tup ys)) : KT H' kvs xs :=
 Paired.mapP r fun _ _ z => ⟨z.1, ht _ _ z.2.1, z.2.2⟩
section
variable {P : Program} {w : World} {H : Hp} {h : Heap} {a : Addr}
theorem cU {u : HO} (ok : HOk P w H h) (e : Rd H a u) : ObjOk P w H h a u := e.ok ok
theorem Gv {kvs : List (Key × V)} (ok : HOk P w H h) (e : Rd H a (.dK kvs)) : kvs.length <= sizeLine /\ (a == sysModules) = false /\ ∃ vs, KV kvs vs /\ h.DictOf (bU P w) a vs :=
 show ObjOk P w H h a (.dK kvs) from cU ok e
theorem Ib {kvs : List (Key × V)} (ok : HOk P w H h) (e : H a = some (.dK kvs)) : kvs.length <= sizeLine /\ (a == sysModules) = false /\ ∃ vs, KV kvs vs /\ h.DictOf (bU P w) a vs := Gv ok (.inl e)
theorem vX {ks : List Key} (ok : HOk P w H h) (e : H a = some (.tup (ks.map kV))) : (tupleKind (bU P w)).is h ks a := by
 obtain ⟨_, its, r, o, h1, h2, n, h3⟩ := (show ObjOk P w H h a (.tup (ks.map kV)) from ok a _ e)
 exact ⟨o, its.toArray, n, h1, h2, h3, by simpa using u6 r⟩
theorem Gm {kvs : List (List Key × V)} (ok : HOk P w H h) (e : Rd H a (.dT kvs)) : kvs.length <= sizeLine /\ (a == sysModules) = false /\
  ∃ xs, KT H kvs xs /\ h.DictOfH (tupleKind (bU P w)) a xs := by
 obtain ⟨z, y, xs, r, o, es, ep, h1, h2, h3, h4, h5⟩ := (show ObjOk P w H h a (.dT kvs) from cU ok e)
 refine ⟨z, y, xs, r, o, es, ep, h1, h2, h3, h4, fun x hx => ?_, h5⟩
 have all : ∀ {l : List (List Key × V)} {m : List (List Key × Addr × Value)}, KT H l m -> ∀ x ∈ m, (tupleKind (bU P w)).is h x.1 x.2.1 := by
  intro l m q
  induction q with
  | nil => intro x hx; exact nomatch hx
  | @cons p q ps qs hq t ih =>
   intro x hx
   rcases L9.mp hx with e | hx
   ·subst e
    exact vX ok (by rw [<- hq.1]; exact hq.2.1)
   ·exact ih x hx
 exact all r x hx
theorem EU {kvs : List (List Key × V)} (ok : HOk P w H h) (e : H a = some (.dT kvs)) : kvs.length <= sizeLine /\ (a == sysModules) = false /\
  ∃ xs, KT H kvs xs /\ h.DictOfH (tupleKind (bU P w)) a xs := Gm ok (.inl e)
end
def DGet (H : Hp) (a : Addr) (y : V) (r : Option V) : Prop :=
 (∃ kvs k, Rd H a (.dK kvs) /\ y = kV k /\ r = kl kvs k) \/ ∃ kvs k b, Rd H a (.dT kvs) /\ y = .ref b /\ H b = some (.tup (k.map kV)) /\ r = kl kvs k
def DPut (H : Hp) (a : Addr) (y v : V) (H' : Hp) : Prop :=
 (∃ kvs k, H a = some (.dK kvs) /\ y = kV k /\ kvs.length < sizeLine /\ H' = upd H a (.dK (gC kvs k v))) \/
 ∃ kvs k b, H a = some (.dT kvs) /\ y = .ref b /\ H b = some (.tup (k.map kV)) /\ kvs.length < sizeLine /\ H' = upd H a (.dT (gC kvs k v))
theorem DGet.k {H : Hp} {a : Addr} {kvs : List (Key × V)} {k : Key} (e : H a = some (.dK kvs)) : DGet H a (kV k) (kl kvs k) := .inl ⟨kvs, k, .inl e, rfl, rfl⟩
theorem DGet.t {H : Hp} {a b : Addr} {kvs : List (List Key × V)} {k : List Key} (e : H a = some (.dT kvs)) (eb : H b = some (.tup (k.map kV))) : DGet H a (.ref b) (kl kvs k) := .inr ⟨kvs, k, b, .inl e, rfl, eb, rfl⟩
theorem DPut.k {H : Hp} {a : Addr} {kvs : List (Key × V)} {k : Key} {v : V} (e : H a = some (.dK kvs)) (hl : kvs.length < sizeLine) : DPut H a (kV k) v (upd H a (.dK (gC kvs k v))) := .inl ⟨kvs, k, e, rfl, hl, rfl⟩
theorem DPut.t {H : Hp} {a b : Addr} {kvs : List (List Key × V)} {k : List Key} {v : V} (e : H a = some (.dT kvs)) (eb : H b = some (.tup (k.map kV))) (hl : kvs.length < sizeLine) :
  DPut H a (.ref b) v (upd H a (.dT (gC kvs k v))) := .inr ⟨kvs, k, b, e, rfl, eb, hl, rfl⟩
section
variable {X : Cx} {pins : List (Addr × Obj)} {σ : St} {H : Hp} {s : Shared} {a : Addr} {y v : V} {u r : Value} {o : Option V} {A : Around} {E : Value -> Shared -> Prop}
theorem Inv.big (I : Inv X pins σ H s) : sysModules < s.heap.objs.size := by
 have h : mainGlobals < s.heap.objs.size := (I.mod.glob.keeps I.bk).lt
 exact Nat.lt_trans (by decide) h
theorem FW {Q : Value -> Shared -> Prop} (hu : A.units + 1 < cLine) (I : Inv X pins σ H s) (g : DGet H a y o) (ry : RelV y u) (h : ∀ s', Inv X pins σ H s' -> Q (.bool (!o.isSome)) s') :
  wpAny (model X.prog X.w) A (compareOp .NotIn u (.ref a)) Q E s := by
 rcases g with ⟨kvs, k, e, ey, l⟩ | ⟨kvs, k, b, e, ey, eb, l⟩
 ·subst ey
  obtain ⟨z, hd, vs, rel, dd⟩ := Gv I.hok e
  refine wpAny_notIn_of (DS ry) hd dd.mapOf ?_
  rw [<- (rel.val k).isSome_eq, <- l]
  exact h _ (I.tok _)
 ·subst ey
  cases (show u = Value.ref b from ry)
  obtain ⟨z, hd, xs, rel, dd⟩ := Gm I.hok e
  refine wpAny_notIn_heap (tupleKind_room_in1 hu) (vX I.hok eb) hd dd ?_
  have q := (rel.val k).isSome_eq
  rw [Option.isSome_map] at q
  rw [<- q, <- l]
  exact h _ (I.tok _)
theorem wQ {h' : Heap} {t' : Nat} {ob : HO} (I : Inv X pins σ H s) (mu : Mut (H a)) (hs : Heap.SameBut a s.heap h') (he : ∃ q, h'.get? a = some q) (new : ObjOk X.prog X.w (upd H a ob) h' a ob) :
  Inv X pins σ (upd H a ob) { s with heap := h', toks := t' } :=
 I.write (x := a) (e := a) mu (.inl rfl) (fun b q hb z => (hs.2 b hb).trans z) he new
theorem Hq {P : Program} {w : World} {H' : Hp} {h' : Heap} {kvs : List (Key × V)} {vs : List (Key × Value)} (z : kvs.length <= sizeLine) (hd : (a == sysModules) = false) (rel : KV kvs vs) (dd : h'.DictOf (bU P w) a vs) :
  ObjOk P w H' h' a (.dK kvs) := ⟨z, hd, vs, rel, dd⟩
theorem Cw {H' : Hp} {Q : Unit -> Shared -> Prop} (hu : A.units + 1 < cLine) (I : Inv X pins σ H s) (g : DPut H a y v H') (ry : RelV y u) (rv : RelV v r) (h : ∀ s', Inv X pins σ H' s' -> Q () s') :
  wpAny (model X.prog X.w) A (setItem (.ref a) u r) Q E s := by
 rcases g with ⟨kvs, k, e, ey, l, eH⟩ | ⟨kvs, k, b, e, ey, eb, l, eH⟩
 ·subst ey eH
  obtain ⟨z, hd, vs, rel, dd⟩ := Ib I.hok e
  have hz : vs.length <= sizeLine := by rw [<- rel.length]; exact z
  have hl : (gC kvs k v).length <= sizeLine := by have := iT kvs k v; lia
  refine wpAny_setItem_pairs (hsz := hz) (DS ry) dd fun h' dd' hs => h _ ?_
  have he : ∃ q, h'.get? a = some q := let ⟨q, _, _, hq, _⟩ := dd'; ⟨q, hq⟩
  exact wQ I (by rw [e]; exact True.intro) hs he (Hq hl hd (rel.put k rv) dd')
 ·subst ey eH
  cases (show u = Value.ref b from ry)
  obtain ⟨z, hd, xs, rel, dd⟩ := EU I.hok e
  have hz : xs.length <= sizeLine := by rw [<- Paired.length rel]; exact z
  have hl : (gC kvs k v).length <= sizeLine := by have := iT kvs k v; lia
  refine wpAny_setItem_heap (hsz := hz) (tupleKind_room_in1 hu) (vX I.hok eb) dd fun h' dd' hs => h _ ?_
  obtain ⟨q, es, ep, hq, h2, h3, h4, _, h5⟩ := dd'
  refine wQ I (by rw [e]; exact True.intro) hs ⟨q, hq⟩ ⟨hl, hd, _, (rel.put k eb rv).keeps fun c ys ec => ?_, q, es, ep, hq, h2, h3, h4, h5⟩
  rw [aW (Bq ec e (fun z => nomatch z))]
  exact ec
end
section
variable {X : Cx} {pins : List (Addr × Obj)} {σ : St} {H : Hp} {s : Shared} {a : Addr} {kvs : List (Key × V)} {k : Key} {u : Value} {A : Around} {E : Value -> Shared -> Prop}
end
noncomputable def Bs (ty td : TE) : TE := fun σ H Q => ty σ H fun y H1 => td σ H1 fun x H2 => ∃ a o, x = .ref a /\ DGet H2 a y o /\ Q (.bl (!o.isSome)) H2
noncomputable def Ge (td ty tv : TE) : TS := fun D σ H => tv σ H fun v H1 => td σ H1 fun x H2 => ty σ H2 fun y H3 => ∃ a H4, x = .ref a /\ DPut H3 a y v H4 /\ D.nx σ H4
section
variable {X : Cx} {o i e value : Expr} {pos pos' tpos : Pos} {td ty tv : TE}
theorem uV (hu : X.A.units + 1 < cLine) (hi : PE X i ty) (ho : PE X o td) : PC X .NotIn i o (Bs ty td) := by
 intro pins s σ H Q I h
 refine thn (hi pins s σ H _ I h) fun iv s1 ⟨y, H1, I1, ry, q1⟩ => thn (ho pins s1 σ H1 _ I1 q1) fun u s2 hpt9 => ?_
 obtain ⟨x, H2, I2, rx, a, ov, ex, g, q2⟩ := hpt9
 subst ex
 obtain rfl : u = Value.ref a := rx
 exact FW hu I2 g ry fun s3 I3 => ⟨.bl (!ov.isSome), H2, I3, rfl, q2⟩
theorem FC (hu : X.A.units + 1 < cLine) (ho : PE X o td) (hi : PE X i ty) (hv : PE X value tv) (hs : swapsWith value (some (.Subscript o i pos')) pos.line X.env = pure false) :
  PS X (.Assign [.Subscript o i pos'] value pos) (Ge td ty tv) := by
 intro pins s σ H D I h
 refine wpAny_Assign_Subscript (thn (hv pins s σ H _ I h) fun r s1 ⟨v, H1, I1, rv, q1⟩ => thn (ho pins s1 σ H1 _ I1 q1) fun u s2 ⟨x, H2, I2, rx, q2⟩ => thn (hi pins s2 σ H2 _ I2 q2) fun iv s3 hpt9 => ?_) hs
 obtain ⟨y, H3, I3, ry, a, H4, ex, g, q3⟩ := hpt9
 subst ex
 obtain rfl : u = Value.ref a := rx
 exact Cw hu I3 g ry rv fun s4 I4 => ⟨σ, H4, I4, q3⟩
end
theorem yN {P : Program} {w : World} {H : Hp} (h : Heap) (hb : sysModules < h.objs.size) : ObjOk P w H (h.push { cls := .type "dict", data := .dict #[] }) h.objs.size (.dT []) :=
 ⟨Mr _, beq_eq_false_iff_ne.mpr (Ma (Mi hb)), [], .nil, _, #[], 0, Mu _ rfl, ⟨rfl, rfl, rfl⟩, rfl, rfl, List.nodup_nil⟩
noncomputable def DZ : TE := fun _ H Q => ∀ p, H p = none -> Q (.ref p) (upd H p (.dT []))
section
variable {X : Cx} {pos : Pos}
theorem C7 : PE X (.Dict [] [] pos) DZ := fun pins s σ H Q I h =>
 wpAny_Dict_empty ⟨.ref s.heap.objs.size, _, I.laid (a := s.heap.objs.size) (o := .dT []) (t' := s.toks) (fun _ _ q => Mg _ q) (LU _) (yN s.heap I.big), rfl, h _ (I.hok.fresh (LU _))⟩
end
noncomputable def Az : List (TE × TE) -> St -> Hp -> (List (V × V) -> Hp -> Prop) -> Prop
 | [], _, H, Q => Q [] H
 | (tk, tv) :: r, σ, H, Q => tk σ H fun x H1 => tv σ H1 fun y H2 => Az r σ H2 fun ps H3 => Q ((x, y) :: ps) H3
noncomputable abbrev VV : List (V × V) -> List (Value × Value) -> Prop := Paired fun p q => RelV p.1 q.1 /\ RelV p.2 q.2
def PPs (X : Cx) (pos : Pos) (keys : List (Option Expr)) (values : List Expr) (trs : List (TE × TE)) : Prop :=
 ∀ (pins : List (Addr × Obj)) (s : Shared) (σ : St) (H : Hp) (Q : List (V × V) -> Hp -> Prop), Inv X pins σ H s -> Az trs σ H Q ->
  wpAny (model X.prog X.w) X.A (evalPairs (pairTrees keys values X.env pos)) (fun vs s' => ∃ ps H', Inv X pins σ H' s' /\ VV ps vs /\ Q ps H') X.xe s
theorem Fq {X : Cx} {pos : Pos} : PPs X pos [] [] [] := fun pins s σ H Q I h => pairTrees_nil_walk ⟨[], H, I, .nil, h⟩
theorem Dz {X : Cx} {pos : Pos} {k v : Expr} {ks : List (Option Expr)} {vs : List Expr} {tk tv : TE} {trs : List (TE × TE)} (hk : PE X k tk) (hv : PE X v tv) (hr : PPs X pos ks vs trs) :
  PPs X pos (some k :: ks) (v :: vs) ((tk, tv) :: trs) := fun pins s σ H Q I h =>
 pairTrees_cons_walk (thn (hk pins s σ H _ I h) fun u s1 ⟨x, H1, I1, rx, q1⟩ => thn (hv pins s1 σ H1 _ I1 q1) fun w2 s2 ⟨y, H2, I2, ry, q2⟩ =>
  thn (hr pins s2 σ H2 _ I2 q2) fun ws s3 ⟨ps, H3, I3, rel, q3⟩ => ⟨(x, y) :: ps, H3, I3, .cons ⟨rx, ry⟩ rel, q3⟩)
structure M1 (X : Cx) (o : Expr) (m : Str) (apos : Pos) (e : Expr) (cpos : Pos) : Prop where
 base : attributeBase o m X.env (eval o X.env) = eval o X.env
 few : ((backTo cpos (starEach [e] X.env)).all (fun x => !x.1) && (backToKw cpos (keywordEach [] X.env)).all (fun x => x.1.isSome)
  && decide (([e] : List Expr).length + ([] : List Keyword).length + (if ([] : List Keyword).isEmpty then 0 else 1) < 30)) = true
 line : (apos.endLine == cpos.line) = true
 trees : backTo cpos (starEach [e] X.env) = [(false, eval e X.env)]
structure M2 (X : Cx) (o : Expr) (m : Str) (apos : Pos) (e f : Expr) (cpos : Pos) : Prop where
 base : attributeBase o m X.env (eval o X.env) = eval o X.env
 few : ((backTo cpos (starEach [e, f] X.env)).all (fun x => !x.1) && (backToKw cpos (keywordEach [] X.env)).all (fun x => x.1.isSome)
  && decide (([e, f] : List Expr).length + ([] : List Keyword).length + (if ([] : List Keyword).isEmpty then 0 else 1) < 30)) = true
 line : (apos.endLine == cpos.line) = true
 trees : backTo cpos (starEach [e, f] X.env) = [(false, eval e X.env), (false, eval f X.env)]
section
variable {X : Cx} {pins : List (Addr × Obj)} {σ : St} {H : Hp} {s : Shared} {a : Addr} {y d : V} {u r : Value} {o : Option V} {A : Around} {E : Value -> Shared -> Prop}
end
section
variable {X : Cx} {o e f : Expr} {apos cpos : Pos} {td ty tx : TE}
end
end L2
namespace PySem
namespace DX
theorem wH : typeLookup (.type "list") "keys" = pure none := by rw [typeLookup_type, builtinLookup_eq_fast]; kernel_rfl
theorem zq : typeLookup (.type "list") "__getattr__" = pure none := by rw [typeLookup_type, builtinLookup_eq_fast]; kernel_rfl
theorem lY : isSubtype (.type "AttributeError") (.type "AttributeError") = pure true := by rw [isSubtype_type]; kernel_rfl
theorem zY : ((Manifest.find? "AttributeError").elim false fun t => t.mro.contains "StopIteration" || t.mro.contains "SystemExit") = false := by first | rfl | kernel_rfl | decide +kernel
section
variable {prog : Program} {w : World} {A : Around} {E : Value -> Shared -> Prop} {s : Shared} {a : Addr} {its : Array Value} {n : Nat} {α : Type}
theorem BK {msg nm : Str} {Q : α -> Shared -> Prop} (hh : A.handled = none) (hm : msg.length <= sizeLine) (hq : ∀ h' tk' e oe, (∀ b o, s.heap.get? b = some o -> h'.get? b = some o) -> h'.get? e = some oe -> oe.cls = .type "AttributeError" -> E (.ref e) { s with heap := h', toks := tk' }) :
  wpAny (model prog w) A (raiseAttrError (.ref a) nm msg : Sem α) Q E s := by
 unfold raiseAttrError
 refine LQ (wpAny_mkStr (LQ ?_) hm)
 unfold newExc newTuple
 refine LQ (MS ?_ (by size_fits))
 refine LQ (m := firstArgMember _ _) (wpAny_of_eq (a := Value.none) (by simp only [firstArgMember, zY]; rfl) ?_)
 refine MS ?_ (by size_fits)
 refine LQ (wpAny_mkText ?_)
 refine LQ ?_
 have f1 := lY
 unfold noteAttr lacksNameAndObj
 have ho := Mu (s.heap.push { cls := .type "tuple", data := .seq [Value.str msg s.toks].toArray }) (o := { cls := .type "AttributeError", data := .fields (#[.ref s.heap.objs.size, .none, .none, .none, .bool false, .none] ++ ownMembersOf (.type "AttributeError") [Value.str msg s.toks]) }) rfl
 have hT : ({ s with heap := (s.heap.push { cls := .type "tuple", data := .seq [Value.str msg s.toks].toArray }).push { cls := .type "AttributeError", data := .fields (#[.ref s.heap.objs.size, .none, .none, .none, .bool false, .none] ++ ownMembersOf (.type "AttributeError") [Value.str msg s.toks]) } } : Shared).TypeIs (.ref (s.heap.push { cls := .type "tuple", data := .seq [Value.str msg s.toks].toArray }).objs.size) "AttributeError" := ⟨_, ho, rfl⟩
 repeat (any_goals (first | assumption | wp_step))
 unfold raiseNew
 refine LQ (wpAny_handled ?_)
 rw [hh]
 first
  | refine wpAny_throw ?_
  | refine LQ (LS (wpAny_throw ?_))
 have hu := Heap.get?_update_self (Obj.mapFields fun vs => vs.extract 0 6 ++ #[Value.str nm s.toks, .ref a]) ho (Obj.isFreed_of_fields (Obj.data_mapFields rfl _))
 refine hq _ _ _ _ (fun b o hb => ?_) (Heap.get?_update_self _ ho (Obj.isFreed_of_fields (Obj.data_mapFields rfl _))) (Obj.cls_mapFields _ _)
 rw [MW _ _ (Nat.ne_of_gt (Mp (L5 hb) (by simp)))]
 exact Mg _ (Mg _ hb)
theorem rc {tk : Tok} {Q : Fin -> Shared -> Prop} (hh : A.handled = none) (hx : s.heap.get? a = some { cls := .type "list", data := .seq its n }) (hq : ∀ h' tk' e oe, (∀ b o, s.heap.get? b = some o -> h'.get? b = some o) -> h'.get? e = some oe -> oe.cls = .type "AttributeError" -> E (.ref e) { s with heap := h', toks := tk' }) :
  wpAny (model prog w) A (Builtin.«object.__getattribute__» ⟨[.ref a, .str "keys" tk], []⟩) Q E s := by
 obtain ⟨h, g, d, t, os⟩ := s
 have hT : (⟨h, g, d, t, os⟩ : Shared).TypeIs (.ref a) "list" := ⟨_, hx, rfl⟩
 have f4 := wH
 repeat (any_goals (first | assumption | wp_step))
 all_goals (try dsimp only)
 repeat (any_goals (first | assumption | wp_step))
 exact BK hh (by rw [sizeLine_eq]; decide +kernel) hq
theorem Cs {Q : Option Value -> Shared -> Prop} (hh : A.handled = none) (hx : s.heap.get? a = some { cls := .type "list", data := .seq its n }) (hq : ∀ h' tk', (∀ b o, s.heap.get? b = some o -> h'.get? b = some o) -> Q none { s with heap := h', toks := tk' }) :
  wpAny (model prog w) A (getAttr? (.ref a) "keys") Q E s := by
 obtain ⟨h, g, d, t, os⟩ := s
 have hT : (⟨h, g, d, t, os⟩ : Shared).TypeIs (.ref a) "list" := ⟨_, hx, rfl⟩
 have f2 := F.slot_list_getattribute.lookup
 have f3 := F.slot_list_getattribute.bind (.ref a)
 have f5 := zq
 have f6 := lY
 unfold getAttr? getAttrBy? getAttrBy getAttrByItsOwn callGetattribute boundAndCalled
 repeat (any_goals (first | assumption | wp_step))
 refine codeAny_call_builtin F.slot_list_getattribute.plain F.entry_list_ga (F.slot_list_getattribute.check _ _ _ _ _ _ _ _ hT (F.args_list_getattribute_2 _ _) (rc (by exact hh) hx fun h' tk' e oe hk he hc => ?_))
 have hTe : (⟨h', g, d, tk', os⟩ : Shared).TypeIs (.ref e) "AttributeError" := ⟨oe, he, hc⟩
 dsimp only
 unfold getattributeRaised
 refine LQ (wpAny_isInstance (T := "AttributeError") (b := true) hTe f6 ?_)
 rw [LO rfl]
 refine LQ ?_
 unfold hookBehind
 rw [LP (by decide)]
 refine wpAny_of_eq f5 ?_
 unfold hookOrError
 dsimp only
 unfold attributeErrorLeaves
 simp only [Bool.not_false, if_true]
 first
  | refine wpAny_throw ?_
  | refine LQ (wpAny_throw ?_)
 refine LQ (wpAny_isInstance (T := "AttributeError") (b := true) hTe f6 ?_)
 rw [LO rfl]
 exact LS (hq h' tk' hk)
end
theorem sI : entryFor table "dict.update.loop" = some Builtin.«dict.update.loop» := entryFor_of_tree (by kernel_rfl)
theorem jy : plainId "dict.update.loop" = true := by decide +kernel
end DX
end PySem
namespace L2
open PySem PySem.Spec PyProof.Rows
section
variable {X : Cx} {pins : List (Addr × Obj)} {σ : St} {H : Hp} {s : Shared} {a b : Addr} {kvs : List (List Key × V)} {k : List Key} {v : V} {r : Value} {A : Around} {E : Value -> Shared -> Prop}
theorem A5 {Q : Unit -> Shared -> Prop} (hu : (tupleKind (bU X.prog X.w)).room A) (I : Inv X pins σ H s) (e : H a = some (.dT kvs)) (eb : H b = some (.tup (k.map kV))) (l : kvs.length < sizeLine) (rv : RelV v r)
  (h : ∀ s', Inv X pins σ (upd H a (.dT (gC kvs k v))) s' -> Q () s') : wpAny (model X.prog X.w) A (dictSet a (.ref b) r) Q E s := by
 obtain ⟨z, hd, xs, rel, dd⟩ := EU I.hok e
 have hz : xs.length <= sizeLine := by rw [<- Paired.length rel]; exact z
 have hl : (gC kvs k v).length <= sizeLine := by have := iT kvs k v; lia
 refine wpAny_dictSet_heap (hsz := hz) hu (vX I.hok eb) dd fun h' dd' hs => h _ ?_
 obtain ⟨q, es, ep, hq, h2, h3, h4, _, h5⟩ := dd'
 refine wQ I (by rw [e]; exact True.intro) hs ⟨q, hq⟩ ⟨hl, hd, _, (rel.put k eb rv).keeps fun c ys ec => ?_, q, es, ep, hq, h2, h3, h4, h5⟩
 rw [aW (Bq ec e (fun z => nomatch z))]
 exact ec
end
noncomputable def D5 (tk tv : TE) : TE := fun σ H Q => ∀ p, H p = none -> Az [(tk, tv)] σ (upd H p (.dT [])) fun ps H2 => ∃ b ks y, ps = [(V.ref b, y)] /\ H2 b = some (.tup (ks.map kV)) /\ H2 p = some (.dT []) /\ Q (.ref p) (upd H2 p (.dT [(ks, y)]))
theorem Du {X : Cx} {pos : Pos} {k v : Expr} {tk tv : TE} (hu : (tupleKind (bU X.prog X.w)).room X.A) (hk : PE X k tk) (hv : PE X v tv) : PE X (.Dict [some k] [v] pos) (D5 tk tv) := by
 intro pins s σ H Q I q
 have hn := I.hok.fresh (LU s.heap.objs.size)
 have I1 := I.laid (a := s.heap.objs.size) (o := .dT []) (h' := s.heap.push { cls := .type "dict", data := .dict #[] }) (t' := s.toks) (fun _ _ q => Mg _ q) (LU _) (yN s.heap I.big)
 have hne : pairTrees [some k] [v] X.env pos ≠ [] := fun e => by
  have := pairTrees_length [some k] [v] X.env pos rfl rfl
  rw [e] at this
  cases this
 have hlen : (pairTrees [some k] [v] X.env pos).length <= 15 := by rw [pairTrees_length [some k] [v] X.env pos rfl rfl]; show 1 <= 15; decide
 rw [arm_eval_Dict, zip_pairTrees [some k] [v] X.env pos rfl rfl, dictDisplay_pairs _ hne (by lia)]
 refine LQ (wpAny_standAt (LQ ?_))
 unfold subDict
 refine LQ (wpAny_alloc ?_)
 refine LQ (My ?_)
 rw [LO hlen]
 refine LQ (thn (Dz hk hv Fq pins _ σ _ _ I1 (q _ hn)) fun ws s2 h2 => ?_)
 obtain ⟨ps, H2, I2, rel, b, ks, y, rfl, eb, ep, q2⟩ := h2
 cases rel with
 | @cons _ u _ _ r1 r2 =>
  cases r2
  obtain ⟨u1, u2⟩ := u
  cases (show u1 = Value.ref b from r1.1)
  refine My ?_
  refine LQ ?_
  rw [List.forIn_cons]
  refine LQ (LQ (A5 hu I2 ep eb (by show 0 < sizeLine; rw [sizeLine_eq]; decide) r1.2 fun s' I' => LS ?_))
  dsimp only
  rw [List.forIn_nil]
  refine LS (LS (LS (LS ⟨.ref s.heap.objs.size, _, I', rfl, ?_⟩)))
  have : gC ([] : List (List Key × V)) ks y = [(ks, y)] := zd y rfl
  rw [this]
  exact q2
noncomputable def kW (kvs : List (List Key × V)) (es : List (List Key × V)) : List (List Key × V) := es.foldl (fun acc kv => gC acc kv.1 kv.2) kvs
noncomputable def rUpd : V -> List V -> Hp -> VK -> Prop := fun x vs H Q => ∃ a l kvs, ∃ es : List (Addr × Addr × List Key × V), x = .ref a /\ vs = [.ref l] /\ H a = some (.dT kvs) /\ H l = some (.lst (es.map fun e => .ref e.1)) /\ (∀ e ∈ es, H e.1 = some (.tup [.ref e.2.1, e.2.2.2]) /\ H e.2.1 = some (.tup (e.2.2.1.map kV))) /\
 kvs.length + es.length < sizeLine /\ Q .non (upd H a (.dT (kW kvs (es.map fun e => (e.2.2.1, e.2.2.2)))))
section
variable {X : Cx} {pins : List (Addr × Obj)} {σ : St} {A : Around} {a l it : Addr} {xs : List V}
theorem wZ {R : Result -> Shared -> Prop} (hu : (tupleKind (bU X.prog X.w)).room A.in1) (hh : A.in1.handled = none) : ∀ (es : List (Addr × Addr × List Key × V)) (i : Nat) (kvs : List (List Key × V)) (H : Hp) (s : Shared), Inv X pins σ H s -> H a = some (.dT kvs) ->
  rS X pins H it -> s.heap.IsListIter it l i -> H l = some (.lst xs) -> xs.drop i = es.map (fun e => V.ref e.1) -> (∀ e ∈ es, H e.1 = some (.tup [.ref e.2.1, e.2.2.2]) /\ H e.2.1 = some (.tup (e.2.2.1.map kV))) -> kvs.length + es.length < sizeLine ->
  (∀ s', Inv X pins σ (upd H a (.dT (kW kvs (es.map fun e => (e.2.2.1, e.2.2.2))))) s' -> R (.ok (.ret .none)) s') ->
  codeAny (model X.prog X.w) A (.builtin "dict.update.loop" ⟨[.ref a, .ref it, rawInt i, .none], []⟩) R s
 | [], i, kvs, H, s, I, ea, fo, hit, el, hd, _, _, hR => by
  obtain ⟨its, rl, pl, _⟩ := I.list (.inl (.inl el))
  have hx : its.toArray[i]? = none := by
   have h1 : xs.length <= i := by
    have := congrArg List.length hd
    rw [List.length_drop] at this
    simpa [Nat.sub_eq_zero_iff_le] using this
   have := rl.length
   simp
   lia
  refine codeAny_builtin DX.sI ?_
  rw [Around.under_plainId DX.jy _]
  show wpAny _ A.in1 (pyNext (.ref it) >>= _) _ _ s
  refine LQ (wpAny_pyNext_list_end hh hit pl.isList hx fun h' he => ?_)
  show wpAny _ A.in1 (Builtin.Dict.addKeywords a [] >>= _) _ _ _
  refine LQ (LS (LS (hR _ ?_)))
  have e0 : upd H a (.dT (kW kvs (([] : List (Addr × Addr × List Key × V)).map fun e => (e.2.2.1, e.2.2.2)))) = H := by
   funext c
   unfold upd
   split
   ·rename_i z; rw [z, ea]; rfl
   ·rfl
  rw [e0]
  exact I.turned (t' := s.toks) (it := it) (fun b o hb e => he b o hb e) fo.1 fo.2.1 fo.2.2.2.1 fo.2.2.2.2.1 fo.2.2.2.2.2
 | e :: es, i, kvs, H, s, I, ea, fo, hit, el, hd, he, hl, hR => by
  obtain ⟨its, rl, pl, _⟩ := I.list (.inl (.inl el))
  obtain ⟨e1, e2⟩ := he e LV
  have hxi : xs[i]? = some (V.ref e.1) := by
   have := congrArg (fun l : List V => l[0]?) hd
   simpa [List.getElem?_drop] using this
  obtain ⟨u, hui, ru⟩ := rl.get hxi
  cases (show u = Value.ref e.1 from ru)
  refine codeAny_builtin DX.sI ?_
  rw [Around.under_plainId DX.jy _]
  show wpAny _ A.in1 (pyNext (.ref it) >>= _) _ _ s
  refine LQ (wpAny_pyNext_list_item hit pl.isList (x := .ref e.1) (by simpa using hui) fun h' hit' hs => ?_)
  have I1 : Inv X pins σ H { s with heap := h' } := I.turned (t' := s.toks) (it := it) (fun b o hb e => hs.extBut b o hb e) fo.1 fo.2.1 fo.2.2.2.1 fo.2.2.2.2.1 fo.2.2.2.2.2
  have P1 := I1.pinned (fp := [it]) (fun b hb => by rw [L4.mp hb]; exact fo) (fun b hb => by
   rw [L4.mp hb]
   obtain ⟨o, ho, _, hd⟩ := hit'
   exact ⟨o, ho, fun v z => by rw [hd] at z; cases z⟩)
  obtain ⟨its2, rl2, pl2, _⟩ := I1.tuple (.inl (.inl e1))
  obtain ⟨u1, u2, e3, r1, r2⟩ := Vals.two rl2
  subst e3
  cases (show u1 = Value.ref e.2.1 from r1)
  have body : wpAny (model X.prog X.w) A.in1 (dictSet a (.ref e.2.1) u2) (fun _ s' => Inv X (pins ++ pq [it] h') σ (upd H a (.dT (gC kvs e.2.2.1 e.2.2.2))) s') (fun e s' => R (.error e) s') { s with heap := h' } :=
   A5 hu P1 ea e2 (by rw [Mh] at hl; lia) r2 fun s' I' => I'
  refine LQ (My (LQ ?_))
  refine wpAny_tryCatch (m := Builtin.Dict.pairItems (.ref e.1)) ?_
  obtain ⟨ot, hot, hct, nt, hdt⟩ := pl2
  unfold Builtin.Dict.pairItems
  refine LQ (wpAny_typeOf (T := "tuple") ⟨ot, hot, hct⟩ ?_)
  rw [LO (by decide)]
  refine LQ (wpAny_seqItems hot hdt (LS ?_))
  show wpAny _ A.in1 (holding [.ref e.2.1, u2] (dictSet a (.ref e.2.1) u2)) _ _ _
  refine My (wpAny_mono body (fun _ s' I' => ?_) fun _ _ z => z)
  have na : it ≠ a := fun z => by have f0 := fo.1; rw [z, ea] at f0; cases f0
  have nl : l ≠ a := Bq el ea (fun z => nomatch z)
  refine LS ⟨plainId_quiet DX.jy _, ?_⟩
  show codeAny (model X.prog X.w) A (.builtin "dict.update.loop" ⟨[.ref a, .ref it, rawInt ((i + 1 : Nat) : Int), .none], []⟩) R s'
  have tn : ∀ c ys, H c = some (.tup ys) -> upd H a (.dT (gC kvs e.2.2.1 e.2.2.2)) c = some (.tup ys) := fun c ys z => by rw [aW (Bq z ea (fun z => nomatch z))]; exact z
  refine wZ hu hh es (i + 1) (gC kvs e.2.2.1 e.2.2.2) _ s' I'.unpinned aO ⟨by rw [aW na]; exact fo.1, fo.2⟩ ?_ (by rw [aW nl]; exact el) ?_ (fun e' h' => ?_) ?_ fun s2 I2 => hR s2 ?_
  ·obtain ⟨o, ho, hc2, hd2⟩ := hit'
   exact ⟨o, (I'.pin (it, o) (L0 _ (L0 _ (gP (L4.mpr rfl) ho)))).1, hc2, hd2⟩
  ·have := congrArg List.tail hd
   rw [List.tail_drop] at this
   exact this
  ·obtain ⟨z1, z2⟩ := he e' (LY _ h')
   exact ⟨tn _ _ z1, tn _ _ z2⟩
  ·have := iT kvs e.2.2.1 e.2.2.2
   rw [Mh] at hl
   lia
  ·rw [Fn] at I2
   exact I2
theorem BE (hu : (tupleKind (bU X.prog X.w)).room X.A.in1) (hc : X.calm = true) : MtR X "dict.update" rUpd := by
 intro pins s σ H x vs v us Q I rx rv h
 obtain ⟨a, l, kvs, es, rfl, rfl, ea, el, he, hl, q⟩ := h
 cases (show v = Value.ref a from rx)
 obtain ⟨u, rfl, ru⟩ := rv.one
 cases (show u = Value.ref l from ru)
 obtain ⟨z, hd, xs, rel, dd⟩ := EU I.hok ea
 obtain ⟨oa, esd, epd, hoa, hxa, _⟩ := id dd
 have hTa : s.TypeIs (.ref a) "dict" := ⟨oa, hoa, hxa.1⟩
 obtain ⟨hll, its, n, rl, hol⟩ := (show ObjOk X.prog X.w H s.heap l (.lst (es.map fun e => V.ref e.1)) from I.hok l _ el)
 have hTl : s.TypeIs (.ref l) "list" := ⟨_, hol, rfl⟩
 have hh : X.A.in1.handled = none := I.ok.hd hc
 refine wpAny_call (codeAny_call_builtin F.slot_dict_update.plain F.entry_dict_update (F.slot_dict_update.check _ _ _ _ _ _ _ _ hTa (F.args_dict_update_2 _ _) ?_))
 unfold Builtin.«dict.update»
 refine LQ ?_
 unfold Builtin.Dict.selfAndRest
 refine LQ (wpAny_notOrdered_dict hTa ?_)
 show wpAny _ _ (pure (a, [Value.ref l])) _ _ s
 refine LS ?_
 show wpAny _ _ (Builtin.Dict.updateFrom "dict.update" a (.ref l) [] .none) _ _ s
 unfold Builtin.Dict.updateFrom
 refine LQ (wpAny_typeOf hTl ?_)
 rw [LO (by decide)]
 refine LQ (DX.Cs hh hol fun h' tk' hk => ?_)
 rw [LO (show (none : Option Value).isNone = true from rfl)]
 refine LQ (wpAny_rule ?_)
 have I1 : Inv X pins σ H { s with heap := h', toks := tk' } := I.kept (t' := tk') hk
 obtain ⟨its1, rl1, pl1, _⟩ := I1.list (.inl (.inl el))
 refine LQ (wpAny_pyIter_list pl1.isList ?_)
 have I2 : Inv X pins σ H { s with heap := h'.push { cls := .type "list_iterator", data := .fields #[.ref l, .int 0 0] }, toks := tk' } := I1.kept (t' := tk') fun b o e => Mg _ e
 refine LS ⟨plainId_quiet DX.jy _, ?_⟩
 refine wZ (xs := es.map fun e => V.ref e.1) (pins := pins) (σ := σ) hu hh es 0 kvs H _ I2 ea (I1.fpOk (LU _) (I1.hok.fresh (LU _))) ⟨_, Mu _ rfl, rfl, rfl⟩ el (by rw [List.drop_zero]) he hl fun s' I' => ?_
 exact ⟨.non, _, I', rfl, q⟩
end
theorem un1 {A : Around} (h : A.units + 64 < cLine) : A.units + 1 < cLine := MJ (Nat.add_le_add_left (by decide) _) h
theorem HM {P : Program} {w : World} {A : Around} (h : A.units + 64 < cLine) : (tupleKind (bU P w)).room A := Nat.lt_of_succ_lt (un1 h)
theorem FN {P : Program} {w : World} {A : Around} (h : A.units + 64 < cLine) : (tupleKind (bU P w)).room A.in1 := tupleKind_room_in1 (un1 h)
end L2
namespace M
open PySem L2
section
variable {K : W.Frag} {S S' H H' : Hp}
theorem EZ {l : List D} {v : V} (h : Den K S (.tup l) v) : ∃ p xs, v = .ref p /\ S p = some (.tup xs) /\ Dens K S l xs := by
 obtain ⟨p, xs, e, h1, h2⟩ := den_tup.mp h
 exact ⟨p, xs, e, h1, h2⟩
noncomputable def kyD : D -> Option (List Int)
 | .tup l => bg l
 | _ => none
noncomputable abbrev kI (k : List Int) : List Key := k.map Sum.inl
theorem JB (k : List Int) : (kI k).map kV = k.map V.int := by rw [MF]; rfl
theorem Hl {a b : List Int} (h : kI a = kI b) : a = b := by
 induction a generalizing b with
 | nil => cases b with
  | nil => rfl
  | cons _ _ => cases h
 | cons x a ih => cases b with
  | nil => cases h
  | cons y b =>
   injection h with h1 h2
   injection h1 with h1
   rw [h1, ih h2]
theorem wb {d : D} {k : List Int} {v : V} (h : Den K S d v) (e : kyD d = some k) : ∃ p, v = .ref p /\ S p = some (.tup ((kI k).map kV)) := by
 cases d <;> try (cases e; done)
 obtain ⟨p, xs, rfl, h1, h2⟩ := EZ h
 obtain ⟨rfl, _⟩ := dg h2 e
 exact ⟨p, rfl, by rw [JB]; exact h1⟩
theorem rH (q : List Int) : ∀ ks : List (List Int), (kl (fm ks) (kI q)).isSome = ks.contains q
 | [] => rfl
 | k :: ks => by
  have ih := rH q ks
  by_cases h : k = q
  ·subst h
   show (kl ((kI k, V.bl true) :: fm ks) (kI k)).isSome = _
   rw [oJ rfl]
   simp
  ·show (kl ((kI k, V.bl true) :: fm ks) (kI q)).isSome = _
   rw [oI (fun z => h (Hl z)), ih]
   rw [List.contains_cons]
   have : (q == k) = false := by simpa using fun z => h z.symm
   rw [this, Bool.false_or]
noncomputable def ku (ks : List (List Int)) (q : List Int) : List (List Int) := if ks.contains q then ks else ks ++ [q]
theorem D2 (a b : List (List Int)) : fm (a ++ b) = fm a ++ fm b := by unfold fm; rw [MG]
theorem AS (ks : List (List Int)) (q : List Int) : gC (fm ks) (kI q) (.bl true) = fm (ku ks q) := by
 unfold ku
 cases h : ks.contains q with
 | false =>
  have hv : kl (fm ks) (kI q) = none := by
   have := rH q ks
   rw [h] at this
   cases z : kl (fm ks) (kI q) with
   | none => rfl
   | some _ => rw [z] at this; cases this
  rw [zd _ hv, LP (by decide), D2]
  rfl
 | true =>
  rw [LO rfl]
  have ha : ((fm ks).any fun kv => decide (kv.1 = kI q)) = true := by rw [oq, rH, h]
  unfold gC
  rw [LO ha]
  unfold fm
  rw [MF]
  refine List.map_congr_left fun k _ => ?_
  show (if kI k = kI q then (kI k, V.bl true) else (kI k, V.bl true)) = _
  split <;> rfl
theorem sT : ∀ (qs ks : List (List Int)), kW (fm ks) (qs.map fun q => (kI q, V.bl true)) = fm (qs.foldl ku ks)
 | [], ks => rfl
 | q :: qs, ks => by
  show kW (gC (fm ks) (kI q) (.bl true)) (qs.map fun q => (kI q, V.bl true)) = _
  rw [AS, sT qs]
  rfl
theorem ye (ks : List (List Int)) : (fm ks).length = ks.length := LR _
theorem Ext.setOwn {S1 H1 : Hp} {p : Addr} {o : HO} (z : Ext S H S1 H1) (hp : H p = none) (hs : S1 p = none) : Ext S H S1 (upd H1 p o) :=
 ⟨z.sh, fun b u hb => by rw [aW fun e => by subst e; rw [hs] at hb; cases hb]; exact z.sub b u hb, fun b u hb hn => by
  obtain ⟨c1, c2⟩ := z.al b u hb hn
  exact ⟨by rw [aW fun e => by subst e; rw [hp] at hb; cases hb]; exact c1, c2⟩⟩
@[simp] noncomputable def yL (k : XE) : Env -> Option O := fun ρ => (k ρ).bind fun d => (kyD d).map fun q => .dic [q]
theorem HF {tk : TE} {k : XE} (h : SE K tk k) : STr K (D5 tk (tC (.bl true))) (yL k) := fun ρ σ S H Q o r x c => by
 unfold yL at x
 cases qk : k ρ with
 | none => rw [qk] at x; cases x
 | some d =>
  rw [qk] at x
  dsimp only [Option.bind] at x
  cases qd : kyD d with
  | none => rw [qd] at x; cases x
  | some q =>
   rw [qd] at x
   cases x
   intro p hp
   have z : Ext S H S (upd H p (.dT [])) := Ext.own r.sub hp
   refine h ρ σ S _ _ d (r.ext z) qk fun v S1 H1 z1 d1 => ?_
   obtain ⟨b, rfl, hb⟩ := wb d1 qd
   obtain ⟨a1, a2⟩ := z1.al p _ aO (r.sub.free hp)
   refine ⟨b, kI q, .bl true, rfl, z1.sub b _ hb, a1, ?_⟩
   exact c (.ref p) [p] S1 _ ((z.trans z1).setOwn hp a2) (own_dic.mpr ⟨p, rfl, rfl, aO⟩) (Mq.mpr ⟨by simp, List.nodup_nil⟩) fun c' hc => by rw [L4.mp hc]; exact ⟨hp, a2⟩
@[simp] noncomputable def Gj : Env -> Option O := fun _ => some (.dic [])
theorem GP : STr K DZ Gj := fun ρ σ S H Q o r x c => by
 cases x
 intro p hp
 exact c (.ref p) [p] S _ (Ext.own r.sub hp) (own_dic.mpr ⟨p, rfl, rfl, aO⟩) (Mq.mpr ⟨by simp, List.nodup_nil⟩) fun c' hc => by rw [L4.mp hc]; exact ⟨hp, r.sub.free hp⟩
noncomputable def yn (ρ : Env) (i : Nat) : Option (List (List Int)) := match ρ[i]? with
 | some (.ow (.dic ks)) => some ks
 | some (.sh (.dic ks)) => some ks
 | _ => none
theorem HQ {ρ : Env} {σ : St} {i : Nat} {ks : List (List Int)} (r : Rl K ρ σ S H) (h : yn ρ i = some ks) : ∃ a, σ[i]? = some (some (.ref a)) /\ Rd H a (.dT (fm ks)) := by
 unfold yn at h
 split at h
 ·rename_i ks' q
  cases h
  obtain ⟨v, fp, e, ow, _⟩ := r.ow i _ q
  obtain ⟨a, rfl, _, ha⟩ := own_dic.mp ow
  exact ⟨a, e, .inl ha⟩
 ·rename_i ks' q
  cases h
  obtain ⟨v, e, dv⟩ := r.sh i _ q
  obtain ⟨a, rfl, ha⟩ := den_dic.mp dv
  exact ⟨a, e, cX r.sub ha⟩
 ·cases h
@[simp] noncomputable def Ca (neg : Bool) (k : XE) (i : Nat) : XE := fun ρ => (k ρ).bind fun d => (kyD d).bind fun q => (yn ρ i).map fun ks => .bl (if neg then !(ks.contains q) else ks.contains q)
theorem zp {tk : TE} {k : XE} {i : Nat} (h : SE K tk k) : SE K (Bs tk (iY i)) (Ca true k i) := fun ρ σ S H Q g r x c => by
 unfold Ca at x
 cases qk : k ρ with
 | none => rw [qk] at x; cases x
 | some d =>
  rw [qk] at x
  dsimp only [Option.bind] at x
  cases qd : kyD d with
  | none => rw [qd] at x; cases x
  | some q =>
   rw [qd] at x
   dsimp only at x
   cases qi : yn ρ i with
   | none => rw [qi] at x; cases x
   | some ks =>
    rw [qi] at x
    cases x
    refine h ρ σ S H _ d r qk fun v S1 H1 z1 d1 => ?_
    obtain ⟨b, rfl, hb⟩ := wb d1 qd
    obtain ⟨a, e1, ha⟩ := HQ (r.ext z1) qi
    refine ⟨.ref a, e1, a, _, rfl, .inr ⟨_, kI q, b, ha, rfl, z1.sub b _ hb, rfl⟩, c _ S1 H1 z1 ?_⟩
    rw [rH]
    exact den_bl.mpr rfl
theorem RlF.dic {A : Hp} {Λ : Nat -> Option Addr} {Φ : Nat -> List Addr} {ρ : Env} {σ : St} {i : Nat} {ks : List (List Int)} (f : RlF K A Λ Φ ρ σ S H) (h : ρ[i]? = some (.ow (.dic ks))) :
  ∃ a, σ[i]? = some (some (.ref a)) /\ H a = some (.dT (fm ks)) /\ ∀ ks', RlA K A Λ (ρ.set i (.ow (.dic ks'))) σ S (upd H a (.dT (fm ks'))) := by
 obtain ⟨v, ev, ow, nd, n⟩ := f.ow i _ h
 obtain ⟨a, rfl, hfp, ha⟩ := own_dic.mp ow
 have ain : a ∈ Φ i := by rw [hfp]; exact LV
 refine ⟨a, ev, ha, fun ks' => ?_⟩
 have ne : ∀ b, b ≠ a -> upd H a (.dT (fm ks')) b = H b := fun b hb => aW hb
 have sub' : Same S (upd H a (.dT (fm ks'))) := fun b u e => by rw [ne b fun z => by subst z; rw [(n b ain).1] at e; cases e]; exact f.sub b u e
 have asub' : Same A (upd H a (.dT (fm ks'))) := fun b u e => by rw [ne b fun z => by subst z; rw [(n b ain).2] at e; cases e]; exact f.asub b u e
 have fin := f.put (H' := upd H a (.dT (fm ks'))) i sub' asub' (own_dic.mpr ⟨a, rfl, rfl, aO⟩) (Mq.mpr ⟨by simp, List.nodup_nil⟩) (fun b hb => by rw [L4.mp hb]; exact n a ain) fun j o' hj e1 b hb => by
  have nb : b ∉ Φ i := fun z => f.dj j i o' _ hj e1 h b hb z
  exact ⟨ne b fun z => nb (z ▸ ain), fun z => nb (by rw [L4.mp z]; exact ain)⟩
 rw [xl ev] at fin
 exact ⟨_, fin⟩
@[simp] noncomputable def Dh (i : Nat) (k : XE) : XS := fun ρ => match ρ[i]? with
 | some (.ow (.dic ks)) => (k ρ).bind fun d => (kyD d).bind fun q => if ks.length < LIM then some (.nx (ρ.set i (.ow (.dic (ku ks q))))) else none
 | _ => none
theorem GD {tk : TE} {k : XE} {i : Nat} (h : SE K tk k) : SS K (Ge (iY i) tk (tC (.bl true))) (Dh i k) := fun A Λ ρ σ S H E o r x c => by
 unfold Dh at x
 split at x <;> try (cases x; done)
 rename_i ks q0
 cases qk : k ρ with
 | none => rw [qk] at x; cases x
 | some d =>
  rw [qk] at x
  dsimp only [Option.bind] at x
  cases qd : kyD d with
  | none => rw [qd] at x; cases x
  | some q =>
   rw [qd] at x
   dsimp only at x
   split at x <;> try (cases x; done)
   rename_i hl
   cases x
   obtain ⟨Φ, f⟩ := r
   obtain ⟨a, ev, _, _⟩ := f.dic q0
   refine ⟨.ref a, ev, h ρ σ S H _ d ⟨A, Λ, Φ, f⟩ qk fun v S1 H1 z1 d1 => ?_⟩
   obtain ⟨b, rfl, hb⟩ := wb d1 qd
   obtain ⟨a', ev', ha, up⟩ := (f.ext z1).dic q0
   rw [ev] at ev'
   cases ev'
   refine ⟨a, _, rfl, .inr ⟨_, kI q, b, ha, rfl, z1.sub b _ hb, ?_, rfl⟩, ?_⟩
   ·rw [ye]; exact Nat.lt_trans hl gj
   ·rw [AS]
    exact c σ S1 _ (up _) z1.sh
noncomputable def ka : List D -> Option (List (List Int))
 | [] => some []
 | .tup [d, .bl true] :: l => (kyD d).bind fun q => (ka l).map fun qs => q :: qs
 | _ => none
theorem xI {S H : Hp} (s : Same S H) : ∀ {l : List D} {xs : List V} {qs : List (List Int)}, Dens K S l xs -> ka l = some qs ->
  ∃ es : List (Addr × Addr × List Key × V), xs = es.map (fun e => V.ref e.1) /\ (∀ e ∈ es, H e.1 = some (.tup [.ref e.2.1, e.2.2.2]) /\ H e.2.1 = some (.tup (e.2.2.1.map kV))) /\ es.map (fun e => (e.2.2.1, e.2.2.2)) = qs.map fun q => (kI q, V.bl true)
 | [], xs, qs, h, e => by
  cases e
  exact ⟨[], h.nil_of, (fun e he => by cases he), rfl⟩
 | d :: l, xs, qs, h, e => by
  obtain ⟨y, ys, rfl, h1, h2⟩ := h.cons_of
  unfold ka at e
  split at e <;> try (cases e; done)
  ·rename_i hh; cases hh
  ·rename_i d0 l0 hh
   injection hh with hh1 hh2
   subst hh1 hh2
   cases qd : kyD d0 with
   | none => rw [qd] at e; cases e
   | some q =>
    rw [qd] at e
    dsimp only [Option.bind] at e
    cases ql : ka l with
    | none => rw [ql] at e; cases e
    | some qs' =>
     rw [ql] at e
     cases e
     obtain ⟨es, e1, e2, e3⟩ := xI s h2 ql
     obtain ⟨t, zs, rfl, ht, hz⟩ := EZ h1
     obtain ⟨y1, r1, rfl, k1, hz⟩ := hz.cons_of
     obtain ⟨y2, r2, rfl, k2, hz⟩ := hz.cons_of
     have := hz.nil_of
     subst this
     obtain ⟨b, rfl, hb⟩ := wb k1 qd
     have := den_bl.mp k2
     subst this
     refine ⟨(t, b, kI q, .bl true) :: es, by rw [e1]; rfl, fun e he => ?_, by rw [L1, e3]; rfl⟩
     rcases L9.mp he with rfl | he
     ·exact ⟨s t _ ht, s b _ hb⟩
     ·exact e2 e he
@[simp] noncomputable def Bi (i : Nat) (e : XA) : XS := fun ρ => match ρ[i]? with
 | some (.ow (.dic ks)) => (e ρ).bind fun l => (ka l).bind fun qs => if ks.length + l.length < LIM then some (.nx (ρ.set i (.ow (.dic (qs.foldl ku ks))))) else none
 | _ => none
theorem GH {te : TE} {e : XA} {i : Nat} (h : SF K te e) : SS K (vI (tBM K "dict" rUpd (iY i) (kX te um))) (Bi i e) := fun A Λ ρ σ S H E o r x c => by
 unfold Bi at x
 split at x <;> try (cases x; done)
 rename_i ks q0
 cases qe : e ρ with
 | none => rw [qe] at x; cases x
 | some l =>
  rw [qe] at x
  dsimp only [Option.bind] at x
  cases qp : ka l with
  | none => rw [qp] at x; cases x
  | some qs =>
   rw [qp] at x
   dsimp only at x
   split at x <;> try (cases x; done)
   rename_i hl
   cases x
   obtain ⟨Φ, f⟩ := r
   obtain ⟨a, ev, ha0, _⟩ := f.dic q0
   refine ⟨.ref a, ev, .inr (.inr (.inl ⟨rfl, .inr ⟨_, ha0⟩⟩)), h ρ σ S H _ l ⟨A, Λ, Φ, f⟩ qe fun p xs S1 H1 z1 hp hs1 hp1 d1 => ?_⟩
   obtain ⟨es, e1, e2, e3⟩ := xI z1.sub d1 qp
   obtain ⟨a', ev', ha, up⟩ := (f.ext z1).dic q0
   rw [ev] at ev'
   cases ev'
   refine ⟨a, p, _, es, rfl, rfl, ha, by rw [<- e1]; exact hp1, e2, ?_, ?_⟩
   ·have := d1.length
    rw [ye]
    have e4 : es.length = xs.length := by rw [e1, LR]
    exact Nat.lt_trans (by lia) gj
   ·rw [e3, sT]
    exact c σ S1 _ (up _) z1.sh
theorem IA {t : TE} {e : XE} (h : SE K t e) : ST K (tB t) (xB e) := fun ρ σ S H Q b r x c => by
 unfold xB at x
 cases q : e ρ with
 | none => rw [q] at x; cases x
 | some d =>
  rw [q] at x
  cases d <;> try (cases x; done)
  cases x
  refine h ρ σ S H _ _ r q fun v S1 H1 z1 d1 => ?_
  exact ⟨_, den_bl.mp d1, c S1 H1 z1⟩
end
end M
namespace L2
open PySem PySem.Spec PyProof.Rows M
noncomputable def inL (d : D) (l : List D) : Bool := l.any fun e => eqD e d
noncomputable def IZ (K : W.Frag) (neg : Bool) : R2 := fun x y H Q => ∃ S d l, Same S H /\ DenP K S H d x /\ DenP K S H (.lst l) y /\ okD 30 d = true /\ okD 30 (.lst l) = true /\ Q (.bl (if neg then !inL d l else inL d l)) H
section
variable {X : Cx}
theorem Da (d : D) (n : Nat) (hd : okD n d = true) : ∀ (m : Nat) (l : List D), okDs m l = true -> ((pyDs l).any fun y => PyData.eqv y (pyD d)) = inL d l
 | _, [], _ => by simp [pyDs, inL]
 | m, e :: l, h => by
  rw [okDs, Mw] at h
  have ih := Da d n hd m l h.2
  rw [pyDs, List.any_cons, ih, wa m n e d h.1 hd]
  rfl
theorem va (hu : X.A.units + 64 < cLine) : OpR X (compareOp .NotIn) (IZ X.K true) := by
 intro pins s σ H x y v u Q I rx ry h
 obtain ⟨S, d, l, sm, dx, dy, cd, ce, q⟩ := h
 obtain ⟨as, ra⟩ := fN I 30 cd (mL sm dx) rx
 obtain ⟨bs, rb⟩ := fN I 30 ce (mL sm dy) ry
 obtain ⟨a1, a2⟩ := mS 30 d cd
 obtain ⟨b1, b2⟩ := mS 30 (.lst l) ce
 have hm := Nat.min_le_right (PyData.depthAll (pyDs l)) (pyD d).depth
 refine SeqAt.notIn_list_reads (xs := pyDs l) rb ra (by simpa [pyD, PyData.canLay0] using b1) a1 (by lia) ⟨.bl _, H, I, rfl, ?_⟩
 rw [Da d 30 cd 29 l (by simpa [okD] using ce)]
 exact q
end
end L2
namespace M
open PySem L2
section
variable {K : W.Frag}
noncomputable def Cz (neg : Bool) (d e : D) : Option D := match e with
 | .lst l => if okD 30 d = true /\ okD 30 (.lst l) = true then some (.bl (if neg then !inL d l else inL d l)) else none
 | _ => none
theorem Gd (neg : Bool) : SR2 K (IZ K neg) (Cz neg) := fun S H x y d e z Q s dx dy q k => by
 unfold Cz at q
 split at q <;> try (cases q; done)
 rename_i l
 split at q
 ·rename_i c
  cases q
  exact ⟨S, d, l, s, dx, dy, c.1, c.2, k _ S H (Ext.refl s) (den_bl.mpr rfl)⟩
 ·cases q
end
end M
namespace L2
open PySem PySem.Spec PyProof.Rows
noncomputable def G6 (a c : Int) (n : Nat) : It := ⟨fun i _ => i < n, fun i H x H' => H' = H /\ x = .int (a + i * c), fun i _ => n <= i⟩
noncomputable def Gk (ta : TA) : TI := fun σ H R => ta σ H fun vs H1 => ∃ a j c : Int, vs = [.int a, .int j, .int c] /\ c ≠ 0 /\ (-1000000 < c /\ c < 1000000) /\ Builtin.Range.small a j c = true /\ R (G6 a c (Builtin.Range.rangeSize a j c).toNat) H1
section
variable {X : Cx} {tg : Expr}
theorem BS {P : Program} {w : World} {K : W.Frag} (it : Addr) (a c : Int) (n : Nat) : Turn P w K tg (G6 a c n) [it] it (fun i h => IsRangeIter h it (a + (i : Nat) * c) ((n : Int) - (i : Nat)) c) where
 mem := by simp
 obj := fun i h st b hb => by
  rw [L4.mp hb]
  exact ⟨_, st, fun v z => by have z' : Data.fields _ = Data.cell v := z; cases z'⟩
 keep := fun i h h' st k => k it (by simp) _ st
 item := by
  intro X hP hw hK hc i pins s σ H E I hf st hg
  subst hP hw hK
  obtain ⟨f0, f1, f2, f3, f4, f5⟩ := hf it (by simp)
  refine (Walks.range (prog := X.prog) (w := X.w) (I.ok.hd hc) it a c n).item i s _ _ hg st fun v h' tk hv st' kk => ?_
  obtain ⟨t, rfl⟩ := hv
  have I1 : Inv X pins σ H { s with heap := h', toks := tk } := I.turned (fun b o hb e => kk b o (fun z => hb (L4.mp z)) e) f0 f1 f3 f4 f5
  exact ⟨_, rfl, Bn (s := { s with heap := h', toks := tk }) (n := "range_iterator") st' rfl rfl (by decide) ⟨.int (a + i * c), H, I1, ⟨t, rfl⟩, ⟨rfl, rfl⟩, st', fun b hb => (hf b hb).1⟩⟩
 done := by
  intro X hP hw hK hc i pins s σ H E I hf st hg
  subst hP hw hK
  obtain ⟨f0, f1, f2, f3, f4, f5⟩ := hf it (by simp)
  exact wpAny_pyNext_range_end (I.ok.hd hc) st (by have : n <= i := hg; lia) fun h' eb => ⟨rfl, I.turned (t' := s.toks) (fun b o hb e => eb b o hb e) f0 f1 f3 f4 f5⟩
 self := fun _ _ _ _ _ st h => wpAny_pyIter_rangeiter st h
theorem Fl {pins : List (Addr × Obj)} {σ : St} {H : Hp} {s : Shared} {R : It -> Hp -> Prop} {E : Value -> Shared -> Prop} {a j c : Int} {t u v : Tok} {tk : Nat} (I : Inv X pins σ H s) (hs : Builtin.Range.small a j c = true) (q : R (G6 a c (Builtin.Range.rangeSize a j c).toNat) H) :
  wpAny (model X.prog X.w) X.A (pyIter (.ref s.heap.objs.size)) (PIE X pins σ tg R) E { s with heap := s.heap.push { cls := .type "range", data := .fields #[.int a t, .int j u, .int c v] }, toks := tk } := by
 refine wpAny_pyIter_range (IsRange.new ..) hs ?_
 have I1 : Inv X pins σ H { s with heap := s.heap.push { cls := .type "range", data := .fields #[.int a t, .int j u, .int c v] }, toks := tk } := I.kept fun b o e => Mg _ e
 refine ⟨(s.heap.push { cls := .type "range", data := .fields #[.int a t, .int j u, .int c v] }).objs.size, [(s.heap.push { cls := .type "range", data := .fields #[.int a t, .int j u, .int c v] }).objs.size], _, _, H, rfl, I1.kept (t' := tk) fun b o e => Mg _ e, BS _ a c (Builtin.Range.rangeSize a j c).toNat, ?_, fun b hb => ?_, q⟩
 ·have e1 : a + ((0 : Nat) : Int) * c = a := by simp
  have e2 : (((Builtin.Range.rangeSize a j c).toNat : Nat) : Int) - ((0 : Nat) : Int) = Builtin.Range.rangeSize a j c := by rw [<- rangeSize_toNat]; simp
  show IsRangeIter _ _ (a + ((0 : Nat) : Int) * c) ((((Builtin.Range.rangeSize a j c).toNat : Nat) : Int) - ((0 : Nat) : Int)) c
  rw [e1, e2]
  exact Mu _ rfl
 ·rw [L4.mp hb]
  exact I1.fpOk (LU _) I1.fresh
theorem Ck {a b c : Expr} {ta : TA} {p pos : Pos} (hg : Gl X "range") (hm : X.mg "range" = none) (ha : PA X [a, b, c] ta) (hs : starEach [a, b, c] X.env = (false, eval a X.env) :: starEach [b, c] X.env := by rfl)
  (hp : (backTo pos (starEach [b, c] X.env)).any (·.1) = false := by rfl) : PI X tg (.Call (.Name "range" p) [a, b, c] [] pos) (Gk ta) := by
 intro pins s σ H R I h
 refine Call_ (pO I hg hm boot_range (PyProof.Rows.callWith_type1 (thn (ha pos pins s σ H _ I h) fun us s1 h1 => ?_) hs hp))
 obtain ⟨vs, H1, I1, r1, x, j, y, rfl, q1, ⟨q3, q4⟩, q2, q⟩ := h1
 cases r1 with
 | cons r rr =>
  cases rr with
  | cons r' rr =>
   cases rr with
   | cons r'' rr =>
    cases rr
    obtain ⟨t, rfl⟩ := r
    obtain ⟨t', rfl⟩ := r'
    obtain ⟨t'', rfl⟩ := r''
    exact call_range_3 q1 (Fl I1 q2 q)
end
end L2
namespace M
open PySem L2
section
variable {K : W.Frag} {S H : Hp}
noncomputable def tH (a c : Int) (n : Nat) : List D := (List.range n).map fun i : Nat => D.int (a + (i : Int) * c)
noncomputable def Dv : List D -> Option (List D)
 | [.int a, .int j, .int c] => ifC (c ≠ 0 /\ (-1000000 < c /\ c < 1000000) /\ Builtin.Range.small a j c = true) (some (tH a c (Builtin.Range.rangeSize a j c).toNat)) none
 | _ => none
@[simp] noncomputable def AZ (a : XA) : XA := fun ρ => (a ρ).bind Dv
theorem G3 {t : TA} {a : XA} (h : SAP K t a) : SI K (Gk t) (AZ a) := fun ρ σ S H R l r x k => by
 unfold AZ at x
 cases q : a ρ with
 | none => rw [q] at x; cases x
 | some ds =>
  rw [q] at x
  dsimp only [Option.bind] at x
  unfold Dv at x
  split at x
  ·rename_i aa j bb
   obtain ⟨⟨h1, h3, h2⟩, rfl⟩ := ig x
   refine h ρ σ S H _ _ r q fun vs S1 H1 z1 d1 => ?_
   cases d1 with
   | cons a1 d1 => cases d1 with
    | cons a2 d1 => cases d1 with
     | cons a3 d1 =>
      cases d1
      refine ⟨aa, j, bb, by rw [a1.int, a2.int, a3.int], h1, h3, h2, k _ S1 H1 z1 fun S' H' _ _ => ⟨fun i d h => ?_, by unfold tH; rw [LR, MO]; exact LU _⟩⟩
      unfold tH at h
      rw [L3] at h
      cases qi : (List.range (Builtin.Range.rangeSize aa j bb).toNat)[i]? with
      | none => rw [qi] at h; cases h
      | some i' =>
       rw [qi] at h
       cases h
       obtain ⟨hi, e⟩ := LW.mp qi
       rw [List.getElem_range] at e
       subst e
       rw [MO] at hi
       exact ⟨hi, fun x H'' y => ⟨y.1, den_int.mpr y.2⟩⟩
  ·cases x
end
end M
namespace L2
open PySem PySem.Spec PyProof.Rows
section
variable {X : Cx}
end
end L2
namespace M
open PySem L2
section
variable {K : W.Frag}
noncomputable def Jf : D -> Option (List D)
 | .int j => ifC (0 <= j /\ j < 1000000) (some ((List.range j.toNat).map fun i : Nat => D.int (i : Int))) none
 | _ => none
@[simp] noncomputable def Kj (a : XE) : XA := fun ρ => (a ρ).bind Jf
end
end M
namespace L2
open PySem PySem.Spec PyProof.Rows
section
variable {X : Cx} {pins : List (Addr × Obj)} {σ : List (Option V)} {H H' : Hp} {s : Shared} {h' : Heap}
end
section
variable {X : Cx}
end
end L2
namespace M
open PySem L2
section
variable {K : W.Frag} {S S' H H' : Hp}
noncomputable def enL (k : Nat) : List D -> List D
 | [] => []
 | d :: l => .tup [.int (k : Int), d] :: enL (k + 1) l
@[simp] noncomputable def LE (a : XE) : XA := fun ρ => (a ρ).bind fun d => match d with | .lst l => some (enL 0 l) | _ => none
end
end M
namespace L2
open PySem PySem.Spec PyProof.Rows M
section
variable {X : Cx}
end
end L2
namespace M
open PySem L2
section
variable {K : W.Frag}
end
section
variable {K : W.Frag} {S S' H H' : Hp}
theorem RlF.unset {A : Hp} {Λ : Nat -> Option Addr} {Φ : Nat -> List Addr} {ρ : Env} {σ σ' : St} (f : RlF K A Λ Φ ρ σ S H) (j : Nat) (hl : σ'.length = σ.length) (hk : ∀ k, k ≠ j -> σ'[k]? = σ[k]?) : RlF K A Λ Φ (ρ.set j .un) σ' S H where
 len := by rw [MC, hl]; exact f.len
 sub := f.sub
 sh := fun k d h => by
  rcases bm h with ⟨_, e, _⟩ | ⟨hn, h⟩
  ·cases e
  ·rw [hk k (Ma hn)]; exact f.sh k d h
 ow := fun k o h => by
  rcases bm h with ⟨_, e, _⟩ | ⟨hn, h⟩
  ·cases e
  ·rw [hk k (Ma hn)]; exact f.ow k o h
 dj := fun k l o1 o2 hkl g1 g2 => by
  rcases bm g1 with ⟨_, e, _⟩ | ⟨_, g1⟩
  ·cases e
  ·rcases bm g2 with ⟨_, e, _⟩ | ⟨_, g2⟩
   ·cases e
   ·exact f.dj k l o1 o2 hkl g1 g2
 lo := fun k h => by
  rcases bm h with ⟨_, e, _⟩ | ⟨hn, h⟩
  ·cases e
  ·rw [hk k (Ma hn)]; exact f.lo k h
 asub := f.asub
 adis := f.adis
theorem RlF.chg {A : Hp} {Λ : Nat -> Option Addr} {Φ : Nat -> List Addr} {ρ : Env} {σ σ' : St} (f : RlF K A Λ Φ ρ σ S H) (j : Nat) (hu : ρ[j]? = some .un) (hl : σ'.length = σ.length) (hk : ∀ k, k ≠ j -> σ'[k]? = σ[k]?) : RlF K A Λ Φ ρ σ' S H := by
 have h := f.unset j hl hk
 have e : ρ.set j .un = ρ := by
  apply List.ext_getElem?
  intro k
  by_cases hj : j = k
  ·subst hj
   rw [MK (LW.mp hu).1, hu]
  ·rw [Ms hj]
 rw [e] at h
 exact h
theorem ie : ∀ {l : List O} {xs : List V} {fp : List Addr}, Owns K S H l xs fp -> l.length = xs.length
 | [], _, _, h => by rw [h.nil_of.1]; rfl
 | _ :: _, _, _, h => by
  obtain ⟨y, ys, f, g, rfl, rfl, a, b⟩ := h.cons_of
  rw [Mh, Mh, ie b]
theorem nY : ∀ {l : List O} {xs : List V} {fp : List Addr} {n : Nat} {o : O}, Owns K S H l xs fp -> l[n]? = some o -> ∃ y fn, xs[n]? = some y /\ Own K S H o y fn /\ (∀ b ∈ fn, b ∈ fp) /\ (fp.Nodup -> fn.Nodup)
 | [], _, _, _, _, _, e => by simp at e
 | _ :: _, _, _, 0, o, h, e => by
  obtain ⟨y, ys, f, g, rfl, rfl, a, b⟩ := h.cons_of
  cases e
  exact ⟨y, f, rfl, a, fun b hb => Me _ hb, fun nd => (MN.mp nd).1⟩
 | _ :: _, _, _, n + 1, o, h, e => by
  obtain ⟨y, ys, f, g, rfl, rfl, a, b⟩ := h.cons_of
  rw [M0] at e
  obtain ⟨z, fn, h1, h2, h3, h4⟩ := nY b e
  exact ⟨z, fn, by rw [M0]; exact h1, h2, fun b hb => L0 _ (h3 b hb), fun nd => h4 (MN.mp nd).2.1⟩
theorem sU {l : List O} {y : V} {fp : List Addr} (h : Own K S H (.lst l) y fp) : ∃ p xs f, y = .ref p /\ fp = p :: f /\ H p = some (.lst xs) /\ l.length = xs.length := by
 obtain ⟨p, xs, f, e1, e2, e3, e4⟩ := own_lst.mp h
 exact ⟨p, xs, f, e1, e2, e3, ie e4⟩
theorem sQ : ∀ {l : List O} {xs : List V} {fp : List Addr} {m n : Nat} {a b : List O} {y : V}, Owns K S H l xs fp -> fp.Nodup -> m < n -> l[m]? = some (.lst a) -> l[n]? = some (.lst b) -> xs[m]? = some y -> xs[n]? = some y -> False
 | [], _, _, _, _, _, _, _, _, _, _, e, _, _, _ => by simp at e
 | _ :: _, _, _, 0, n + 1, a, b, y, h, nd, _, e1, e2, e3, e4 => by
  obtain ⟨z, ys, f, g, rfl, rfl, o1, o2⟩ := h.cons_of
  cases e1
  cases e3
  rw [M0] at e2 e4
  obtain ⟨w, fn, h1, h2, h3, _⟩ := nY o2 e2
  rw [h1] at e4
  cases e4
  obtain ⟨p, _, f', ep, ef, _⟩ := sU o1
  obtain ⟨p', _, f'', ep', ef', _⟩ := sU h2
  rw [ep] at ep'
  cases ep'
  exact (MN.mp nd).2.2 p (by rw [ef]; exact LV) p (h3 p (by rw [ef']; exact LV)) rfl
 | _ :: _, _, _, m + 1, n + 1, a, b, y, h, nd, hl, e1, e2, e3, e4 => by
  obtain ⟨z, ys, f, g, rfl, rfl, o1, o2⟩ := h.cons_of
  rw [M0] at e1 e2 e3 e4
  exact sQ o2 (MN.mp nd).2.1 (Nat.lt_of_succ_lt_succ hl) e1 e2 e3 e4
theorem jV {l : List O} {i : Nat} {o : O} (h : l[i]? = some o) : l.drop i = o :: l.drop (i + 1) := by
 obtain ⟨h1, rfl⟩ := LW.mp h
 exact List.drop_eq_getElem_cons h1
@[simp] noncomputable def nN (i : Nat) (p : XP) : XA := fun ρ => match ρ[i]? with
 | some (.ow o) => (p ρ).bind fun is => match dS o is with | some (.lst l) => shs l | _ => none
 | _ => none
theorem Ep {to : TE} {i : Nat} {p : XP} (hp : zE K to i p) : SIP K (rN K to) (nN i p) := fun ρ σ S H R l r x k => by
 unfold nN at x
 split at x <;> try (cases x; done)
 rename_i o q0
 cases q1 : p ρ with
 | none => rw [q1] at x; cases x
 | some is =>
  rw [q1] at x
  dsimp only [Option.bind] at x
  split at x <;> try (cases x; done)
  rename_i l0 q3
  have eo := vQ x
  subst eo
  obtain ⟨A, Λ, Φ, f⟩ := r
  refine hp ρ σ S H _ is o _ ⟨A, Λ, Φ, f⟩ q0 q1 q3 fun v w S1 H1 ev z1 wk => ?_
  have f1 := f.ext z1
  obtain ⟨a, xs, g0, rfl, hx, hw, nd0, in0, _⟩ := f1.at q0 q3 ev wk
  obtain ⟨dx, rfl⟩ := jP hw
  obtain ⟨_, _, _, _, n1⟩ := f1.ow i o q0
  have hSa : S1 a = none := (n1 a (in0 a LV)).1
  refine ⟨a, rfl, .inl ⟨⟨xs, SqL.of hx⟩, k _ S1 H1 z1 fun S2 H2 z2 => ?_⟩⟩
  have hx2 := (z2.al a _ hx hSa).1
  refine ⟨fun i0 d hd => ?_, xs, SqL.of hx2, Nat.le_of_eq dx.length.symm⟩
  obtain ⟨y, e1, e2⟩ := dx.get hd
  refine ⟨⟨xs, y, SqL.of hx2, e1⟩, fun x H'' hy => ⟨hy.1, ?_⟩⟩
  have := hy.2 xs (SqL.of hx2)
  rw [e1] at this
  cases this
  exact e2.mono z2.sh
noncomputable def nT (i j y : Nat) (c : XT) (e : XE) : List O -> Env -> Option Out
 | [], ρ => some (.nx ρ)
 | o :: os, ρ => (c ((ρ.set i .un).set j (.ow o))).bind fun b => if b = true then some (.rt (.bl false)) else (e ((ρ.set i .un).set j (.ow o))).bind fun d => nT i j y c e os (ρ.set y (.sh d))
noncomputable def AB (i j y : Nat) (c : XT) (e : XE) : XS := fun ρ => match ρ[i]? with
 | some (.ow (.lst os)) => if i ≠ j /\ i ≠ y /\ j ≠ y /\ j < ρ.length then nT i j y c e os (ρ.set j .un) else none
 | _ => none
theorem Fh {i j y : Nat} {tc : TT} {te : TE} {c : XT} {e : XE} (hc : ST K tc c) (he : SE K te e) : SS K (Cy (rN K (iY i)) (dY j) (wx (Fw tc (CG (tC (.bl false))) BB) (uz te (dY y)))) (AB i j y c e) := fun A Λ ρ σ S H E out r q k => by
 unfold AB at q
 split at q <;> try (cases q; done)
 rename_i os q0
 split at q <;> try (cases q; done)
 rename_i hne
 obtain ⟨hij, hiy, hjy, hjl⟩ := hne
 obtain ⟨Φ, f⟩ := r
 obtain ⟨v, ev, ow, nd, n⟩ := f.ow i _ q0
 obtain ⟨a, xs, f0, rfl, efp, hx, hw⟩ := own_lst.mp ow
 refine ⟨_, ev, a, rfl, .inl ⟨⟨xs, SqL.of hx⟩, ?_⟩⟩
 refine ⟨fun n0 m0 σ' H' => m0 = os.length - n0 /\ n0 <= os.length /\ ∃ ρ' S', RlF K A Λ Φ ρ' σ' S' H' /\ Same S S' /\ ρ'[i]? = some (.ow (.lst os)) /\ ρ'[j]? = some .un /\ nT i j y c e (os.drop n0) ρ' = some out,
  ⟨_, rfl, Mr _, ρ.set j .un, S, f.unset j rfl (fun _ _ => rfl), Same.refl _, by rw [Ms (Ma hij)]; exact q0, MK hjl, q⟩, ?_⟩
 rintro n0 m0 σ2 H2 ⟨rfl, hil, ρ2, S2, f2, s2, g1, g2, y2⟩
 obtain ⟨v2, ev2, ow2, nd2, n2⟩ := f2.ow i _ g1
 obtain ⟨a2, xs2, f02, rfl, efp2, hx2, hw2⟩ := own_lst.mp ow2
 have ea : a2 = a := by rw [efp] at efp2; exact (List.cons.inj efp2).1.symm
 subst ea
 have hlen := ie hw2
 cases qd : os[n0]? with
 | none =>
  have : os.length = n0 := by have := MV.mp qd; lia
  subst this
  rw [MU (LU _)] at y2
  cases y2
  exact .inl ⟨⟨xs2, SqL.of hx2, by lia⟩, k σ2 S2 H2 ⟨Φ, f2⟩ s2⟩
 | some o =>
  have hlt := (LW.mp qd).1
  obtain ⟨yv, fn, e1, o1, in1, ndn⟩ := nY hw2 qd
  rw [jV qd] at y2
  unfold nT at y2
  refine .inr ⟨⟨xs2, yv, SqL.of hx2, e1⟩, fun σ' H' => ∃ ρ' S', RlF K A Λ Φ ρ' σ' S' H' /\ Same S S' /\ ρ'[i]? = some (.ow (.lst os)) /\ ρ'[j]? = some .un /\ nT i j y c e (os.drop (n0 + 1)) ρ' = some out, fun σ' H' ⟨ρ', S', a1, a3, a4, a5, a6⟩ => ⟨_, by lia, rfl, hlt, ρ', S', a1, a3, a4, a5, a6⟩, fun xv H3 hy => ?_⟩
  obtain ⟨rfl, hy2⟩ := hy
  have exv := hy2 xs2 (SqL.of hx2)
  rw [e1] at exv
  cases exv
  rw [efp2] at nd2
  have inP : ∀ b ∈ fn, b ∈ Φ i := fun b hb => by rw [efp2]; exact LY _ (in1 b hb)
  have fU := f2.unset (σ' := σ2) i rfl (fun _ _ => rfl)
  have fT : RlF K A Λ (fun k => if k = j then fn else Φ k) ((ρ2.set i .un).set j (.ow o)) (σ2.set j (some yv)) S2 H3 := fU.put j f2.sub f2.asub o1 (ndn (Mq.mp nd2).2) (fun b hb => n2 b (inP b hb)) fun k' o' hk ho b hb => ⟨rfl, fun z => by
   rcases bm ho with ⟨_, e, _⟩ | ⟨hik, ho⟩
   ·cases e
   ·exact f2.dj k' i o' _ (Ma hik) ho g1 b hb (inP b z)⟩
  show wx (Fw tc (CG (tC (.bl false))) BB) (uz te (dY y)) _ (σ2.set j (some yv)) H3
  cases qc : c ((ρ2.set i .un).set j (.ow o)) with
  | none => rw [qc] at y2; cases y2
  | some b =>
   rw [qc] at y2
   dsimp only [Option.bind] at y2
   refine hc _ _ S2 H3 _ b ⟨A, Λ, _, fT⟩ qc fun S4 H4 z4 => ?_
   have fT4 := fT.ext z4
   have f4 := f2.ext z4
   cases b with
   | true =>
    rw [LO rfl] at y2
    cases y2
    exact wR (k (.bl false) S4 H4 (s2.trans z4.sh) f4.sub f4.asub f4.adis (den_bl.mpr rfl))
   | false =>
    rw [LP (by decide)] at y2
    refine x5 ?_
    show uz te (dY y) _ (σ2.set j (some yv)) H4
    cases qe : e ((ρ2.set i .un).set j (.ow o)) with
    | none => rw [qe] at y2; cases y2
    | some d =>
     rw [qe] at y2
     dsimp only at y2
     refine he _ _ S4 H4 _ d ⟨A, Λ, _, fT4⟩ qe fun w S5 H5 z5 d5 => ?_
     have f5 := (f4.ext z5).chg (σ' := σ2.set j (some yv)) j g2 (MC ..) (fun k' hk => Ms (Ma hk))
     exact ⟨ρ2.set y (.sh d), S5, f5.set y d5, (s2.trans z4.sh).trans z5.sh, by rw [Ms (Ma hiy)]; exact g1, by rw [Ms (Ma hjy)]; exact g2, y2⟩
noncomputable def qD (e : XE) : List O -> Option (List D)
 | [] => some []
 | o :: os => (e [.ow o]).bind fun d => (qD e os).map fun r => d :: r
noncomputable def mh (i : Nat) (e : XE) : XA := fun ρ => match ρ[i]? with
 | some (.ow (.lst os)) => if os.length <= LIM then qD e os else none
 | _ => none
theorem F5 {i : Nat} {te : TE} {e : XE} (he : SE K te e) : SF K (uW [none] (rN K (iY i)) (dY 0) A0 te) (mh i e) := fun ρ σ S H Q l r y k => by
 unfold mh at y
 split at y <;> try (cases y; done)
 rename_i os q0
 split at y <;> try (cases y; done)
 rename_i hlim
 obtain ⟨A, Λ, Φ, f⟩ := r
 obtain ⟨v, ev, ow, nd, n⟩ := f.ow i _ q0
 obtain ⟨a, xs, f0, rfl, efp, hx, hw⟩ := own_lst.mp ow
 refine ⟨_, ev, a, rfl, .inl ⟨⟨xs, SqL.of hx⟩, fun D hD => ?_⟩⟩
 refine ⟨fun i0 n H' => n = os.length - i0 /\ i0 <= os.length /\ ∃ S' done ys dR, Ext S H S' H' /\ H' D = some (.lst ys) /\ S' D = none /\ Dens K S' done ys /\ done.length <= i0 /\ qD e (os.drop i0) = some dR /\ l = done ++ dR,
  ⟨_, rfl, Mr _, S, [], [], l, Ext.own f.sub hD, aO, f.sub.free hD, .nil, Mr _, y, rfl⟩, ?_⟩
 rintro i0 m0 H2 ⟨rfl, hil, S2, done, ys, dR, z2, hy, hSD, dy, hdl, y2, rfl⟩
 have f2 := f.ext z2
 obtain ⟨v2, ev2, ow2, nd2, n2⟩ := f2.ow i _ q0
 obtain ⟨a2, xs2, f02, rfl, efp2, hx2, hw2⟩ := own_lst.mp ow2
 have ea : a2 = a := by rw [efp] at efp2; exact (List.cons.inj efp2).1.symm
 subst ea
 have hlen := ie hw2
 cases qd : os[i0]? with
 | none =>
  have : os.length = i0 := by have := MV.mp qd; lia
  subst this
  rw [MU (LU _)] at y2
  cases y2
  rw [Mv] at k
  exact .inl ⟨⟨xs2, SqL.of hx2, by lia⟩, k D ys S2 H2 z2 hD hSD hy dy⟩
 | some o =>
  have hlt := (LW.mp qd).1
  obtain ⟨yv, fn, e1, o1, in1, ndn⟩ := nY hw2 qd
  rw [jV qd] at y2
  unfold qD at y2
  cases qe : e [.ow o] with
  | none => rw [qe] at y2; cases y2
  | some dv =>
   rw [qe] at y2
   dsimp only [Option.bind] at y2
   cases qr : qD e (os.drop (i0 + 1)) with
   | none => rw [qr] at y2; cases y2
   | some rest2 =>
    rw [qr] at y2
    cases y2
    refine .inr ⟨⟨xs2, yv, SqL.of hx2, e1⟩, fun xv H3 hyl => ?_⟩
    obtain ⟨rfl, hy2⟩ := hyl
    have exv := hy2 xs2 (SqL.of hx2)
    rw [e1] at exv
    cases exv
    rw [efp2] at nd2
    have fI : RlF K (fun _ => none) (fun _ => none) (fun _ => fn) [.ow o] [some yv] S2 H3 := {
     len := rfl
     sub := f2.sub
     sh := fun k' d' h' => by
      cases k' with
      | zero => cases h'
      | succ k' => simp at h'
     ow := fun k' o' h' => by
      cases k' with
      | zero =>
       cases h'
       exact ⟨yv, rfl, o1, ndn (Mq.mp nd2).2, fun b hb => ⟨(n2 b (by rw [efp2]; exact LY _ (in1 b hb))).1, rfl⟩⟩
      | succ k' => simp at h'
     dj := fun k' l' o1' o2' hk g1 g2 => by
      cases k' with
      | zero =>
       cases l' with
       | zero => exact absurd rfl hk
       | succ l' => simp at g2
      | succ k' => simp at g1
     lo := fun k' h' => by
      cases k' with
      | zero => cases h'
      | succ k' => simp at h'
     asub := fun _ _ h' => by cases h'
     adis := fun _ => .inr rfl }
    unfold dY A0
    refine wR (he [.ow o] [some yv] S2 H3 _ dv ⟨_, _, _, fI⟩ qe fun w S5 H5 z5 d5 => ?_)
    obtain ⟨b1, b2⟩ := z5.al D _ hy hSD
    refine ⟨ys, b1, ?_, _, by lia, rfl, hlt, S5, done ++ [dv], ys ++ [w], rest2, ?_, aO, b2, (dy.mono z5.sh).append (.cons d5 .nil), by rw [LZ, Mt]; lia, qr, by rw [Mj]; rfl⟩
    ·rw [<- dy.length]
     exact Mp (MJ hdl hlt) (Mm hlim (MB gj))
    ·have z6 := z2.trans z5
     exact ⟨z6.sh, fun b u hb => by rw [aW fun z => by subst z; rw [b2] at hb; cases hb]; exact z6.sub b u hb, fun b o hb hn => by
      obtain ⟨c1, c2⟩ := z6.al b o hb hn
      exact ⟨by rw [aW fun z => by subst z; rw [hD] at hb; cases hb]; exact c1, c2⟩⟩
noncomputable def C0 : O -> Bool
 | .lst l => decide (l.length < LIM)
 | _ => false
theorem Fa {o : O} (h : C0 o = true) : ∃ l, o = .lst l /\ l.length < LIM := by
 cases o <;> try (cases h; done)
 exact ⟨_, rfl, MI h⟩
end
end M
namespace TL
open PySem PyProof.Rows
section
variable {prog : Program} {w : World} {A : Around} {E : Value -> Shared -> Prop} {s : Shared}
theorem FE {x y : List Int} {a b : Addr} {xs ys : Array Value} {P : Fin -> Shared -> Prop} (hx : IsTup s.heap a xs) (hy : IsTup s.heap b ys) (ix : IntsAre xs.toList x) (iy : IntsAre ys.toList y) (hl : x.length = y.length) (h : P (.done (.ret (.bool (!HT.aQ y x)))) s) :
  wpAny (model prog w) A (Builtin.«tuple.__le__» ⟨[.ref a, .ref b], []⟩) P E s := by
 have hTb : s.TypeIs (.ref b) "tuple" := hy.typeIs
 obtain ⟨oa, hoa, _, na, hda⟩ := hx
 obtain ⟨ob, hob, _, nb, hdb⟩ := hy
 show wpAny _ _ (isInstance (.ref b) (.type "tuple") >>= _) _ _ s
 refine LQ (wpAny_isInstance hTb isSubtype_tuple_tuple ?_)
 simp only [Bool.not_true, Bool.false_eq_true, if_false]
 refine LQ (wpAny_tupleItemsOf hoa hda ?_)
 refine LQ (wpAny_tupleItemsOf hob hdb ?_)
 refine LQ ?_
 refine wpAny_forIn_list _
  (fun dR r s' => r.1 = none /\ s' = s /\ ∃ x' y' xs' ys', dR = List.zip xs' ys' /\ IntsAre xs' x' /\ IntsAre ys' y' /\ x'.length = y'.length /\ HT.aQ y' x' = HT.aQ y x)
  _ ?_ ?_ _ _ ⟨rfl, rfl, x, y, xs.toList, ys.toList, rfl, ix, iy, hl, rfl⟩
 ·rintro ⟨u, v⟩ dR r s' ⟨hr, rfl, x', y', xs', ys', hz, hx', hy', hlen, hlex⟩
  cases hx' with
  | nil => simp at hz
  | cons n t hx'' =>
   cases hy' with
   | nil => simp at hz
   | cons m t' hy'' =>
    simp only [MR, List.cons.injEq, Prod.mk.injEq] at hz
    obtain ⟨⟨rfl, rfl⟩, rfl⟩ := hz
    refine LQ ((intKind prog w).eqBool (a := n) (b := m) (intKind_is _ _ _ _) (intKind_is _ _ _ _) ?_)
    by_cases hk : n = m
    ·subst hk
     rw [L6 rfl]
     simp only [Bool.not_true, Bool.false_eq_true, if_false]
     refine LS ⟨rfl, rfl, _, _, _, _, rfl, hx'', hy'', by simpa using hlen, ?_⟩
     rw [<- hlex]
     show _ = (if n = n then _ else _)
     rw [LO rfl]
    ·rw [LX hk]
     simp only [Bool.not_false, if_true]
     have hf : (!HT.aQ y x) = decide (n <= m) := by
      rw [<- hlex]
      show (!(if m = n then _ else decide (m < n))) = _
      rw [LP (fun z => hk z.symm)]
      by_cases hnm : m < n
      ·rw [L6 hnm, LX (by lia)]; rfl
      ·rw [LX hnm, L6 (by lia)]; rfl
     rw [hf] at h
     refine LQ (wpAny_rule (LQ ?_))
     exact PySem.P.le_int (t := t) (u := t') (LS (LS h))
 ·rintro ⟨r1, r2⟩ s' ⟨hr, rfl, x', y', xs', ys', hz, hx', hy', hlen, hlex⟩
  simp only at hr
  subst hr
  refine LS ?_
  have e0 : HT.aQ y x = false := by
   rw [<- hlex]
   cases hx' with
   | nil =>
    cases hy' with
    | nil => rfl
    | cons _ _ _ => simp at hlen
   | cons _ _ _ =>
    cases hy' with
    | nil => simp at hlen
    | cons _ _ _ => simp at hz
  rw [e0] at h
  have e1 : decide (xs.size <= ys.size) = true := by
   have h1 := ix.length
   have h2 := iy.length
   simp at h1 h2
   exact L6 (by lia)
  show P (.done (.ret (.bool (decide (xs.size <= ys.size))))) s'
  rw [e1]
  exact h
end
end TL
namespace L2
open PySem PySem.Spec PyProof.Rows
noncomputable def IT (K : W.Frag) : R2 := fun x y H Q => ∃ a b, ∃ ns ms : List Int, x = .ref a /\ y = .ref b /\ SqT K H a (ns.map V.int) /\ SqT K H b (ms.map V.int) /\ ns.length = ms.length /\ Q (.bl (!HT.aQ ms ns)) H
section
variable {X : Cx}
theorem Hv (hu : X.A.units + 64 < cLine) : OpR X (compareOp .LtE) (IT X.K) := by
 intro pins s σ H x y v u Q I rx ry h
 obtain ⟨a, b, ns, ms, rfl, rfl, ha, hb, hl, q⟩ := h
 cases rx
 cases ry
 obtain ⟨i1, r1, p1, _⟩ := I.tuple ha
 obtain ⟨i2, r2, p2, _⟩ := I.tuple hb
 show wpAny _ _ (richCompare .LtE (.ref a) (.ref b)) _ _ s
 refine wpAny_richCompare_same_room (op := .LtE) p1.typeIs p2.typeIs F.slot_tuple_le (wpAny_call_entry F.slot_tuple_le p1.typeIs F.entry_tuple_le (TL.FE p1 p2 (by simpa using oj r1) (by simpa using oj r2) hl ⟨_, rfl, (fun z => nomatch z), ?_⟩) (F.args_tuple_le_2 _ _)) (by lia)
 exact ⟨.bl _, H, I, rfl, q⟩
end
end L2
namespace M
open PySem L2
section
variable {K : W.Frag}
noncomputable def Au : D -> D -> Option D
 | .tup a, .tup b => (bg a).bind fun ns => (bg b).bind fun ms => if ns.length = ms.length then some (.bl (!HT.aQ ms ns)) else none
 | _, _ => none
theorem HW : SR2 K (IT K) Au := fun S H x y d e z Q s dx dy q k => by
 cases d <;> try (cases q; done)
 cases e <;> try (cases q; done)
 rename_i la lb
 change ((bg la).bind fun ns => (bg lb).bind fun ms => if ns.length = ms.length then some (D.bl (!HT.aQ ms ns)) else none) = some z at q
 cases q1 : bg la with
 | none => rw [q1] at q; cases q
 | some ns =>
  rw [q1] at q
  dsimp only [Option.bind] at q
  cases q2 : bg lb with
  | none => rw [q2] at q; cases q
  | some ms =>
   rw [q2] at q
   dsimp only at q
   split at q <;> try (cases q; done)
   rename_i hl
   cases q
   obtain ⟨a, xs, rfl, h1, h2⟩ := dx.tup s
   obtain ⟨b, ys, rfl, h3, h4⟩ := dy.tup s
   obtain ⟨rfl, _⟩ := dg h2 q1
   obtain ⟨rfl, _⟩ := dg h4 q2
   exact ⟨a, b, ns, ms, rfl, rfl, h1, h3, hl, k _ S H (Ext.refl s) (den_bl.mpr rfl)⟩
end
end M
namespace L2
open PySem PySem.Spec PyProof.Rows
theorem G7 : bootBuiltins "any" = some (.builtin "any") := by decide +kernel
noncomputable def IL (K : W.Frag) : List V -> Hp -> VK -> Prop := fun xs H Q => ∃ p, ∃ bs : List Bool, xs = [.ref p] /\ SqL K H p (bs.map V.bl) /\ Q (.bl (bs.any id)) H
section
variable {X : Cx}
theorem B6 (bs : List Bool) : (List.range bs.length).any (fun i => bs.getD i true) = bs.any id := by
 rw [Bool.eq_iff_iff, List.any_eq_true, List.any_eq_true]
 constructor
 ·rintro ⟨i, hi, h⟩
  have hi := MA.mp hi
  exact ⟨bs[i], List.getElem_mem hi, by simpa [hi] using h⟩
 ·rintro ⟨b, hb, h⟩
  obtain ⟨i, hi, rfl⟩ := List.getElem_of_mem hb
  exact ⟨i, MA.mpr hi, by simpa [hi] using h⟩
theorem BR (hc : X.calm = true) : CallR X (.builtin "any") (IL X.K) := by
 intro pins s σ H xs us Q I r h
 obtain ⟨p, bs, rfl, hS, q⟩ := h
 obtain ⟨u, rfl, ru⟩ := r.one
 cases ru
 obtain ⟨its, rv, pl, hz⟩ := I.list hS
 have hl := pl.isList
 have hlen : bs.length = its.length := by have := rv.length; simpa using this
 refine call_any_walk (wpAny_pyIter_list hl ?_)
 have hne : p ≠ s.heap.objs.size := Mi pl.lt
 refine ⟨_, _, _, _, _, _, fun i => bs.getD i true, rfl, Walks.list (A := X.A.in1) (I.ok.hd hc) _ p hne its.toArray, ⟨⟨_, Mu _ rfl, rfl, rfl⟩, hl.push _⟩, ?_, ?_⟩
 ·intro i v s' Q' E' hv hQ
  have hv : its[i]? = some v := by simpa using hv
  have hi : i < bs.length := by
   rw [hlen]
   exact (LW.mp hv).1
  obtain ⟨u, hu, ru⟩ := rv.get (i := i) (x := .bl (bs[i])) (by simp [hi])
  rw [hu] at hv
  cases hv
  cases ru
  have e : bs.getD i true = bs[i] := by simp [hi]
  dsimp only at hQ
  rw [e] at hQ
  exact wpAny_truthy_bool hQ
 ·intro h' tk hk
  rw [L8, <- hlen, B6]
  exact ⟨.bl _, H, I.kept (old_kept hk), rfl, q⟩
end
end L2
namespace M
open PySem L2
section
variable {K : W.Frag}
noncomputable def yC : List D -> Option D
 | [.lst l] => (gr l).map fun bs => .bl (bs.any id)
 | _ => none
theorem IJ : SRB K (IL K) yC := fun S H vs ds g Q s h x k => by
 unfold yC at x
 split at x
 ·rename_i l
  obtain ⟨v, rfl, d1⟩ := fG h
  cases q : gr l with
  | none => rw [q] at x; cases x
  | some bs =>
   rw [q] at x
   cases x
   obtain ⟨p, xs, rfl, h1, h2⟩ := d1.lst s
   have e := ss q
   subst e
   have e := yK h2
   subst e
   exact ⟨p, bs, rfl, .inl h1, k _ S H (Ext.refl s) (den_bl.mpr rfl)⟩
 ·cases x
end
end M
namespace TL
open PySem PyProof.Rows
def Kp (h0 h : Heap) : Prop := ∀ b o, h0.get? b = some o -> h.get? b = some o
section
variable {prog : Program} {w : World} {A : Around} {R : Result -> Shared -> Prop} {I : Addr} {fp wr : List Addr} {n : Nat} {P : Nat -> Value -> Prop} {St : Nat -> Heap -> Prop} {h0 : Heap}
theorem B8 (W : Walks prog w A.in1 I fp wr n P St) (bt : Nat -> Nat -> Bool)
  (hcmp : ∀ i j vi vj (s : Shared) (Q : Value -> Shared -> Prop) (E : Value -> Shared -> Prop), P i vi -> P j vj -> Kp h0 s.heap -> Q (.bool (bt i j)) s -> wpAny (model prog w) A.in1 (richCompare .Lt vi vj) Q E s)
  (S : Addr) (hSf : S ∉ fp) (hS0 : h0.get? S = none) (hw0 : ∀ b ∈ wr, h0.get? b = none) :
  ∀ (k j : Nat) (s : Shared) (vb : Value) (c : Nat), n - (j + 1) = k -> j + 1 <= n -> St (j + 1) s.heap -> P (argBest bt j) vb -> Kp h0 s.heap ->
  s.heap.get? S = some { cls := .type "list", dict := none, data := .seq #[vb, vb] c, slots := #[] } ->
  (∀ v h' tk, P (argBest bt (n - 1)) v -> Kp h0 h' -> R (.ok (.ret v)) { s with heap := h', toks := tk }) ->
  codeAny (model prog w) A (.builtin "min.loop" ⟨[.ref I, .none, .ref S], []⟩) R s := by
 have hSw : S ∉ wr := fun h => hSf (W.sub _ h)
 have old : ∀ {h h' : Heap}, Kp h0 h -> (∀ b o, b ∉ wr -> h.get? b = some o -> h'.get? b = some o) -> Kp h0 h' := fun hk hk' b o e => hk' b o (fun z => by rw [hw0 b z] at e; cases e) (hk b o e)
 have up : ∀ {h : Heap} (f : Obj -> Obj), Kp h0 h -> Kp h0 (h.update S f) := fun f hk b o e => (MW _ _ (fun z => by rw [<- z, hS0] at e; cases e)).trans (hk b o e)
 intro k
 induction k with
 | zero =>
  intro j s vb c hk hj hst hPb hkp hS hR
  have hin : j + 1 = n := by lia
  refine codeAny_builtin PySem.F.entry_min_loop ?_
  rw [Around.under_plainId PySem.F.plain_min_loop _]
  show wpAny _ A.in1 (seqItems? (.ref S) >>= _) _ _ s
  refine LQ (wpAny_seqItems hS rfl ?_)
  show wpAny _ A.in1 (tryCatch (pyNext (.ref I)) _ >>= _) _ _ s
  refine LQ (wpAny_tryCatch (W.done s _ _ (hin ▸ hst) fun h' tk hk' => ?_))
  show wpAny _ A.in1 (updateSeq S (fun _ => #[]) >>= _) _ _ _
  refine LQ ?_
  refine wpAny_updateSeq (hk' S _ hSw hS) rfl (LQ (wpAny_letGo (LS ?_)))
  exact hR vb _ tk (by rw [<- hin]; exact hPb) (up _ (old hkp hk'))
 | succ k ih =>
  intro j s vb c hk hj hst hPb hkp hS hR
  have hlt : j + 1 < n := by lia
  refine codeAny_builtin PySem.F.entry_min_loop ?_
  rw [Around.under_plainId PySem.F.plain_min_loop _]
  show wpAny _ A.in1 (seqItems? (.ref S) >>= _) _ _ s
  refine LQ (wpAny_seqItems hS rfl ?_)
  show wpAny _ A.in1 (tryCatch (pyNext (.ref I)) _ >>= _) _ _ s
  refine LQ (wpAny_tryCatch (W.item (j + 1) s _ _ hlt hst fun v h' tk hP hst' hk' => ?_))
  have hS' := hk' S _ hSw hS
  have hkp' := old hkp hk'
  show wpAny _ A.in1 (tryCatch (holding [v, v] (richCompare .Lt v vb >>= _)) _ >>= _) _ _ _
  refine LQ (wpAny_tryCatch (My (LQ (hcmp (j + 1) (argBest bt j) v vb _ _ _ hP hPb hkp' ?_))))
  refine LQ (My (wpAny_truthy_bool ?_))
  refine LQ (wpAny_letGo (LS ?_))
  cases hb : bt (j + 1) (argBest bt j) with
  | true =>
   simp only [if_true]
   refine LQ ?_
   refine wpAny_updateSeq hS' rfl (LQ (wpAny_letGo ?_))
   refine LS ⟨plainId_quiet PySem.F.plain_min_loop _, ih (j + 1) _ v _ (by lia) hlt (W.frame _ _ _ hst' fun b hbf o e => ?_) (by simp only [argBest, hb, if_true]; exact hP) (up _ hkp') (Heap.get?_update_self _ hS' rfl) fun v' h'' tk'' hP' hk'' => hR v' h'' tk'' hP' hk''⟩
   exact (MW _ _ (fun h : S = b => hSf (by rw [h]; exact hbf))).trans e
  | false =>
   simp only [Bool.false_eq_true, if_false]
   refine LQ (wpAny_letGo ?_)
   exact LS ⟨plainId_quiet PySem.F.plain_min_loop _, ih (j + 1) _ vb c (by lia) hlt hst' (by simp only [argBest, hb, Bool.false_eq_true, if_false]; exact hPb) hkp' hS' fun v' h'' tk'' hP' hk'' => hR v' h'' tk'' hP' hk''⟩
theorem AK (W : Walks prog w A.in1 I fp wr n P St) (bt : Nat -> Nat -> Bool)
  (hcmp : ∀ i j vi vj (s : Shared) (Q : Value -> Shared -> Prop) (E : Value -> Shared -> Prop), P i vi -> P j vj -> Kp h0 s.heap -> Q (.bool (bt i j)) s -> wpAny (model prog w) A.in1 (richCompare .Lt vi vj) Q E s)
  (S : Addr) (hSf : S ∉ fp) (hS0 : h0.get? S = none) (hw0 : ∀ b ∈ wr, h0.get? b = none) (hn : 0 < n) {s : Shared} {c : Nat} (hst : St 0 s.heap) (hkp : Kp h0 s.heap)
  (hS : s.heap.get? S = some { cls := .type "list", dict := none, data := .seq #[] c, slots := #[] })
  (hR : ∀ v h' tk, P (argBest bt (n - 1)) v -> Kp h0 h' -> R (.ok (.ret v)) { s with heap := h', toks := tk }) :
  codeAny (model prog w) A (.builtin "min.loop" ⟨[.ref I, .none, .ref S], []⟩) R s := by
 have hSw : S ∉ wr := fun h => hSf (W.sub _ h)
 refine codeAny_builtin PySem.F.entry_min_loop ?_
 rw [Around.under_plainId PySem.F.plain_min_loop _]
 show wpAny _ A.in1 (seqItems? (.ref S) >>= _) _ _ s
 refine LQ (wpAny_seqItems hS rfl ?_)
 show wpAny _ A.in1 (tryCatch (pyNext (.ref I)) _ >>= _) _ _ s
 refine LQ (wpAny_tryCatch (W.item 0 s _ _ hn hst fun v h' tk hP hst' hk' => ?_))
 have hS' := hk' S _ hSw hS
 have hkp' : Kp h0 h' := fun b o e => hk' b o (fun z => by rw [hw0 b z] at e; cases e) (hkp b o e)
 show wpAny _ A.in1 (updateSeq S (fun _ => #[v, v]) >>= _) _ _ _
 refine LQ ?_
 refine wpAny_updateSeq hS' rfl ?_
 refine LS ⟨plainId_quiet PySem.F.plain_min_loop _, B8 W bt hcmp S hSf hS0 hw0 _ 0 _ v _ rfl hn (W.frame _ _ _ hst' fun b hbf o e => ?_) hP (fun b o e => (MW _ _ (fun z => by rw [<- z, hS0] at e; cases e)).trans (hkp' b o e)) (Heap.get?_update_self _ hS' rfl) fun v' h'' tk'' hP' hk'' => hR v' h'' tk'' hP' hk''⟩
 exact (MW _ _ (fun h : S = b => hSf (by rw [h]; exact hbf))).trans e
end
section
variable {prog : Program} {w : World} {A : Around} {E : Value -> Shared -> Prop} {s : Shared}
theorem DA {l : Addr} {vs : List Value} {bt : Nat -> Nat -> Bool} {Q : Value -> Shared -> Prop} (hh : A.handled = none) (hl : s.heap.IsList l vs.toArray) (hlt : l < s.heap.objs.size) (hne : 0 < vs.length)
  (hcmp : ∀ i j vi vj (s' : Shared) (Q : Value -> Shared -> Prop) (E : Value -> Shared -> Prop), vs[i]? = some vi -> vs[j]? = some vj -> Kp s.heap s'.heap -> Q (.bool (bt i j)) s' -> wpAny (model prog w) A.in1 (richCompare .Lt vi vj) Q E s')
  (h : ∀ v h' tk, vs[argBest bt (vs.length - 1)]? = some v -> Kp s.heap h' -> Q v { s with heap := h', toks := tk }) : wpAny (model prog w) A (call (.builtin "min") [.ref l]) Q E s := by
 refine call_function_tree PySem.F.kind_min PySem.F.plain_min PySem.F.entry_min (PySem.F.args_min1 _) ?_
 show wpAny _ A.in1 (Builtin.Builtins.bindParams "min" ["key", "default"] 0 ⟨[], []⟩ >>= _) _ _ s
 refine LQ (wpAny_of_eq (show Builtin.Builtins.bindParams "min" ["key", "default"] 0 ⟨[], []⟩ = pure [none, none] from rfl) ?_)
 refine LQ (LS ?_)
 refine LQ (wpAny_pyIter_list hl ?_)
 refine LQ (MS ?_)
 have hsz : (s.heap.push { cls := Value.type "list_iterator", data := Data.fields #[Value.ref l, Value.int 0 0] }).objs.size = s.heap.objs.size + 1 := Heap.size_push ..
 have fresh : ∀ a, s.heap.objs.size <= a -> s.heap.get? a = none := fun a ha => by
  cases e : s.heap.get? a with
  | none => rfl
  | some o => exact absurd (L5 e) (Nat.not_lt.mpr ha)
 have W := Walks.list (prog := prog) (w := w) (A := A.in1) hh s.heap.objs.size l (Mi hlt) vs.toArray
 refine LS ⟨plainId_quiet PySem.F.plain_min_loop _, AK (h0 := s.heap) W bt (fun i j vi vj s' Q E hi hj hk hq => hcmp i j vi vj s' Q E (by simpa using hi) (by simpa using hj) hk hq) _ (fun hm => ?_) (fresh _ (by rw [hsz]; lia)) (fun b hb => ?_) (by simpa using hne) (W.frame 0 _ _ ⟨⟨_, Mu _ rfl, rfl, rfl⟩, hl.push _⟩ fun b _ o e => Mg _ e) (fun b o e => Mg _ (Mg _ e)) (Mu _ rfl) fun v h' tk hP hk => ?_⟩
 ·rw [hsz] at hm
  rcases L9.mp hm with e | hm
  ·exact Nat.succ_ne_self _ e
  ·rw [L4] at hm
   rw [<- hm] at hlt
   exact absurd hlt (Nat.not_lt.mpr (Nat.le_succ _))
 ·rw [L4] at hb
  exact fresh _ (Nat.le_of_eq hb.symm)
 ·exact h v h' tk (by simpa using hP) hk
end
end TL
namespace L2
open PySem PySem.Spec PyProof.Rows
noncomputable def Gb (K : W.Frag) : List V -> Hp -> VK -> Prop := fun xs H Q => ∃ p vs, ∃ ts : List (List Int), xs = [.ref p] /\ SqL K H p vs /\ (∀ (i : Nat) v, vs[i]? = some v -> ∃ a, v = .ref a /\ SqT K H a ((ts.getD i []).map V.int)) /\ ∃ v, vs[argBest (fun i j => HT.aQ (ts.getD i []) (ts.getD j [])) (vs.length - 1)]? = some v /\ Q v H
section
variable {X : Cx}
theorem F4 (hu : X.A.units + 64 < cLine) : OpR X (compareOp .Lt) (Ha X.K) := Hb (by lia)
theorem BW (hc : X.calm = true) (hu : X.A.units + 64 < cLine) : CallR X (.builtin "min") (Gb X.K) := by
 intro pins s σ H xs us Q I r h
 obtain ⟨p, vs, ts, rfl, hS, hT, v, hv, q⟩ := h
 obtain ⟨u, rfl, ru⟩ := r.one
 cases ru
 obtain ⟨its, rv, pl, hz⟩ := I.list hS
 have hlen := rv.length
 have hne : 0 < vs.length := MJ (Mr _) (LW.mp hv).1
 refine TL.DA (bt := fun i j => HT.aQ (ts.getD i []) (ts.getD j [])) (I.ok.hd hc) pl.isList pl.lt (by lia) (fun i j vi vj s' Q' E' hi hj hk hq => ?_) fun v' h' tk hP hk => ?_
 ·have tup : ∀ (i : Nat) vi, its[i]? = some vi -> ∃ (a : Addr) (ix : Array Value), vi = .ref a /\ IsTup s'.heap a ix /\ IntsAre ix.toList (ts.getD i []) := fun i vi hi => by
   have hi' : i < vs.length := by have := (LW.mp hi).1; lia
   obtain ⟨a, ea, ha⟩ := hT i _ (Mf hi')
   obtain ⟨w', hw, rw'⟩ := rv.get (Mf hi')
   rw [ea] at rw'
   cases rw'
   rw [hi] at hw
   cases hw
   obtain ⟨i1, r1, p1, _⟩ := I.tuple ha
   refine ⟨a, i1.toArray, rfl, ?_, by simpa using oj r1⟩
   obtain ⟨o, e1, e2⟩ := p1
   exact ⟨o, hk _ _ e1, e2⟩
  obtain ⟨a, ix, rfl, t1, t2⟩ := tup i vi hi
  obtain ⟨b, iy, rfl, t3, t4⟩ := tup j vj hj
  exact HT.t7 t1 t3 t2 t4 (show X.A.units + 1 < cLine by lia) hq
 ·rw [<- hlen] at hP
  obtain ⟨w', hw, rw'⟩ := rv.get hv
  rw [hw] at hP
  cases hP
  exact ⟨v, H, I.kept hk, rw', q⟩
end
end L2
namespace M
open PySem L2
section
variable {K : W.Frag}
noncomputable def D3 : D -> D -> Option D
 | .tup a, .tup b => (bg a).bind fun ns => (bg b).bind fun ms => some (.bl (HT.aQ ns ms))
 | _, _ => none
theorem IY : SR2 K (Ha K) D3 := fun S H x y d e z Q s dx dy q k => by
 cases d <;> try (cases q; done)
 cases e <;> try (cases q; done)
 rename_i la lb
 change ((bg la).bind fun ns => (bg lb).bind fun ms => some (D.bl (HT.aQ ns ms))) = some z at q
 cases q1 : bg la with
 | none => rw [q1] at q; cases q
 | some ns =>
  rw [q1] at q
  dsimp only [Option.bind] at q
  cases q2 : bg lb with
  | none => rw [q2] at q; cases q
  | some ms =>
   rw [q2] at q
   cases q
   obtain ⟨a, xs, rfl, h1, h2⟩ := dx.tup s
   obtain ⟨b, ys, rfl, h3, h4⟩ := dy.tup s
   obtain ⟨rfl, _⟩ := dg h2 q1
   obtain ⟨rfl, _⟩ := dg h4 q2
   exact ⟨a, b, ns, ms, rfl, rfl, h1, h3, k _ S H (Ext.refl s) (den_bl.mpr rfl)⟩
noncomputable def jv : List D -> Option (List (List Int))
 | [] => some []
 | .tup a :: l => (bg a).bind fun n => (jv l).map fun r => n :: r
 | _ => none
theorem vc : ∀ {l : List D} {ts : List (List Int)} {i : Nat} {d : D}, jv l = some ts -> l[i]? = some d -> ∃ a, d = .tup a /\ bg a = some (ts.getD i [])
 | [], _, _, _, _, e => by simp at e
 | x :: l, ts, i, d, q, e => by
  cases x <;> try (cases q; done)
  rename_i a
  change ((bg a).bind fun n => (jv l).map fun r => n :: r) = some ts at q
  cases q1 : bg a with
  | none => rw [q1] at q; cases q
  | some n =>
   rw [q1] at q
   dsimp only [Option.bind] at q
   cases q2 : jv l with
   | none => rw [q2] at q; cases q
   | some r =>
    rw [q2] at q
    cases q
    cases i with
    | zero =>
     cases e
     exact ⟨a, rfl, by rw [q1]; rfl⟩
    | succ i =>
     rw [M0] at e
     obtain ⟨b, e1, e2⟩ := vc q2 e
     exact ⟨b, e1, by rw [e2]; rfl⟩
noncomputable def se : List D -> Option D
 | [.lst l] => (jv l).bind fun ts => l[argBest (fun i j => HT.aQ (ts.getD i []) (ts.getD j [])) (l.length - 1)]?
 | _ => none
theorem GQ : SRB K (Gb K) se := fun S H vs ds g Q s d q k => by
 unfold se at q
 split at q
 ·rename_i l
  cases qi : jv l with
  | none => rw [qi] at q; cases q
  | some ts =>
   rw [qi] at q
   dsimp only [Option.bind] at q
   obtain ⟨v, rfl, d1⟩ := fG d
   obtain ⟨p, xs, rfl, h1, h2⟩ := d1.lst s
   obtain ⟨v, e1, e2⟩ := h2.get q
   refine ⟨p, xs, ts, rfl, .inl h1, fun i v hv => ?_, v, by rw [<- h2.length]; exact e1, k v S H (Ext.refl s) e2⟩
   obtain ⟨d', f1, f2⟩ := h2.get' hv
   obtain ⟨a, rfl, f3⟩ := vc qi f1
   obtain ⟨b, ys, rfl, g1, g2⟩ := DenP.tup s (Den.p f2)
   obtain ⟨rfl, _⟩ := dg g2 f3
   exact ⟨b, rfl, g1⟩
 ·cases q
end
section
variable {K : W.Frag} {S S' H H' : Hp}
theorem uM : ∀ {l : List O} {xs : List V} {f g : List Addr} {o : O} {y : V}, Owns K S H l xs f -> Own K S H o y g -> Owns K S H (l ++ [o]) (xs ++ [y]) (f ++ g)
 | [], _, _, g, _, _, h, k => by
  rw [h.nil_of.1, h.nil_of.2]
  have := Owns.cons k (Owns.nil (K := K) (S := S) (H := H))
  rw [Mv] at this
  exact this
 | _ :: _, _, _, _, _, _, h, k => by
  obtain ⟨y, ys, f, g, rfl, rfl, a, b⟩ := h.cons_of
  rw [Mj]
  exact .cons a (uM b k)
theorem Fc {ρ : Env} {σ : St} (r : Rl K ρ σ S H) (js : List (Option Nat)) : RlF K (fun _ => none) (fun _ => none) (fun _ => []) (mB js ρ) (inn js σ) S H := by
 obtain ⟨Φ, g⟩ := EA r js
 exact {
  len := g.len
  sub := g.sub
  sh := g.sh
  ow := fun i o h => by
   rcases gc h with e | ⟨d', j, e, h1, h2⟩
   ·cases e
   ·cases e
  dj := fun i j o o' _ h => by
   rcases gc h with e | ⟨d', j, e, h1, h2⟩
   ·cases e
   ·cases e
  lo := fun i h => by
   rcases gc h with e | ⟨d', j, e, h1, h2⟩
   ·cases e
   ·cases e
  asub := fun _ _ h => by cases h
  adis := fun _ => .inr rfl }
noncomputable def nP (c : XT) (ρ : Env) : List O -> Option (List O)
 | [] => some []
 | o :: os => (c (ρ.set 0 (.ow o))).bind fun b => (nP c ρ os).map fun r => if b = true then o :: r else r
noncomputable def EW (js : List (Option Nat)) (i : Nat) (c : XT) : XS := fun ρ => match ρ[i]? with
 | some (.ow (.lst os)) => if os.length <= LIM /\ 0 < js.length then (nP c (mB js ρ) os).map fun r => .ro (.lst r) else none
 | _ => none
theorem Hc {js : List (Option Nat)} {i : Nat} {tc : TT} {c : XT} (hc : ST K tc c) : SS K (CG (uW js (rN K (iY i)) (dY 0) tc (iY 0))) (EW js i c) := fun A Λ ρ σ S H E out r y k => by
 unfold EW at y
 split at y <;> try (cases y; done)
 rename_i os q0
 split at y <;> try (cases y; done)
 rename_i hcond
 obtain ⟨hlim, hjs⟩ := hcond
 cases qf : nP c (mB js ρ) os with
 | none => rw [qf] at y; cases y
 | some l =>
  rw [qf] at y
  cases y
  have rr := r
  obtain ⟨Φ, f⟩ := r
  obtain ⟨v, ev, ow, nd, n⟩ := f.ow i _ q0
  obtain ⟨a, xs, f0, rfl, efp, hx, hw⟩ := own_lst.mp ow
  have hlen := ie hw
  have there := hw.there
  have inF : ∀ b ∈ f0, b ∈ Φ i := fun b hb => by rw [efp]; exact LY _ hb
  have nf : f0.Nodup := by rw [efp] at nd; exact (Mq.mp nd).2
  show uW js (rN K (iY i)) (dY 0) tc (iY 0) σ H E.rt
  refine ⟨_, ev, a, rfl, .inl ⟨⟨xs, SqL.of hx⟩, fun D hD => ?_⟩⟩
  refine ⟨fun i0 n H' => n = os.length - i0 /\ i0 <= os.length /\ ∃ S' don ys dR fd fr, Ext S H S' H' /\ H' D = some (.lst ys) /\ S' D = none /\ Owns K S H don ys fd /\ don.length <= i0 /\ nP c (mB js ρ) (os.drop i0) = some dR /\ l = don ++ dR /\ Owns K S H (os.drop i0) (xs.drop i0) fr /\ (fd ++ fr).Sublist f0,
   ⟨_, rfl, Mr _, S, [], [], l, [], f0, Ext.own f.sub hD, aO, f.sub.free hD, .nil, Mr _, qf, rfl, hw, List.Sublist.refl _⟩, ?_⟩
  rintro i0 m0 H2 ⟨rfl, hil, S2, don, ys, dR, fd, fr, z2, hy, hSD, dy, hdl, y2, rfl, hfr, hsub⟩
  have f2 := f.ext z2
  obtain ⟨kp1, kp2⟩ := z2.keeps (fp := f0) (fun b hb => (n b (inF b hb)).1) there
  obtain ⟨v2, ev2, ow2, nd2, n2⟩ := f2.ow i _ q0
  obtain ⟨a2, xs2, f02, rfl, efp2, hx2, hw2⟩ := own_lst.mp ow2
  have ea : a2 = a := by rw [efp] at efp2; exact (List.cons.inj efp2).1.symm
  subst ea
  have hxx : xs2 = xs := by
   have := (z2.al a2 _ hx (n a2 (by rw [efp]; exact LV)).1).1
   rw [this] at hx2
   cases hx2
   rfl
  subst hxx
  cases qd : os[i0]? with
  | none =>
   have : os.length = i0 := by have := MV.mp qd; lia
   subst this
   rw [MU (LU _)] at y2
   cases y2
   rw [Mv] at k
   have sb : ∀ b ∈ fd, b ∈ f0 := fun b hb => hsub.subset (Me _ hb)
   refine .inl ⟨⟨xs2, SqL.of hx2, by lia⟩, k (.ref D) (D :: fd) S2 H2 z2.sh z2.sub f2.asub f2.adis (own_lst.mpr ⟨D, ys, fd, rfl, rfl, hy, Owns.mono z2.sh (fun b hb => kp1 b (sb b hb)) dy⟩) (Mq.mpr ⟨fun hb => there D (sb D hb) hD, (nf.sublist hsub).sublist (List.sublist_append_left _ _)⟩) fun b hb => ?_⟩
   rcases L9.mp hb with rfl | hb
   ·exact ⟨hSD, f.asub.free hD⟩
   ·exact ⟨kp2 b (sb b hb), (n b (inF b (sb b hb))).2⟩
  | some o =>
   have hlt := (LW.mp qd).1
   rw [jV qd] at y2 hfr
   obtain ⟨yv, yr, fn, g, exs, rfl, o1, hg⟩ := hfr.cons_of
   have e1 : xs2[i0]? = some yv := by
    have := congrArg (fun l => l[0]?) exs
    simpa using this
   have exr : xs2.drop (i0 + 1) = yr := by
    have := congrArg (fun l => l.drop 1) exs
    simpa using this
   have sbn : ∀ b ∈ fn, b ∈ f0 := fun b hb => hsub.subset (L0 _ (Me _ hb))
   unfold nP at y2
   cases qc : c ((mB js ρ).set 0 (.ow o)) with
   | none => rw [qc] at y2; cases y2
   | some b =>
    rw [qc] at y2
    dsimp only [Option.bind] at y2
    cases qr : nP c (mB js ρ) (os.drop (i0 + 1)) with
    | none => rw [qr] at y2; cases y2
    | some rest2 =>
     rw [qr] at y2
     cases y2
     refine .inr ⟨⟨xs2, yv, SqL.of hx2, e1⟩, fun xv H3 hyl => ?_⟩
     obtain ⟨rfl, hy2⟩ := hyl
     have exv := hy2 xs2 (SqL.of hx2)
     rw [e1] at exv
     cases exv
     have fI := Fc (show Rl K ρ σ S2 H3 from ⟨A, Λ, Φ, f2⟩) js
     have hl0 : 0 < (inn js σ).length := by unfold inn; rw [LR]; exact hjs
     have fT := fI.put 0 f2.sub (fun _ _ h' => by cases h') (o1.mono z2.sh fun b hb => kp1 b (sbn b hb)) ((nf.sublist hsub).sublist ((List.sublist_append_left fn g).trans (List.sublist_append_right _ _))) (fun b hb => ⟨kp2 b (sbn b hb), rfl⟩) (fun k' o' hk ho => by
      rcases gc ho with e | ⟨d', j, e, _, _⟩
      ·cases e
      ·cases e)
     show tc ((inn js σ).set 0 (some yv)) H3 _
     refine hc _ _ S2 H3 _ b ⟨_, _, _, fT⟩ qc fun S4 H4 z4 => ?_
     obtain ⟨al1, al2⟩ := z4.al D _ hy hSD
     have hdr : Owns K S H (os.drop (i0 + 1)) (xs2.drop (i0 + 1)) g := by rw [exr]; exact hg
     cases b with
     | false =>
      refine x5 ⟨_, by lia, rfl, hlt, S4, don, ys, rest2, fd, g, z2.trans z4, al1, al2, dy, by lia, qr, rfl, hdr, List.Sublist.trans (List.Sublist.append (List.Sublist.refl _) (List.sublist_append_right _ _)) hsub⟩
     | true =>
      refine wR ⟨yv, MK hl0, ys, al1, ?_, _, by lia, rfl, hlt, S4, don ++ [o], ys ++ [yv], rest2, fd ++ fn, g, ?_, aO, al2, uM dy o1, by rw [LZ, Mt]; lia, qr, by rw [Mj]; rfl, hdr, by rw [Mj]; exact hsub⟩
      ·rw [<- ie dy]
       exact Mp (MJ hdl hlt) (Mm hlim (MB gj))
      ·have z6 := z2.trans z4
       exact ⟨z6.sh, fun b u hb => by rw [aW fun z => by subst z; rw [al2] at hb; cases hb]; exact z6.sub b u hb, fun b o hb hn => by
        obtain ⟨c1, c2⟩ := z6.al b o hb hn
        exact ⟨by rw [aW fun z => by subst z; rw [hD] at hb; cases hb]; exact c1, c2⟩⟩
noncomputable def rE (i j : Nat) : XS := fun ρ => match ρ[i]? with
 | some (.ow (.lst os)) => if i ≠ j /\ j < ρ.length /\ os.all C0 = true /\ os.length < LIM then some (.nx ((ρ.set i .un).set j .un)) else none
 | _ => none
theorem El {i j : Nat} {tb ta u : TS} {m : XS} (hb : ∀ (E : Ends) (σ : St) (H : Hp) p zs, σ[j]? = some (some (V.ref p)) -> H p = some (.lst zs) -> zs.length < LIM -> (∀ o, E.nx σ (upd H p o)) -> tb E σ H) (ha : ∀ (E : Ends) (σ : St) (H : Hp) p zs, σ[i]? = some (some (V.ref p)) -> H p = some (.lst zs) -> zs.length < LIM -> (∀ o, E.nx σ (upd H p o)) -> ta E σ H) (hu : SS K u m) : SS K (wx (Cy (rN K (iY i)) (dY j) tb) (wx ta u)) (aX (rE i j) m) := fun A Λ ρ σ S H E out r q k => by
 unfold aX rE at q
 cases q0 : ρ[i]? with
 | none => rw [q0] at q; cases q
 | some s0 =>
  rw [q0] at q
  cases s0 <;> try (cases q; done)
  rename_i o0
  cases o0 <;> try (cases q; done)
  rename_i os
  dsimp only at q
  by_cases hc : i ≠ j /\ j < ρ.length /\ os.all C0 = true /\ os.length < LIM
  ·rw [LO hc] at q
   dsimp only at q
   obtain ⟨hij, hjr, hls, hos⟩ := hc
   obtain ⟨Φ, f⟩ := r
   obtain ⟨v, ev, ow, nd, n⟩ := f.ow i _ q0
   obtain ⟨a, xs, f0, rfl, efp, hx, hw⟩ := own_lst.mp ow
   have hlen := ie hw
   have nd' := nd
   rw [efp] at nd'
   obtain ⟨na, nf⟩ := Mq.mp nd'
   have root : ∀ (k : Nat) o, os[k]? = some o -> ∃ p zs, xs[k]? = some (.ref p) /\ H p = some (.lst zs) /\ zs.length < LIM /\ p ∈ f0 /\ ∃ l, o = .lst l := fun k o e => by
    obtain ⟨l, rfl, hl⟩ := Fa (List.all_eq_true.mp hls o (ML e))
    obtain ⟨y, fn, h1, h2, h3, _⟩ := nY hw e
    obtain ⟨p, zs, f', rfl, rfl, h4, h5⟩ := sU h2
    exact ⟨p, zs, h1, h4, by lia, h3 p LV, l, rfl⟩
   have rootA : ∀ (k : Nat), xs[k]? ≠ some (.ref a) := fun k e => by
    have hk : k < os.length := by have := (LW.mp e).1; lia
    obtain ⟨p, zs, h1, _, _, h4, _⟩ := root k _ (Mf hk)
    rw [h1] at e
    cases e
    exact na h4
   show Cy (rN K (iY i)) (dY j) tb { E with nx := wx ta u E } σ H
   refine ⟨_, ev, a, rfl, .inl ⟨⟨xs, SqL.of hx⟩, ?_⟩⟩
   refine ⟨fun n0 m0 σ' H' => m0 = os.length - n0 /\ n0 <= os.length /\ σ'.length = σ.length /\ (∀ k, k ≠ j -> σ'[k]? = σ[k]?) /\ ∀ b, (∀ k, k < n0 -> xs[k]? ≠ some (.ref b)) -> H' b = H b,
    ⟨_, rfl, Mr _, rfl, fun _ _ => rfl, fun _ _ => rfl⟩, ?_⟩
   rintro n0 m0 σ2 H2 ⟨rfl, hil, hsl, hsk, hH⟩
   have ha2 : H2 a = some (.lst xs) := by rw [hH a fun k _ => rootA k]; exact hx
   cases qd : os[n0]? with
   | none =>
    have : os.length = n0 := by have := MV.mp qd; lia
    subst this
    refine .inl ⟨⟨xs, SqL.of ha2, by lia⟩, ?_⟩
    refine ha _ σ2 H2 a xs (by rw [hsk i hij]; exact ev) ha2 (by lia) fun oo => ?_
    have far : ∀ b, b ∉ Φ i -> upd H2 a oo b = H b := fun b hb => by
     rw [aW fun z => hb (by rw [z, efp]; exact LV)]
     refine hH b fun k hk e => ?_
     obtain ⟨p, zs, h1, _, _, h4, _⟩ := root k _ (Mf hk)
     rw [h1] at e
     cases e
     exact hb (by rw [efp]; exact LY _ h4)
    have farS : ∀ b o, S b = some o -> b ∉ Φ i := fun b o e hb => by have := (n b hb).1; rw [e] at this; cases this
    have farA : ∀ b o, A b = some o -> b ∉ Φ i := fun b o e hb => by have := (n b hb).2; rw [e] at this; cases this
    refine hu A Λ _ σ2 S _ E out ⟨Φ, ?_⟩ q k
    exact {
     len := by rw [MC, MC, hsl]; exact f.len
     sub := fun b o e => by rw [far b (farS b o e)]; exact f.sub b o e
     sh := fun k' d' h' => by
      rcases bm h' with ⟨_, e, _⟩ | ⟨hjk, h'⟩
      ·cases e
      ·rcases bm h' with ⟨_, e, _⟩ | ⟨_, h'⟩
       ·cases e
       ·rw [hsk k' (Ma hjk)]; exact f.sh k' d' h'
     ow := fun k' o' h' => by
      rcases bm h' with ⟨_, e, _⟩ | ⟨hjk, h'⟩
      ·cases e
      ·rcases bm h' with ⟨_, e, _⟩ | ⟨hik, h'⟩
       ·cases e
       ·rw [hsk k' (Ma hjk)]
        obtain ⟨w, k1, k2, k3, k4⟩ := f.ow k' o' h'
        exact ⟨w, k1, k2.mono (Same.refl _) fun b hb => far b (f.dj k' i o' _ (Ma hik) h' q0 b hb), k3, k4⟩
     dj := fun k' l' o1 o2 hkl g1 g2 => by
      rcases bm g1 with ⟨_, e, _⟩ | ⟨_, g1⟩
      ·cases e
      ·rcases bm g1 with ⟨_, e, _⟩ | ⟨_, g1⟩
       ·cases e
       ·rcases bm g2 with ⟨_, e, _⟩ | ⟨_, g2⟩
        ·cases e
        ·rcases bm g2 with ⟨_, e, _⟩ | ⟨_, g2⟩
         ·cases e
         ·exact f.dj k' l' o1 o2 hkl g1 g2
     lo := fun k' h' => by
      rcases bm h' with ⟨_, e, _⟩ | ⟨hjk, h'⟩
      ·cases e
      ·rcases bm h' with ⟨_, e, _⟩ | ⟨_, h'⟩
       ·cases e
       ·rw [hsk k' (Ma hjk)]; exact f.lo k' h'
     asub := fun b o e => by rw [far b (farA b o e)]; exact f.asub b o e
     adis := f.adis }
   | some o =>
    have hlt := (LW.mp qd).1
    obtain ⟨p, zs, h1, h2, h3, h4, lo, hlo⟩ := root n0 o qd
    subst hlo
    have hp2 : H2 p = some (.lst zs) := by
     rw [hH p fun k hk e => ?_]
     ·exact h2
     ·obtain ⟨p', zs', g1, _, _, _, l', hl'⟩ := root k _ (Mf (show k < os.length by lia))
      have e' : os[k]? = some (.lst l') := by rw [Mf (show k < os.length by lia), hl']
      exact sQ hw nf hk e' qd e h1
    refine .inr ⟨⟨xs, .ref p, SqL.of ha2, h1⟩, fun σ' H' => n0 + 1 <= os.length /\ σ'.length = σ.length /\ (∀ k, k ≠ j -> σ'[k]? = σ[k]?) /\ ∀ b, (∀ k, k < n0 + 1 -> xs[k]? ≠ some (.ref b)) -> H' b = H b, fun σ' H' h' => ⟨_, by lia, rfl, h'⟩, fun xv H3 hy => ?_⟩
    obtain ⟨rfl, hy2⟩ := hy
    have exv := hy2 xs (SqL.of ha2)
    rw [h1] at exv
    cases exv
    show tb _ (σ2.set j (some (.ref p))) H3
    have hjl : j < σ2.length := by rw [hsl, f.len]; exact hjr
    refine hb _ _ _ p zs (MK hjl) hp2 h3 fun oo => ⟨hlt, by rw [MC]; exact hsl, fun k hk => by rw [Ms (Ma hk)]; exact hsk k hk, fun b hb => ?_⟩
    rw [aW fun z => hb n0 (Nat.lt_succ_self _) (by rw [z]; exact h1)]
    exact hH b fun k hk => hb k (Nat.lt_succ_of_lt hk)
  ·rw [LP hc] at q
   cases q
theorem Ee {i j : Nat} {n : Int} {u : TS} {m : XS} (hu : SS K u m) : SS K (wx (Cy (rN K (iY i)) (dY j) (vI (II K "list" rClear (iY j)))) (wx (vI (tBM K "list" rAppend (iY i) (kX (tC (.int n)) um))) u)) (aX (rE i j) m) := El
 (fun E σ H p zs h1 h2 h3 k => ⟨.ref p, h1, .inl ⟨rfl, zs, SqL.of h2⟩, p, zs, rfl, rfl, h2, k _⟩)
 (fun E σ H p zs h1 h2 h3 k => ⟨.ref p, h1, .inl ⟨rfl, zs, SqL.of h2⟩, p, zs, .int n, rfl, rfl, h2, Nat.lt_trans h3 gj, k _⟩) hu
end
end M
namespace Rw
noncomputable abbrev R := List (Int × Int)
def Mem (r : R) (x : Int) : Prop := ∃ p ∈ r, p.1 <= x /\ x <= p.2
def Ok (r : R) : Prop := ∀ p ∈ r, p.1 <= p.2
def fw (r : R) : Prop := Ok r /\ r.Pairwise fun p q => p.2 + 2 <= q.1
theorem mem_append (r t : R) (x : Int) : Mem (r ++ t) x ↔ Mem r x \/ Mem t x := by
 constructor
 ·rintro ⟨q, h, e⟩
  rcases Mb.mp h with h | h
  ·exact .inl ⟨q, h, e⟩
  ·exact .inr ⟨q, h, e⟩
 ·rintro (⟨q, h, e⟩ | ⟨q, h, e⟩)
  ·exact ⟨q, Me _ h, e⟩
  ·exact ⟨q, L0 _ h, e⟩
theorem mem_filter (r : R) (x : Int) : Mem (r.filter fun p => decide (p.1 <= p.2)) x ↔ Mem r x := by
 constructor
 ·rintro ⟨q, m, e⟩
  exact ⟨q, (Md.mp m).1, e⟩
 ·rintro ⟨q, m, e⟩
  exact ⟨q, Md.mpr ⟨m, by simp; lia⟩, e⟩
theorem je : fw [] := ⟨fun _ h => (by cases h), .nil⟩
theorem canon_cons {p : Int × Int} {r : R} : fw (p :: r) ↔ p.1 <= p.2 /\ (∀ q ∈ r, p.2 + 2 <= q.1) /\ fw r := by
 constructor
 ·rintro ⟨h1, h2⟩
  have h3 := List.pairwise_cons.mp h2
  exact ⟨h1 p LV, h3.1, fun q hq => h1 q (LY _ hq), h3.2⟩
 ·rintro ⟨h1, h2, h3, h4⟩
  refine ⟨fun q hq => ?_, List.pairwise_cons.mpr ⟨h2, h4⟩⟩
  rcases L9.mp hq with rfl | hq
  ·exact h1
  ·exact h3 q hq
noncomputable def step (acc : R) (p : Int × Int) : R :=
 match acc.getLast? with
 | none => [p]
 | some q => if p.1 <= q.2 + 1 then acc.dropLast ++ [(q.1, if p.2 > q.2 then p.2 else q.2)] else acc ++ [p]
theorem canon_snoc {t : R} {q : Int × Int} : fw (t ++ [q]) ↔ fw t /\ q.1 <= q.2 /\ ∀ p ∈ t, p.2 + 2 <= q.1 := by
 constructor
 ·rintro ⟨h1, h2⟩
  have h3 := Mz.mp h2
  exact ⟨⟨fun p hp => h1 p (Me _ hp), h3.1⟩, h1 q (L0 _ LV), fun p hp => h3.2.2 p hp q LV⟩
 ·rintro ⟨⟨h1, h2⟩, h3, h4⟩
  refine ⟨fun p hp => ?_, Mz.mpr ⟨h2, .cons (fun _ h => (by cases h)) .nil, fun p hp x hx => ?_⟩⟩
  ·rcases Mb.mp hp with hp | hp
   ·exact h1 p hp
   ·rw [L4.mp hp]; exact h3
  ·rw [L4.mp hx]; exact h4 p hp
end Rw
namespace Rw
noncomputable def GT : List Int -> R
 | a :: b :: t => (a, b - 1) :: GT t
 | _ => []
end Rw
namespace P
open PySem L2 M
noncomputable def jG : XS := aX (xIf (xB (xOp dLt (ab 1) (xCB ik (ac (ab 0) aq)))) (dH (xOp dIx (ab 0) (ab 1))) dM) (dH (xC (.int 0)))
noncomputable def iH : List D -> Option O := fnO 2 jG
noncomputable def cZ : List D -> Option D := fun ds => (iH ds).map O.d
noncomputable def ph : XS := sO 1 xPv (xSh (dF (ac (aC 2) (ac (xOp cY (xOp dIx (xOp dIx (ab 3) (xOp gd (ab 4) (xC (.int 1)))) (xC (.int 1))) (xC (.int 1))) (ac (xOp gd (xOp dIx (xOp dIx (ab 3) (ab 4)) (xC (.int 0))) (xC (.int 1))) aq)))))
noncomputable def o6 : XS := eQ (lf (ac (xC (.int 1)) (ac (xCB ik (ac (ab 3) aq)) aq))) (af 4) (ph)
noncomputable def ww : XS := aX (pZ (nU aq) 1) (aX (eQ (xIt (aC 0)) (cO (aw (af 2) (aw (af 3) cF))) (o6)) (tf 1))
noncomputable def tS : List D -> Option O := fnO 5 ww
noncomputable def iI : List D -> Option D := fun ds => (tS ds).map O.d
noncomputable def pG : XS := xIf (jl (xB (xOp (dIn false) (ab 3) (dF (ac (xOp gd (xOp dIx (ab 1) (xC (.int 0))) (xC (.int 1))) (ac (xOp cY (xOp dIx (ab 1) (xC (.int 0))) (xC (.int 1))) aq))))) (jl (xB (xOp dLe (xOp dIx (xOp dIx (ab 4) (xC (.int 0))) (xC (.int 0))) (xOp dIx (ab 1) (xC (.int 1))))) (xB (xOp dLe (xOp dIx (ab 1) (xC (.int 2))) (xOp dIx (xOp dIx (ab 4) (xUn ur (xC (.int 1)))) (xC (.int 1))))))) (cP (xOp cY (ab 2) (xC (.int 1))) (af 2)) dM
noncomputable def wE : XS := aX (cP (xC (.int 0)) (af 2)) (aX (eQ (xIt (aC 0)) (cO (aw (af 3) (aw (af 4) cF))) (pG)) (dH (xOp dLt (ab 2) (xC (.int 2)))))
noncomputable def sC : List D -> Option O := fnO 5 wE
noncomputable def iz : List D -> Option D := fun ds => (sC ds).map O.d
noncomputable def oH : XS := aX (cP (xC (.int 1)) (af 5)) (aX (xIf (dQ (ab 2)) (cP (xOp dIx (xL (nU (ac (xC (.int 1)) (ac (xC (.int 2)) (ac (xC (.int 1)) (ac (xOp yH (xC (.int 10)) (xC (.int 40))) (ac (xC (.int 1)) (ac (xC (.int 1)) (ac (xC (.int 3)) (ac (xC (.int 2)) aq)))))))))) (ab 4)) (af 5)) dM) (aX (xIf (xOr (xB (xOp (dEq false) (xOp n4 (ab 0) (xC (.int 2))) (xC (.int 1)))) (xB (xOp (dEq false) (xOp n4 (xOp qY (ab 0) (xC (.int 512))) (xC (.int 4))) (xC (.int 1))))) (xIf (jl (xB (xOp dGt (xCB ik (ac (ab 3) aq)) (xC (.int 0)))) (xB (xOp (dEq false) (xOp dIx (xOp dIx (ab 3) (xUn ur (xC (.int 1)))) (xC (.int 1))) (xOp gd (ab 1) (xC (.int 1)))))) (En 3 xPv (xUn ur (xC (.int 1))) (dF (ac (xOp dIx (xOp dIx (ab 3) (xUn ur (xC (.int 1)))) (xC (.int 0))) (ac (xOp gd (xOp cY (ab 1) (ab 5)) (xC (.int 1))) aq)))) (sO 3 xPv (xSh (dF (ac (aC 1) (ac (xOp gd (xOp cY (ab 1) (ab 5)) (xC (.int 1))) aq)))))) dM) (aX (cP (xOp qY (ab 0) (xC (.int 2))) (af 0)) (cP (xOp cY (ab 1) (ab 5)) (af 1)))))
noncomputable def z7 : XS := aX (pZ (nU aq) 3) (aX (eQ (lf (ac (xC (.int 8)) aq)) (af 4) (oH)) (dH (xCB kM (ac (ab 3) aq))))
noncomputable def wN : List D -> Option O := fnO 6 z7
noncomputable def nu : List D -> Option D := fun ds => (wN ds).map O.d
noncomputable def lK : XS := aX (xIf (xB (xOp dLt (ab 0) (xC (.int 0)))) (dH (xOp gd (xC (.int 0)) (xOp n4 (xOp gd (xC (.int 0)) (ab 0)) (ab 1)))) dM) (dH (xOp n4 (ab 0) (ab 1)))
noncomputable def jR : List D -> Option O := fnO 2 lK
noncomputable def df : List D -> Option D := fun ds => (jR ds).map O.d
noncomputable def ge : XS := aX (xIf (jl (xB (xOp (dEq true) (xOp dIx (ab 0) (xC (.int 0))) (xOp cY (xOp dIx (ab 1) (xC (.int 0))) (xC (.int 1))))) (xB (xOp (dEq true) (xOp dIx (ab 1) (xC (.int 0))) (xOp cY (xOp dIx (ab 0) (xC (.int 0))) (xC (.int 1)))))) (dH (xC (.bl false))) dM) (dH (CY (xOp dLe (xOp dIx (ab 0) (xC (.int 1))) (xOp dIx (ab 1) (xC (.int 2)))) (xOp dLe (xOp dIx (ab 1) (xC (.int 1))) (xOp dIx (ab 0) (xC (.int 2))))))
noncomputable def eM : List D -> Option O := fnO 2 ge
noncomputable def aV : List D -> Option D := fun ds => (eM ds).map O.d
noncomputable def eg : XT := xB (xOp dLt (ab 2) (ab 3))
noncomputable def eu : XS := aX (cP (xOp qY (xOp cY (ab 2) (ab 3)) (xC (.int 2))) (af 4)) (xIf (xB (xOp dLe (xOp dIx (xOp dIx (ab 0) (ab 4)) (xC (.int 0))) (ab 1))) (cP (xOp cY (ab 4) (xC (.int 1))) (af 2)) (cP (aC 4) (af 3)))
noncomputable def i8 : XS := aX (cP (xC (.int 0)) (af 2)) (aX (cP (xCB ik (ac (ab 0) aq)) (af 3)) (aX (fh (eg) (eu)) (dH (aC 2))))
noncomputable def ip : List D -> Option O := fnO 5 i8
noncomputable def ba : List D -> Option D := fun ds => (ip ds).map O.d
noncomputable def m5 : XS := dH (xCB kM (ac (xL (b7 [none, some 0] (lf (ac (xOp gd (xCB ik (ac (ab 0) aq)) (xC (.int 1))) aq)) (af 0) eD (dF (ac (xOp cY (xOp dIx (xOp dIx (ab 1) (ab 0)) (xC (.int 1))) (xC (.int 1))) (ac (xOp gd (xOp dIx (xOp dIx (ab 1) (xOp cY (ab 0) (xC (.int 1)))) (xC (.int 0))) (xC (.int 1))) aq))))) aq))
noncomputable def kB : List D -> Option O := fnO 1 m5
noncomputable def du : List D -> Option D := fun ds => (kB ds).map O.d
noncomputable def fc : XS := dH (xCB kM (ac (xL (b7 [none, none] (xIt (ab 0)) (cO (aw (af 0) (aw (af 1) cF))) (xB (xOp (dEq true) (ab 1) (dF aq))) (dF (ac (aC 0) (ac (aC 1) aq))))) aq))
noncomputable def ez : List D -> Option O := fnO 1 fc
noncomputable def bF : List D -> Option D := fun ds => (ez ds).map O.d
noncomputable def fY : XS := Bx 1 xPv (xL (b7 [none, none, some 2] (xIt (ab 3)) (cO (aw (af 0) (aw (af 1) cF))) eD (dF (ac (aC 2) (ac (aC 0) (ac (aC 1) aq))))))
noncomputable def hZ : XS := aX (pZ (nU aq) 1) (aX (eQ (xIt (aC 0)) (cO (aw (af 2) (aw (af 3) cF))) (fY)) (tf 1))
noncomputable def et : List D -> Option O := fnO 4 hZ
noncomputable def ci : List D -> Option D := fun ds => (et ds).map O.d
noncomputable def nr : XS := xIf (dQ (bd aV (ac (aC 3) (ac (aC 4) aq)))) (dH (xC (.bl false))) dM
noncomputable def jW : XS := eQ (xIt (xOp dIx (ab 0) (ab 1))) (af 4) (nr)
noncomputable def jK : XS := aX (xIf (gT (xB (xOp (D3) (xSl (xOp dIx (xOp dIx (ab 0) (ab 2)) (xC (.int 0))) aU (bP (xC (.int 3)))) (xSl (xOp dIx (xOp dIx (ab 0) (ab 1)) (xC (.int 0))) aU (bP (xC (.int 3))))))) (dH (xC (.bl false))) dM) (eQ (xIt (xOp dIx (ab 0) (ab 2))) (af 3) (jW))
noncomputable def nc : XS := eQ (lf (ac (ab 1) aq)) (af 2) (jK)
noncomputable def nL : XS := aX (eQ (lf (ac (xCB ik (ac (ab 0) aq)) aq)) (af 1) (nc)) (dH (xC (.bl true)))
noncomputable def oU : List D -> Option O := fnO 5 nL
noncomputable def e7 : List D -> Option D := fun ds => (oU ds).map O.d
noncomputable def gF : XS := cP (xOp cY (ab 6) (xOp n4 (xOp yo (xC (.int 5)) (xOp dIx (ab 0) (ab 7))) (xC (.int 256)))) (af 6)
noncomputable def gz : XS := aX (cP (xOp qY (xOp n4 (xOp yo (xOp dIx (ab 0) (xOp cY (xC (.int 1)) (ab 5))) (xC (.int 48271))) (xC (.int 2147483647))) (xC (.int 37))) (af 6)) (aX (eQ (AZ (ac (xOp cY (xC (.int 21)) (ab 5)) (ac (xCB uX (ac (xCB ik (ac (ab 0) aq)) (ac (xC (.int 99)) aq))) (ac (xC (.int 20)) aq)))) (af 7) (gF)) (aX (cP (bd nu (ac (aC 6) (ac (aC 2) (ac (xOp (dEq false) (xOp n4 (ab 1) (xC (.int 3))) (xC (.int 1))) aq)))) (af 8)) (xIf (xB (xOp dGt (xCB ik (ac (ab 8) aq)) (xC (.int 0)))) (sO 4 xPv (xSh (dF (ac (xOp cY (ab 3) (ab 5)) (ac (aC 8) aq))))) dM)))
noncomputable def mt : XS := aX (cP (bd cZ (ac (aC 0) (ac (xC (.int 0)) aq))) (af 1)) (aX (cP (bd df (ac (xOp qY (ab 1) (xC (.int 12))) (ac (xOp dIx (xL (nU (ac (xC (.int 9)) (ac (xOp yH (xC (.int 10)) (xC (.int 58))) aq)))) (xOp n4 (xOp qY (ab 1) (xC (.int 3))) (xC (.int 2)))) aq))) (af 2)) (aX (cP (bd df (ac (xOp qY (ab 1) (xC (.int 24))) (ac (xOp dIx (xL (nU (ac (xC (.int 9)) (ac (xOp yH (xC (.int 10)) (xC (.int 58))) aq)))) (xOp n4 (xOp qY (ab 1) (xC (.int 6))) (xC (.int 2)))) aq))) (af 3)) (aX (pZ (nU aq) 4) (aX (eQ (lf (ac (xCB uX (ac (xC (.int 20)) (ac (xOp gd (xCB ik (ac (ab 0) aq)) (xC (.int 1))) aq))) aq)) (af 5) (gz)) (dH (xCB kM (ac (ab 4) aq)))))))
noncomputable def kJ : List D -> Option O := fnO 9 mt
noncomputable def eB : List D -> Option D := fun ds => (kJ ds).map O.d
noncomputable def gw : XT := xB (xOp dLt (ab 4) (xCB ik (ac (ab 2) aq)))
noncomputable def jN : XS := aX (cP (xL (b7 [none, some 2, some 4] (xIt (ab 3)) (af 0) (dQ (bd aV (ac (xOp dIx (ab 1) (ab 2)) (ac (aC 0) aq)))) (aC 0))) (af 5)) (aX (cP (xL (b7 [none, some 5] (xIt (ab 3)) (af 0) (xB (xOp (Cz true) (ab 0) (ab 1))) (aC 0))) (af 3)) (aX (cP (xOp cY (ab 2) (ab 5)) (af 2)) (cP (xOp cY (ab 4) (xC (.int 1))) (af 4))))
noncomputable def jA : XS := aX (cP (xL (b7 [none, some 0] (xIt (ab 1)) (af 0) (dQ (bd iz (ac (aC 1) (ac (aC 0) aq)))) (aC 0))) (af 2)) (aX (cP (xL (b7 [none, some 2] (xIt (ab 1)) (af 0) (xB (xOp (Cz true) (ab 0) (ab 1))) (aC 0))) (af 3)) (aX (cP (xC (.int 0)) (af 4)) (aX (fh (gw) (jN)) (dH (aC 3)))))
noncomputable def k6 : List D -> Option O := fnO 6 jA
noncomputable def dG : List D -> Option D := fun ds => (k6 ds).map O.d
noncomputable def kH : XS := xIf (dQ (bd aV (ac (xOp dIx (ab 0) (ab 1)) (ac (xOp dIx (ab 0) (ab 3)) aq)))) (dH (xC (.bl false))) dM
noncomputable def iR : XS := aX (cP (xOp dIx (xOp dIx (ab 0) (ab 1)) (xC (.int 3))) (af 2)) (aX (xIf (xOr (gT (dQ (xCB ox (ac (xOp dIx (ab 0) (ab 1)) (ac (xC (.ty "tuple")) aq))))) (xOr (xB (xOp (yh false) (ab 2) (xC .non))) (xOr (xB (xOp dLt (ab 2) (xC (.int 0)))) (xB (xOp dGe (ab 2) (ab 1)))))) (dH (xC (.bl false))) dM) (aX (xIf (gT (dQ (bd aV (ac (xOp dIx (ab 0) (ab 1)) (ac (xOp dIx (ab 0) (ab 2)) aq))))) (dH (xC (.bl false))) dM) (aX (eQ (lf (ac (ab 2) aq)) (af 3) (kH)) (aX (cP (xOp dIx (ab 0) (xOp gd (ab 1) (xC (.int 1)))) (af 4)) (aX (xIf (jl (xB (xOp dGt (ab 1) (xC (.int 1)))) (xB (xOp dLt (ab 2) (xOp dIx (ab 4) (xC (.int 3)))))) (dH (xC (.bl false))) dM) (xIf (jl (xB (xOp dGt (ab 1) (xC (.int 1)))) (jl (xB (xOp (dEq false) (ab 2) (xOp dIx (ab 4) (xC (.int 3))))) (xB (xOp (Au) (xSl (xOp dIx (ab 0) (ab 1)) aU (bP (xC (.int 3)))) (xSl (ab 4) aU (bP (xC (.int 3)))))))) (dH (xC (.bl false))) dM))))))
noncomputable def lz : XS := aX (xIf (xOr (gT (dQ (xCB ox (ac (ab 0) (ac (xC (.ty "list")) aq))))) (xOr (xB (xOp (dEq false) (xCB ik (ac (ab 0) aq)) (xC (.int 0)))) (xB (xOp (yh true) (xOp dIx (xOp dIx (ab 0) (xC (.int 0))) (xC (.int 3))) (xC .non))))) (dH (xC (.bl false))) dM) (aX (eQ (lf (ac (xC (.int 1)) (ac (xCB ik (ac (ab 0) aq)) aq))) (af 1) (iR)) (dH (xOp (dEq false) (xSl (xOp dIx (ab 0) (xC (.int 0))) aU (bP (xC (.int 3)))) (xCB se (ac (xL (b7 [none] (xIt (ab 0)) (af 0) eD (xSl (ab 0) aU (bP (xC (.int 3)))))) aq)))))
noncomputable def mr : List D -> Option O := fnO 5 lz
noncomputable def de : List D -> Option D := fun ds => (mr ds).map O.d
noncomputable def gl : XS := dH (xSl (ab 0) (bP (xCB AV (ac (xC (.int 0)) (ac (xOp gd (bd ba (ac (aC 0) (ac (aC 1) aq))) (xC (.int 1))) aq)))) (bP (bd ba (ac (aC 0) (ac (aC 2) aq)))))
noncomputable def fF : List D -> Option O := fnO 3 gl
noncomputable def bX : List D -> Option D := fun ds => (fF ds).map O.d
noncomputable def eX : XS := dH (bd bF (ac (xL (b7 [none, none] (xIt (ab 0)) (cO (aw (af 0) (aw (af 1) cF))) eD (dF (ac (aC 0) (ac (bd du (ac (aC 1) aq)) aq))))) aq))
noncomputable def eF : List D -> Option O := fnO 1 eX
noncomputable def bv : List D -> Option D := fun ds => (eF ds).map O.d
noncomputable def kA : XS := aX (cP (bd ba (ac (aC 0) (ac (aC 1) aq))) (af 2)) (aX (xIf (jl (xB (xOp dGt (ab 2) (xC (.int 0)))) (xB (xOp (dEq false) (xOp dIx (xOp dIx (ab 0) (xOp gd (ab 2) (xC (.int 1)))) (xC (.int 0))) (ab 1)))) (dH (xOp dIx (xOp dIx (ab 0) (xOp gd (ab 2) (xC (.int 1)))) (xC (.int 1)))) dM) (dH (dF aq)))
noncomputable def jn : List D -> Option O := fnO 3 kA
noncomputable def bG : List D -> Option D := fun ds => (jn ds).map O.d
noncomputable def bI : XS := xIf (xOr (xB (xOp (dEq false) (ab 4) (dF aq))) (xOr (xB (xOp dLt (ab 2) (xOp dIx (xOp dIx (ab 4) (xC (.int 0))) (xC (.int 0))))) (xB (xOp dGt (ab 3) (xOp dIx (xOp dIx (ab 4) (xUn ur (xC (.int 1)))) (xC (.int 1))))))) (dH (xC (.bl true))) dM
noncomputable def lH : XS := aX (eQ (xIt (dF (ac (bd bG (ac (aC 0) (ac (xOp gd (ab 1) (xC (.int 1))) aq))) (ac (bd bG (ac (aC 0) (ac (xOp cY (ab 1) (xC (.int 1))) aq))) aq)))) (af 4) (bI)) (dH (xC (.bl false)))
noncomputable def mv : List D -> Option O := fnO 5 lH
noncomputable def bM : List D -> Option D := fun ds => (mv ds).map O.d
noncomputable def cW : XS := Bx 5 xPv (xL (b7 [none, none, some 6, some 3] (xIt (bd bX (ac (bd bG (ac (aC 0) (ac (aC 6) aq))) (ac (aC 3) (ac (aC 4) aq))))) (cO (aw (af 0) (aw (af 1) cF))) (xB (xOp dGe (ab 1) (ab 3))) (dF (ac (aC 2) (ac (aC 0) (ac (aC 1) aq))))))
noncomputable def nA : XS := aX (cP (xOp gd (xOp dIx (ab 1) (xC (.int 1))) (ab 2)) (af 3)) (aX (cP (xOp cY (xOp dIx (ab 1) (xC (.int 2))) (ab 2)) (af 4)) (aX (pZ (nU aq) 5) (aX (eQ (xIt (dF (ac (xOp gd (xOp dIx (ab 1) (xC (.int 0))) (xC (.int 1))) (ac (xOp cY (xOp dIx (ab 1) (xC (.int 0))) (xC (.int 1))) aq)))) (af 6) (cW)) (tf 5))))
noncomputable def kR : List D -> Option O := fnO 7 nA
noncomputable def dA : List D -> Option D := fun ds => (kR ds).map O.d
noncomputable def d7 : XT := xB (xOp dLt (ab 5) (xCB ik (ac (ab 3) aq)))
noncomputable def dW : XS := xIf (xB (Ca true (aC 6) 4)) (aX (Dh 4 (aC 6)) (sO 3 xPv (xSh (xOp cY (ab 6) (dF (ac (aC 5) aq)))))) dM
noncomputable def f7 : XS := aX (eQ (xIt (bd dA (ac (aC 0) (ac (xOp dIx (ab 3) (ab 5)) (ac (aC 2) aq))))) (af 6) (dW)) (HC 5 (xC (.int 1)) Br)
noncomputable def iP : XS := aX (pZ (nU (ac (xOp cY (ab 1) (dF (ac (xC .non) aq))) aq)) 3) (aX (qN (yL (aC 1)) 4) (aX (cP (xC (.int 0)) (af 5)) (aX (fh (d7) (f7)) (tf 3))))
noncomputable def b9 : List D -> Option O := fnO 7 iP
noncomputable def iD : List D -> Option D := fun ds => (b9 ds).map O.d
noncomputable def eS : XS := xIf (xB (Ca true (aC 4) 3)) (aX (sO 2 xPv (o9 b9 (ac (aC 0) (ac (aC 4) (ac (aC 1) aq))))) (Bi 3 (b7 [none, none, none, none] (nN 2 (xPi xPv (xUn ur (xC (.int 1))))) (cO (aw (af 0) (aw (af 1) (aw (af 2) (aw (af 3) cF))))) eD (dF (ac (dF (ac (aC 0) (ac (aC 1) (ac (aC 2) aq)))) (ac (xC (.bl true)) aq)))))) dM
noncomputable def jH : XS := aX (pZ (nU aq) 2) (aX (qN Gj 3) (aX (eQ (xIt (bd ci (ac (aC 0) aq))) (af 4) (eS)) (tf 2)))
noncomputable def d6 : List D -> Option O := fnO 5 jH
noncomputable def gq : List D -> Option D := fun ds => (d6 ds).map O.d
noncomputable def rA : XS := aX (qN (o9 d6 (ac (bd bv (ac (aC 0) aq)) (ac (xC (.int (0))) aq))) 1) (EW [none, some 0] 1 (gT (dQ (xCB yC (ac (xL (b7 [none, none, none, none, some 1] (nN 0 xPv) (cO (aw (af 0) (aw (af 1) (aw (af 2) (aw (af 3) cF))))) eD (bd bM (ac (aC 4) (ac (aC 0) (ac (aC 1) (ac (aC 2) aq))))))) aq)))))
noncomputable def k9 : List D -> Option O := fnO 2 rA
noncomputable def iE : List D -> Option D := fun ds => (k9 ds).map O.d
noncomputable def jJ : XT := gT (dQ (nE de (ac (ab 4) aq)))
noncomputable def jQ : XE := xOp cY (ab 3) (xL (b7 [none] (xIt (ab 4)) (af 0) eD (xSl (ab 0) aU (bP (xC (.int 3))))))
noncomputable def Bh : XS := aX (cP (bd eB (ac (aC 0) aq)) (af 1)) (aX (qN (o9 k9 (ac (aC 1) aq)) 2) (aX (xIf (gT (dQ (xCB ox (ac (sK 2) (ac (xC (.ty "list")) aq))))) (dH (xC (.bl false))) dM) (aX (cP (xL (nU aq)) (af 3)) (aX (AB 2 4 3 (jJ) (jQ)) (aX (xIf (xOr (xB (xOp (dEq true) (xL (s9 oz (ac (ab 3) aq))) (bd dG (ac (aC 1) (ac (bd iI (ac (aC 1) aq)) aq))))) (gT (dQ (nE e7 (ac (sK 2) aq))))) (dH (xC (.bl false))) dM) (aX (cP (xL (mh 2 (xL (s9 jm (ac (ab 0) aq))))) (af 5)) (aX (rE 2 4) (dH (xOp (dEq false) (bd iE (ac (aC 1) aq)) (ab 5))))))))))
noncomputable def zB : List D -> Option O := fnO 6 Bh
noncomputable def F9 : List D -> Option D := fun ds => (zB ds).map O.d
noncomputable abbrev iL (K : W.Frag) : Sp := ft K 2 iH
noncomputable def qG (K : W.Frag) : { t : TS // SS K t jG } := ⟨_, aI (hJ (bc (SE.p (ar vV (ae 1) ((gy jf (aR (ae 0) bN)).p)))) (cc (ar bi (ae 0) (ae 1))) cK) (cc (s_c rfl))⟩
theorem yW {K : W.Frag} {vs : List V} {H : Hp} {Q : VK} {E : XK} (h : iL K vs H Q E) : (qG K).1 { nx := fun _ H' => Q .non H', rt := Q } (aM ["_law_script", "_law_k"] vs) H := cU (qG K).2 rfl h
noncomputable abbrev oO (K : W.Frag) : Sp := ft K 1 tS
noncomputable def yz (K : W.Frag) : { t : TS // SS K t ww } := ⟨_, aI (mO (kT aE)) (aI (gh (oP (aL 0)) (nR (cA (az 2) (cA (az 3) oA)) (bJ (bJ jB))) (gh (Er ((s_c rfl).p) ((gy jf (aR (ae 3) bN)).p)) (az 4) (ue (lQ 1) ((fi (ah (aL 2) (ah (ar dl ((ar bi ((ar bi (ae 3) ((ar fB (ae 4) ((s_c rfl).p)).p)).p) ((s_c rfl).p)).p) ((s_c rfl).p)) (ah (ar fB ((ar bi ((ar bi (ae 3) (ae 4)).p) ((s_c rfl).p)).p) ((s_c rfl).p)) aE)))).t)))) (rQ 1))⟩
theorem C4 {K : W.Frag} {vs : List V} {H : Hp} {Q : VK} {E : XK} (h : oO K vs H Q E) : (yz K).1 { nx := fun _ H' => Q .non H', rt := Q } (aM ["_law_picture_here", "_law_gaps_here", "_law_y", "_law_row_here", "_law_k"] vs) H := cU (yz K).2 rfl h
noncomputable abbrev oG (K : W.Frag) : Sp := ft K 2 sC
noncomputable def zf (K : W.Frag) : { t : TS // SS K t wE } := ⟨_, aI (b6 (s_c rfl) (az 2)) (aI (gh (oP (aL 0)) (nR (cA (az 3) (cA (az 4) oA)) (bJ (bJ jB))) (hJ (qP (bc (SE.p (ar (JS false) (ae 3) ((fi (ah (ar fB ((ar bi (ae 1) ((s_c rfl).p)).p) ((s_c rfl).p)) (ah (ar dl ((ar bi (ae 1) ((s_c rfl).p)).p) ((s_c rfl).p)) aE))).p)))) (qP (bc (SE.p (ar ER ((ar bi ((ar bi (ae 4) ((s_c rfl).p)).p) ((s_c rfl).p)).p) ((ar bi (ae 1) ((s_c rfl).p)).p)))) (bc (SE.p (ar ER ((ar bi (ae 1) ((s_c rfl).p)).p) ((ar bi ((ar bi (ae 4) ((B2 u8 ((s_c rfl).p)).p)).p) ((s_c rfl).p)).p)))))) (b6 (ar dl (ae 2) ((s_c rfl).p)) (az 2)) cK)) (cc (ar vV (ae 2) ((s_c rfl).p))))⟩
theorem DD {K : W.Frag} {vs : List V} {H : Hp} {Q : VK} {E : XK} (h : oG K vs H Q E) : (zf K).1 { nx := fun _ H' => Q .non H', rt := Q } (aM ["_law_picture_here", "_law_gap", "_law_shut", "_law_y", "_law_row_here"] vs) H := cU (zf K).2 rfl h
noncomputable abbrev rC (K : W.Frag) : Sp := ft K 3 wN
noncomputable def AW (K : W.Frag) : { t : TS // SS K t z7 } := ⟨_, aI (mO (kT aE)) (aI (gh (pr ((s_c rfl).p)) (az 4) (aI (b6 (s_c rfl) (az 5)) (aI (hJ (gU (ae 2)) (b6 (ar bi (((kT (ah (s_c rfl) (ah (s_c rfl) (ah (s_c rfl) (ah (ar D7 ((s_c rfl).p) ((s_c rfl).p)) (ah (s_c rfl) (ah (s_c rfl) (ah (s_c rfl) (ah (s_c rfl) aE))))))))).e).p) (ae 4)) (az 5)) cK) (aI (hJ (wz (bc (SE.p (ar (oB false) ((ar nS (ae 0) ((s_c rfl).p)).p) ((s_c rfl).p)))) (bc (SE.p (ar (oB false) ((ar nS ((ar qF (ae 0) ((s_c rfl).p)).p) ((s_c rfl).p)).p) ((s_c rfl).p))))) (hJ (qP (bc (SE.p (ar BL ((gy jf (aR (ae 3) bN)).p) ((s_c rfl).p)))) (bc (SE.p (ar (oB false) ((ar bi ((ar bi (ae 3) ((B2 u8 ((s_c rfl).p)).p)).p) ((s_c rfl).p)).p) ((ar fB (ae 1) ((s_c rfl).p)).p))))) (Hx (fi (ah (ar bi ((ar bi (ae 3) ((B2 u8 ((s_c rfl).p)).p)).p) ((s_c rfl).p)) (ah (ar fB ((ar dl (ae 1) (ae 5)).p) ((s_c rfl).p)) aE))) (lQ 3) ((B2 u8 ((s_c rfl).p)).p)) (ue (lQ 3) ((fi (ah (aL 1) (ah (ar fB ((ar dl (ae 1) (ae 5)).p) ((s_c rfl).p)) aE))).t))) cK) (aI (b6 (ar qF (ae 0) ((s_c rfl).p)) (az 0)) (b6 (ar dl (ae 1) (ae 5)) (az 1))))))) (cc (gy rn (aR (ae 3) bN))))⟩
theorem Fi {K : W.Frag} {vs : List V} {H : Hp} {Q : VK} {E : XK} (h : rC K vs H Q E) : (AW K).1 { nx := fun _ H' => Q .non H', rt := Q } (aM ["_law_bits", "_law_x", "_law_wide", "_law_row_here", "_law_k", "_law_size"] vs) H := cU (AW K).2 rfl h
noncomputable abbrev jI (K : W.Frag) : Sp := ft K 2 jR
noncomputable def tP (K : W.Frag) : { t : TS // SS K t lK } := ⟨_, aI (hJ (bc (SE.p (ar vV (ae 0) ((s_c rfl).p)))) (cc (ar fB ((s_c rfl).p) ((ar nS ((ar fB ((s_c rfl).p) (ae 0)).p) (ae 1)).p))) cK) (cc (ar nS (ae 0) (ae 1)))⟩
theorem zt {K : W.Frag} {vs : List V} {H : Hp} {Q : VK} {E : XK} (h : jI K vs H Q E) : (tP K).1 { nx := fun _ H' => Q .non H', rt := Q } (aM ["_law_cell", "_law_most"] vs) H := cU (tP K).2 rfl h
noncomputable abbrev gL (K : W.Frag) : Sp := ft K 2 eM
noncomputable def uQ (K : W.Frag) : { t : TS // SS K t ge } := ⟨_, aI (hJ (qP (bc (SE.p (ar (oB true) ((ar bi (ae 0) ((s_c rfl).p)).p) ((ar dl ((ar bi (ae 1) ((s_c rfl).p)).p) ((s_c rfl).p)).p)))) (bc (SE.p (ar (oB true) ((ar bi (ae 1) ((s_c rfl).p)).p) ((ar dl ((ar bi (ae 0) ((s_c rfl).p)).p) ((s_c rfl).p)).p))))) (cc (s_c rfl)) cK) (cc (Ht ((ar ER ((ar bi (ae 0) ((s_c rfl).p)).p) ((ar bi (ae 1) ((s_c rfl).p)).p)).p) (ar ER ((ar bi (ae 1) ((s_c rfl).p)).p) ((ar bi (ae 0) ((s_c rfl).p)).p))))⟩
theorem CS {K : W.Frag} {vs : List V} {H : Hp} {Q : VK} {E : XK} (h : gL K vs H Q E) : (uQ K).1 { nx := fun _ H' => Q .non H', rt := Q } (aM ["_law_one", "_law_other"] vs) H := cU (uQ K).2 rfl h
noncomputable abbrev dt (K : W.Frag) : Sp := ft K 2 ip
noncomputable def lc (K : W.Frag) : { t : TS // SS K t i8 } := ⟨_, aI (b6 (s_c rfl) (az 2)) (aI (b6 (gy jf (aR (ae 0) bN)) (az 3)) (aI (wL (bc (SE.p (ar vV (ae 2) (ae 3)))) (aI (b6 (ar qF ((ar dl (ae 2) (ae 3)).p) ((s_c rfl).p)) (az 4)) (hJ (bc (SE.p (ar ER ((ar bi ((ar bi (ae 0) (ae 4)).p) ((s_c rfl).p)).p) (ae 1)))) (b6 (ar dl (ae 4) ((s_c rfl).p)) (az 2)) (b6 (aL 4) (az 3))))) (cc (aL 2))))⟩
theorem t5 {K : W.Frag} {vs : List V} {H : Hp} {Q : VK} {E : XK} (h : dt K vs H Q E) : (lc K).1 { nx := fun _ H' => Q .non H', rt := Q } (aM ["pairs", "number", "low", "high", "middle"] vs) H := cU (lc K).2 rfl h
noncomputable abbrev iU (K : W.Frag) : Sp := ft K 1 kB
noncomputable def qE (K : W.Frag) : { t : TS // SS K t m5 } := ⟨_, cc (gy rn (aR (((fP (SI.p (pr ((ar fB ((gy jf (aR (ae 0) bN)).p) ((s_c rfl).p)).p))) (az 0) t6 (fi (ah (ar dl ((ar bi ((ar bi (ae 1) (ae 0)).p) ((s_c rfl).p)).p) ((s_c rfl).p)) (ah (ar fB ((ar bi ((ar bi (ae 1) ((ar dl (ae 0) ((s_c rfl).p)).p)).p) ((s_c rfl).p)).p) ((s_c rfl).p)) aE)))).e).p) bN))⟩
theorem zm {K : W.Frag} {vs : List V} {H : Hp} {Q : VK} {E : XK} (h : iU K vs H Q E) : (qE K).1 { nx := fun _ H' => Q .non H', rt := Q } (aM ["row"] vs) H := cU (qE K).2 rfl h
noncomputable abbrev c8 (K : W.Frag) : Sp := ft K 1 ez
noncomputable def g9 (K : W.Frag) : { t : TS // SS K t fc } := ⟨_, cc (gy rn (aR (((fP (i7 (ae 0)) (nR (cA (az 0) (cA (az 1) oA)) (bJ (bJ jB))) (bc (SE.p (ar (oB true) (ae 1) ((fi aE).p)))) (fi (ah (aL 0) (ah (aL 1) aE)))).e).p) bN))⟩
theorem mm {K : W.Frag} {vs : List V} {H : Hp} {Q : VK} {E : XK} (h : c8 K vs H Q E) : (g9 K).1 { nx := fun _ H' => Q .non H', rt := Q } (aM ["rows"] vs) H := cU (g9 K).2 rfl h
noncomputable abbrev ee (K : W.Frag) : Sp := ft K 1 et
noncomputable def ki (K : W.Frag) : { t : TS // SS K t hZ } := ⟨_, aI (mO (kT aE)) (aI (gh (oP (aL 0)) (nR (cA (az 2) (cA (az 3) oA)) (bJ (bJ jB))) (Di (lQ 1) ((fP (i7 (ae 3)) (nR (cA (az 0) (cA (az 1) oA)) (bJ (bJ jB))) t6 (fi (ah (aL 2) (ah (aL 0) (ah (aL 1) aE))))).e))) (rQ 1))⟩
theorem qS {K : W.Frag} {vs : List V} {H : Hp} {Q : VK} {E : XK} (h : ee K vs H Q E) : (ki K).1 { nx := fun _ H' => Q .non H', rt := Q } (aM ["picture", "stretches", "y", "row"] vs) H := cU (ki K).2 rfl h
noncomputable abbrev lM (K : W.Frag) : Sp := ft K 1 oU
noncomputable def uL (K : W.Frag) : { t : TS // SS K t nL } := ⟨_, aI (gh (pr ((gy jf (aR (ae 0) bN)).p)) (az 1) (gh (pr (ae 1)) (az 2) (aI (hJ (p0 (bc (SE.p (ar IY ((xx ((ar bi ((ar bi (ae 0) (ae 2)).p) ((s_c rfl).p)).p) (il) (jF ((s_c rfl).p))).p) ((xx ((ar bi ((ar bi (ae 0) (ae 1)).p) ((s_c rfl).p)).p) (il) (jF ((s_c rfl).p))).p))))) (cc (s_c rfl)) cK) (gh (oP (ar bi (ae 0) (ae 2))) (az 3) (gh (oP (ar bi (ae 0) (ae 1))) (az 4) (hJ (gU ((bS (E := E0) (ah (aL 3) (ah (aL 4) aE)) (au (au (fun _ _ h => aZ h)))).p)) (cc (s_c rfl)) cK)))))) (cc (s_c rfl))⟩
theorem CO {K : W.Frag} {vs : List V} {H : Hp} {Q : VK} {E : XK} (h : lM K vs H Q E) : (uL K).1 { nx := fun _ H' => Q .non H', rt := Q } (aM ["_law_found", "_law_k", "_law_j", "_law_one", "_law_other"] vs) H := cU (uL K).2 rfl h
noncomputable abbrev iV (K : W.Frag) : Sp := ft K 1 kJ
noncomputable def qL (K : W.Frag) : { t : TS // SS K t mt } := ⟨_, aI (b6 (bS (E := E0) (ah (aL 0) (ah (s_c rfl) aE)) (au (au (fun _ _ h => aZ h)))) (az 1)) (aI (b6 (bS (E := E0) (ah (ar qF (ae 1) ((s_c rfl).p)) (ah (ar bi (((kT (ah (s_c rfl) (ah (ar D7 ((s_c rfl).p) ((s_c rfl).p)) aE))).e).p) ((ar nS ((ar qF (ae 1) ((s_c rfl).p)).p) ((s_c rfl).p)).p)) aE)) (au (au (fun _ _ h => aZ h)))) (az 2)) (aI (b6 (bS (E := E0) (ah (ar qF (ae 1) ((s_c rfl).p)) (ah (ar bi (((kT (ah (s_c rfl) (ah (ar D7 ((s_c rfl).p) ((s_c rfl).p)) aE))).e).p) ((ar nS ((ar qF (ae 1) ((s_c rfl).p)).p) ((s_c rfl).p)).p)) aE)) (au (au (fun _ _ h => aZ h)))) (az 3)) (aI (mO (kT aE)) (aI (gh (pr ((gy D0 (aR ((s_c rfl).p) (aR ((ar fB ((gy jf (aR (ae 0) bN)).p) ((s_c rfl).p)).p) bN))).p)) (az 5) (aI (b6 (ar qF ((ar nS ((ar GA ((ar bi (ae 0) ((ar dl ((s_c rfl).p) (ae 5)).p)).p) ((s_c rfl).p)).p) ((s_c rfl).p)).p) ((s_c rfl).p)) (az 6)) (aI (gh (G3 (aR ((ar dl ((s_c rfl).p) (ae 5)).p) (aR ((gy D0 (aR ((gy jf (aR (ae 0) bN)).p) (aR ((s_c rfl).p) bN))).p) (aR ((s_c rfl).p) bN)))) (az 7) (b6 (ar dl (ae 6) ((ar nS ((ar GA ((s_c rfl).p) ((ar bi (ae 0) (ae 7)).p)).p) ((s_c rfl).p)).p)) (az 6))) (aI (b6 (bS (E := E0) (ah (aL 6) (ah (aL 2) (ah (ar (oB false) ((ar nS (ae 1) ((s_c rfl).p)).p) ((s_c rfl).p)) aE))) (au (au (au (fun _ _ h => aZ h))))) (az 8)) (hJ (bc (SE.p (ar BL ((gy jf (aR (ae 8) bN)).p) ((s_c rfl).p)))) (ue (lQ 4) ((fi (ah (ar dl (ae 3) (ae 5)) (ah (aL 8) aE))).t)) cK))))) (cc (gy rn (aR (ae 4) bN)))))))⟩
theorem za {K : W.Frag} {vs : List V} {H : Hp} {Q : VK} {E : XK} (h : iV K vs H Q E) : (qL K).1 { nx := fun _ H' => Q .non H', rt := Q } (aM ["_law_script", "_law_first", "_law_x", "_law_y", "_law_rows", "_law_k", "_law_bits", "_law_j", "_law_row_here"] vs) H := cU (qL K).2 rfl h
noncomputable abbrev iM (K : W.Frag) : Sp := ft K 2 k6
noncomputable def qJ (K : W.Frag) : { t : TS // SS K t jA } := ⟨_, aI (b6 ((fP (i7 (ae 1)) (az 0) (gU ((bS (E := E0) (ah (aL 1) (ah (aL 0) aE)) (au (au (fun _ _ h => aZ h)))).p)) (aL 0)).e) (az 2)) (aI (b6 ((fP (i7 (ae 1)) (az 0) (bc (SE.p (ar (Gd true) (ae 0) (ae 1)))) (aL 0)).e) (az 3)) (aI (b6 (s_c rfl) (az 4)) (aI (wL (bc (SE.p (ar vV (ae 4) ((gy jf (aR (ae 2) bN)).p)))) (aI (b6 ((fP (i7 (ae 3)) (az 0) (gU ((bS (E := E0) (ah (ar bi (ae 1) (ae 2)) (ah (aL 0) aE)) (au (au (fun _ _ h => aZ h)))).p)) (aL 0)).e) (az 5)) (aI (b6 ((fP (i7 (ae 3)) (az 0) (bc (SE.p (ar (Gd true) (ae 0) (ae 1)))) (aL 0)).e) (az 3)) (aI (b6 (ar dl (ae 2) (ae 5)) (az 2)) (b6 (ar dl (ae 4) ((s_c rfl).p)) (az 4)))))) (cc (aL 3)))))⟩
theorem xh {K : W.Frag} {vs : List V} {H : Hp} {Q : VK} {E : XK} (h : iM K vs H Q E) : (qJ K).1 { nx := fun _ H' => Q .non H', rt := Q } (aM ["_law_picture_here", "_law_gaps_here", "_law_opened", "_law_left", "_law_at", "_law_more"] vs) H := cU (qJ K).2 rfl h
noncomputable abbrev jU (K : W.Frag) : Sp := ft K 1 mr
noncomputable def tV (K : W.Frag) : { t : TS // SS K t lz } := ⟨_, aI (hJ (wz (p0 (gU ((gy Dd (aR (ae 0) (aR (SE.p (s_c rfl)) bN))).p))) (wz (bc (SE.p (ar (oB false) ((gy jf (aR (ae 0) bN)).p) ((s_c rfl).p)))) (bc (SE.p (ar Hz ((ar bi ((ar bi (ae 0) ((s_c rfl).p)).p) ((s_c rfl).p)).p) ((s_c rfl).p)))))) (cc (s_c rfl)) cK) (aI (gh (Er ((s_c rfl).p) ((gy jf (aR (ae 0) bN)).p)) (az 1) (aI (b6 (ar bi ((ar bi (ae 0) (ae 1)).p) ((s_c rfl).p)) (az 2)) (aI (hJ (wz (p0 (gU ((gy Dd (aR ((ar bi (ae 0) (ae 1)).p) (aR (SE.p (s_c rfl)) bN))).p))) (wz (bc (SE.p (ar Jm (ae 2) ((s_c rfl).p)))) (wz (bc (SE.p (ar vV (ae 2) ((s_c rfl).p)))) (bc (SE.p (ar Ia (ae 2) (ae 1))))))) (cc (s_c rfl)) cK) (aI (hJ (p0 (gU ((bS (E := E0) (ah (ar bi (ae 0) (ae 1)) (ah (ar bi (ae 0) (ae 2)) aE)) (au (au (fun _ _ h => aZ h)))).p))) (cc (s_c rfl)) cK) (aI (gh (pr (ae 2)) (az 3) (hJ (gU ((bS (E := E0) (ah (ar bi (ae 0) (ae 1)) (ah (ar bi (ae 0) (ae 3)) aE)) (au (au (fun _ _ h => aZ h)))).p)) (cc (s_c rfl)) cK)) (aI (b6 (ar bi (ae 0) ((ar fB (ae 1) ((s_c rfl).p)).p)) (az 4)) (aI (hJ (qP (bc (SE.p (ar BL (ae 1) ((s_c rfl).p)))) (bc (SE.p (ar vV (ae 2) ((ar bi (ae 4) ((s_c rfl).p)).p))))) (cc (s_c rfl)) cK) (hJ (qP (bc (SE.p (ar BL (ae 1) ((s_c rfl).p)))) (qP (bc (SE.p (ar (oB false) (ae 2) ((ar bi (ae 4) ((s_c rfl).p)).p)))) (bc (SE.p (ar HW ((xx ((ar bi (ae 0) (ae 1)).p) (il) (jF ((s_c rfl).p))).p) ((xx (ae 4) (il) (jF ((s_c rfl).p))).p)))))) (cc (s_c rfl)) cK)))))))) (cc (ar (oB false) ((xx ((ar bi (ae 0) ((s_c rfl).p)).p) (il) (jF ((s_c rfl).p))).p) ((gy GQ (aR (((fP (i7 (ae 0)) (az 0) t6 (xx (ae 0) (il) (jF ((s_c rfl).p)))).e).p) bN)).p))))⟩
theorem zH {K : W.Frag} {vs : List V} {H : Hp} {Q : VK} {E : XK} (h : jU K vs H Q E) : (tV K).1 { nx := fun _ H' => Q .non H', rt := Q } (aM ["_law_hole", "_law_k", "_law_place", "_law_j", "_law_ahead"] vs) H := cU (tV K).2 rfl h
noncomputable abbrev dN (K : W.Frag) : Sp := ft K 3 fF
noncomputable def ja (K : W.Frag) : { t : TS // SS K t gl } := ⟨_, cc (xx (ae 0) (jF ((gy G2 (aR ((s_c rfl).p) (aR ((ar fB ((bS (E := E0) (ah (aL 0) (ah (aL 1) aE)) (au (au (fun _ _ h => aZ h)))).p) ((s_c rfl).p)).p) bN))).p)) (jF ((bS (E := E0) (ah (aL 0) (ah (aL 2) aE)) (au (au (fun _ _ h => aZ h)))).p)))⟩
theorem o4 {K : W.Frag} {vs : List V} {H : Hp} {Q : VK} {E : XK} (h : dN K vs H Q E) : (ja K).1 { nx := fun _ H' => Q .non H', rt := Q } (aM ["pairs", "first", "last"] vs) H := cU (ja K).2 rfl h
noncomputable abbrev c5 (K : W.Frag) : Sp := ft K 1 eF
noncomputable def gQ (K : W.Frag) : { t : TS // SS K t eX } := ⟨_, cc (bS (E := E0) (ah ((fP (i7 (ae 0)) (nR (cA (az 0) (cA (az 1) oA)) (bJ (bJ jB))) t6 (fi (ah (aL 0) (ah (bS (E := E0) (ah (aL 1) aE) (au (fun _ _ h => aZ h))) aE)))).e) aE) (au (fun _ _ h => aZ h)))⟩
theorem mG {K : W.Frag} {vs : List V} {H : Hp} {Q : VK} {E : XK} (h : c5 K vs H Q E) : (gQ K).1 { nx := fun _ H' => Q .non H', rt := Q } (aM ["picture"] vs) H := cU (gQ K).2 rfl h
noncomputable abbrev jh (K : W.Frag) : Sp := ft K 2 jn
noncomputable def uP (K : W.Frag) : { t : TS // SS K t kA } := ⟨_, aI (b6 (bS (E := E0) (ah (aL 0) (ah (aL 1) aE)) (au (au (fun _ _ h => aZ h)))) (az 2)) (aI (hJ (qP (bc (SE.p (ar BL (ae 2) ((s_c rfl).p)))) (bc (SE.p (ar (oB false) ((ar bi ((ar bi (ae 0) ((ar fB (ae 2) ((s_c rfl).p)).p)).p) ((s_c rfl).p)).p) (ae 1))))) (cc (ar bi ((ar bi (ae 0) ((ar fB (ae 2) ((s_c rfl).p)).p)).p) ((s_c rfl).p))) cK) (cc (fi aE)))⟩
theorem Ct {K : W.Frag} {vs : List V} {H : Hp} {Q : VK} {E : XK} (h : jh K vs H Q E) : (uP K).1 { nx := fun _ H' => Q .non H', rt := Q } (aM ["picture", "y", "begun"] vs) H := cU (uP K).2 rfl h
noncomputable abbrev jS (K : W.Frag) : Sp := ft K 4 mv
noncomputable def sd (K : W.Frag) : { t : TS // SS K t lH } := ⟨_, aI (gh (oP (fi (ah (bS (E := E0) (ah (aL 0) (ah (ar fB (ae 1) ((s_c rfl).p)) aE)) (au (au (fun _ _ h => aZ h)))) (ah (bS (E := E0) (ah (aL 0) (ah (ar dl (ae 1) ((s_c rfl).p)) aE)) (au (au (fun _ _ h => aZ h)))) aE)))) (az 4) (hJ (wz (bc (SE.p (ar (oB false) (ae 4) ((fi aE).p)))) (wz (bc (SE.p (ar vV (ae 2) ((ar bi ((ar bi (ae 4) ((s_c rfl).p)).p) ((s_c rfl).p)).p)))) (bc (SE.p (ar BL (ae 3) ((ar bi ((ar bi (ae 4) ((B2 u8 ((s_c rfl).p)).p)).p) ((s_c rfl).p)).p)))))) (cc (s_c rfl)) cK)) (cc (s_c rfl))⟩
theorem zA {K : W.Frag} {vs : List V} {H : Hp} {Q : VK} {E : XK} (h : jS K vs H Q E) : (sd K).1 { nx := fun _ H' => Q .non H', rt := Q } (aM ["picture", "y", "a", "b", "row"] vs) H := cU (sd K).2 rfl h
noncomputable abbrev iC (K : W.Frag) : Sp := ft K 3 kR
noncomputable def qI (K : W.Frag) : { t : TS // SS K t nA } := ⟨_, aI (b6 (ar fB ((ar bi (ae 1) ((s_c rfl).p)).p) (ae 2)) (az 3)) (aI (b6 (ar dl ((ar bi (ae 1) ((s_c rfl).p)).p) (ae 2)) (az 4)) (aI (mO (kT aE)) (aI (gh (oP (fi (ah (ar fB ((ar bi (ae 1) ((s_c rfl).p)).p) ((s_c rfl).p)) (ah (ar dl ((ar bi (ae 1) ((s_c rfl).p)).p) ((s_c rfl).p)) aE)))) (az 6) (Di (lQ 5) ((fP (i7 ((bS (E := E0) (ah (bS (E := E0) (ah (aL 0) (ah (aL 6) aE)) (au (au (fun _ _ h => aZ h)))) (ah (aL 3) (ah (aL 4) aE))) (au (au (au (fun _ _ h => aZ h))))).p)) (nR (cA (az 0) (cA (az 1) oA)) (bJ (bJ jB))) (bc (SE.p (ar Ia (ae 1) (ae 3)))) (fi (ah (aL 2) (ah (aL 0) (ah (aL 1) aE))))).e))) (rQ 5))))⟩
theorem zk {K : W.Frag} {vs : List V} {H : Hp} {Q : VK} {E : XK} (h : iC K vs H Q E) : (qI K).1 { nx := fun _ H' => Q .non H', rt := Q } (aM ["picture", "stretch", "reach", "first", "last", "found", "y"] vs) H := cU (qI K).2 rfl h
noncomputable abbrev gA (K : W.Frag) : Sp := ft K 3 b9
noncomputable def nK (K : W.Frag) : { t : TS // SS K t iP } := ⟨_, aI (mO (kT (ah (ar dl (ae 1) ((fi (ah (s_c rfl) aE)).p)) aE))) (aI (sn (HF (aL 1))) (aI (b6 (s_c rfl) (az 5)) (aI (wL (bc (SE.p (ar vV (ae 5) ((gy jf (aR (ae 3) bN)).p)))) (aI (gh (oP (bS (E := E0) (ah (aL 0) (ah (ar bi (ae 3) (ae 5)) (ah (aL 2) aE))) (au (au (au (fun _ _ h => aZ h)))))) (az 6) (hJ (IA (zp (i := 4) (aL 6))) (aI (GD (i := 4) (aL 6)) (ue (lQ 3) ((ar dl (ae 6) ((fi (ah (aL 5) aE)).p)).t))) cK)) (Ji ((s_c rfl).p) Fo))) (rQ 3))))⟩
theorem vU {K : W.Frag} {vs : List V} {H : Hp} {Q : VK} {E : XK} (h : gA K vs H Q E) : (nK K).1 { nx := fun _ H' => Q .non H', rt := Q } (aM ["picture", "first", "reach", "walk", "walked", "place", "stretch"] vs) H := cU (nK K).2 rfl h
noncomputable abbrev fZ (K : W.Frag) : Sp := ft K 2 d6
noncomputable def lR (K : W.Frag) : { t : TS // SS K t jH } := ⟨_, aI (mO (kT aE)) (aI (sn GP) (aI (gh (oP (bS (E := E0) (ah (aL 0) aE) (au (fun _ _ h => aZ h)))) (az 4) (hJ (IA (zp (i := 3) (aL 4))) (aI (ue (lQ 2) (rK (E := E0) (ah (aL 0) (ah (aL 4) (ah (aL 1) aE))) (au (au (au (fun _ _ h => aZ h)))))) (GH (i := 3) (fP (Ep (JG (lQ 2) ((B2 u8 ((s_c rfl).p)).p))) (nR (cA (az 0) (cA (az 1) (cA (az 2) (cA (az 3) oA)))) (bJ (bJ (bJ (bJ jB))))) t6 (fi (ah (fi (ah (aL 0) (ah (aL 1) (ah (aL 2) aE)))) (ah (s_c rfl) aE)))))) cK)) (rQ 2)))⟩
theorem uE {K : W.Frag} {vs : List V} {H : Hp} {Q : VK} {E : XK} (h : fZ K vs H Q E) : (lR K).1 { nx := fun _ H' => Q .non H', rt := Q } (aM ["picture", "reach", "classes", "walked", "stretch"] vs) H := cU (lR K).2 rfl h
noncomputable abbrev oE (K : W.Frag) : Sp := ft K 1 k9
noncomputable def yi (K : W.Frag) : { t : TS // SS K t rA } := ⟨_, aI (sn (rK (E := E0) (ah (bS (E := E0) (ah (aL 0) aE) (au (fun _ _ h => aZ h))) (ah (s_c rfl) aE)) (au (au (fun _ _ h => aZ h))))) (Hc (p0 (gU ((gy IJ (aR (((fP (Ep (lQ 0)) (nR (cA (az 0) (cA (az 1) (cA (az 2) (cA (az 3) oA)))) (bJ (bJ (bJ (bJ jB))))) t6 (bS (E := E0) (ah (aL 4) (ah (aL 0) (ah (aL 1) (ah (aL 2) aE)))) (au (au (au (au (fun _ _ h => aZ h))))))).e).p) bN)).p))))⟩
theorem C1 {K : W.Frag} {vs : List V} {H : Hp} {Q : VK} {E : XK} (h : oE K vs H Q E) : (yi K).1 { nx := fun _ H' => Q .non H', rt := Q } (aM ["picture", "classes"] vs) H := cU (yi K).2 rfl h
noncomputable abbrev sZ (K : W.Frag) : Sp := ft K 1 zB
noncomputable def EJ (K : W.Frag) : { t : TS // SS K t Bh } := ⟨_, aI (b6 (bS (E := E0) (ah (aL 0) aE) (au (fun _ _ h => aZ h))) (az 1)) (aI (sn (rK (E := E0) (ah (aL 1) aE) (au (fun _ _ h => aZ h)))) (aI (hJ (p0 (Hr (Io Dd (rJ (Eg 2) (rJ ((SE.p (s_c rfl)).q) AI))))) (cc (s_c rfl)) cK) (aI (b6 ((kT aE).e) (az 3)) (aI (Fh (p0 (gU ((Be (E := E0) (rJ ((ae 4).q) (AI)) (au (fun _ _ h => aZ h))).p))) (ar dl (ae 3) (((fP (i7 (ae 4)) (az 0) t6 (xx (ae 0) (il) (jF ((s_c rfl).p)))).e).p))) (aI (hJ (wz (bc (SE.p (ar (oB true) (((Gg Dk (aR (ae 3) bN)).e).p) ((bS (E := E0) (ah (aL 1) (ah (bS (E := E0) (ah (aL 1) aE) (au (fun _ _ h => aZ h))) aE)) (au (au (fun _ _ h => aZ h)))).p)))) (p0 (gU ((Be (E := E0) (rJ (Eg 2) (AI)) (au (fun _ _ h => aZ h))).p)))) (cc (s_c rfl)) cK) (aI (b6 ((F5 ((Gg Hd (aR (ae 0) bN)).e)).e) (az 5)) (Ee (n := 1) (cc (ar (oB false) ((bS (E := E0) (ah (aL 1) aE) (au (fun _ _ h => aZ h))).p) (ae 5))))))))))⟩
theorem Hw {K : W.Frag} {vs : List V} {H : Hp} {Q : VK} {E : XK} (h : sZ K vs H Q E) : (EJ K).1 { nx := fun _ H' => Q .non H', rt := Q } (aM ["_law_script", "_law_picture_here", "_law_found", "_law_members", "_law_hole", "_law_kept"] vs) H := cU (EJ K).2 rfl h
end P
namespace P
open PySem L2 M Rw
noncomputable def Kz : List Int -> Int × Int
 | [a, b] => (a, b)
 | _ => (0, 0)
theorem cb {n : Nat} (h : n <= 100000) : n <= LIM := Mm h (by rw [fL]; decide)
theorem gE {n : Nat} (h : n <= 100000) : n < LIM := MJ h (by rw [fL]; decide)
theorem Dy (a b : Int) : D.tup [.int a, .int b] = prD (a, b) := rfl
theorem A6 {r : R} {i : Nat} {p : Int × Int} (h : r[i]? = some p) : atI (r.map prD) (i : Int) = some (prD p) := cQ (by rw [L3, h]; rfl)
theorem oM (n : Nat) : fj 0 n = (List.range n).map fun k : Nat => D.int (k : Int) := by
 apply List.ext_getElem?
 intro i
 cases q : (fj 0 n)[i]? with
 | none =>
  have := MV.mp q
  rw [lw] at this
  rw [List.getElem?_eq_none (by rw [LR, MO]; exact this)]
 | some d =>
  obtain ⟨h1, rfl⟩ := lJ n 0 i d q
  rw [L3, List.getElem?_range h1]
  simp
theorem Fs {α β : Type} (f : α -> β) (xs : List α) (lo hi : Option Int) : kE (xs.map f) lo hi = (kE xs lo hi).map f := by
 unfold kE
 rw [LR, <- List.map_drop, <- List.map_take]
theorem HH {α : Type} (xs : List α) (lo hi : Option Int) : (kE xs lo hi).length <= xs.length := by
 exact Mm (List.length_take_le' _ _) (by rw [List.length_drop]; exact Nat.sub_le _ _)
theorem aH {m n : XS} {ρ ρ' : M.Env} (h : m ρ = some (.nx ρ')) : aX m n ρ = n ρ' := by unfold aX; rw [h]
theorem Bj {n d : Nat} {v : Int} (h : 0 <= v) : HT.sIx n d (some v) = min v.toNat n := by
 show (if v < 0 then _ else _) = _
 rw [LP (by lia)]
noncomputable abbrev Tri := Int × Int × Int
noncomputable abbrev aj (t : Tri) : D := .tup [.int t.1, .int t.2.1, .int t.2.2]
noncomputable abbrev Pic := List (Int × R)
noncomputable abbrev pyD (q : Int × R) : D := .tup [.int q.1, cz q.2]
noncomputable abbrev aB (p : Pic) : D := .tup (p.map pyD)
def Ku (ts : List Tri) (x y : Int) : Prop := ∃ t ∈ ts, t.1 = y /\ t.2.1 <= x /\ x <= t.2.2
def JN (p : Pic) (x y : Int) : Prop := ∃ q ∈ p, q.1 = y /\ Mem q.2 x
def bz (p : Pic) : Prop := (∀ q ∈ p, fw q.2 /\ q.2 ≠ []) /\ p.Pairwise fun a b => a.1 < b.1
theorem zT : bz [] := ⟨fun _ h => (by cases h), .nil⟩
theorem pcanon_cons {q : Int × R} {p : Pic} : bz (q :: p) ↔ (fw q.2 /\ q.2 ≠ []) /\ (∀ s ∈ p, q.1 < s.1) /\ bz p := by
 constructor
 ·rintro ⟨h1, h2⟩
  have h3 := List.pairwise_cons.mp h2
  exact ⟨h1 q LV, h3.1, fun s hs => h1 s (LY _ hs), h3.2⟩
 ·rintro ⟨h1, h2, h3, h4⟩
  refine ⟨fun s hs => ?_, List.pairwise_cons.mpr ⟨h2, h4⟩⟩
  rcases L9.mp hs with rfl | hs
  ·exact h1
  ·exact h3 s hs
noncomputable def bq (t : Tri) : List Int := [t.1, t.2.1, t.2.2]
noncomputable def wC : List Int -> Tri
 | [a, b, c] => (a, b, c)
 | _ => (0, 0, 0)
theorem vd : ∀ r : List Tri, keys (r.map aj) = some (r.map bq)
 | [] => rfl
 | p :: r => by rw [L1, keys, vd r]; rfl
theorem B1 : ∀ {r : List Tri}, r ≠ [] -> bg (r.map aj) = none
 | [], h => absurd rfl h
 | _ :: _, _ => rfl
noncomputable def lV (ts : List Tri) : List Tri := (kF (ts.map bq)).map wC
theorem tK (ts : List Tri) : (lV ts).map bq = kF (ts.map bq) := by
 unfold lV
 rw [MF]
 have h : ∀ k ∈ kF (ts.map bq), (bq ∘ wC) k = k := fun k hk => by
  have := (m7 _).mem_iff.mp hk
  obtain ⟨p, _, rfl⟩ := L7.mp this
  rfl
 rw [List.map_congr_left h, List.map_id']
theorem fW (ts : List Tri) : (lV ts).Perm ts := by
 have h := (m7 (ts.map bq)).map wC
 rw [MF] at h
 have e : (wC ∘ bq) = id := rfl
 rw [e, List.map_id] at h
 exact h
theorem wc (ts : List Tri) (h : ts.length < 30000) : oz [.lst (ts.map aj)] = some ((lV ts).map aj) := by
 show (if (ts.map aj).length < 30000 then _ else _) = _
 rw [LO (by rw [LR]; exact h)]
 by_cases e : ts = []
 ·subst e
  have e0 : lV [] = [] := List.length_eq_zero_iff.mp (by rw [(fW []).length_eq]; rfl)
  have e1 : ve [] = [] := List.length_eq_zero_iff.mp (by rw [(ud []).length_eq]; rfl)
  show some ((ve []).map D.int) = _
  rw [e0, e1]
  rfl
 ·rw [B1 e]
  dsimp only
  rw [vd]
  have : (lV ts).map aj = (kF (ts.map bq)).map wI := by
   rw [<- tK, MF]
   rfl
  rw [this]
  rfl
structure GOk (gs : Pic) (ts : List Tri) : Prop where
 ne : ∀ g ∈ gs, g.2 ≠ [] /\ Ok g.2
 up : gs.Pairwise fun a b => a.1 < b.1
 mem : ∀ x y, JN gs x y ↔ Ku ts x y
 le : ∀ g ∈ gs, ∃ t ∈ ts, g.1 = t.1
 len : (gs.map fun g => g.2.length).sum = ts.length
noncomputable def ao (p : Pic) : List Tri := p.flatMap fun q => q.2.map fun s => (q.1, s)
theorem cu (q : Int × R) (p : Pic) : ao (q :: p) = (q.2.map fun s => (q.1, s)) ++ ao p := rfl
mutual
theorem rV : ∀ (n : Nat) (d : D), okD n d = true -> eqD d d = true
 | _, .non, _ => by simp [eqD]
 | _, .bl _, _ => by simp [eqD]
 | _, .int _, _ => by simp [eqD]
 | _, .str _, _ => by simp [eqD]
 | 0, .lst _, h => by simp [okD] at h
 | n + 1, .lst l, h => by rw [eqD]; exact eqDs_refl n l (by simpa [okD] using h)
 | 0, .tup _, h => by simp [okD] at h
 | n + 1, .tup l, h => by rw [eqD]; exact eqDs_refl n l (by simpa [okD] using h)
 | n, .ty _, h => by cases n <;> simp [okD] at h
 | n, .scr _, h => by cases n <;> simp [okD] at h
 | n, .ins _ _ _, h => by cases n <;> simp [okD] at h
 | n, .dic _, h => by cases n <;> simp [okD] at h
theorem eqDs_refl : ∀ (n : Nat) (l : List D), okDs n l = true -> eqDs l l = true
 | _, [], _ => by simp [eqDs]
 | n, d :: l, h => by
  rw [okDs, Mw] at h
  rw [eqDs, rV n d h.1, eqDs_refl n l h.2]
  rfl
end
theorem kP {α : Type} {n : Nat} {f : α -> D} : ∀ (l : List α), (∀ a ∈ l, okD n (f a) = true) -> okDs n (l.map f) = true
 | [], _ => by simp [okDs]
 | a :: l, h => by rw [L1, okDs, h a LV, kP l fun b hb => h b (LY _ hb)]; rfl
theorem sv {d : D} (neg : Bool) (h : okD 50 d = true) : dEq neg d d = some (.bl (!neg)) := by
 unfold dEq
 rw [LO ⟨h, h⟩, rV 50 d h]
 cases neg <;> rfl
theorem rB (n : Nat) (t : Tri) : okD (n + 1) (aj t) = true := by simp [okD, okDs]
theorem E4 (ts : List Tri) : okD 50 (.lst (ts.map aj)) = true := by
 rw [okD]
 exact kP ts fun t _ => rB 48 t
theorem gv (p q : Pic) : ao (p ++ q) = ao p ++ ao q := by unfold ao; rw [List.flatMap_append]
theorem lX {p : Pic} {q : Int × R} (h : q ∈ p) : q.2.length <= (ao p).length := by
 induction p with
 | nil => cases h
 | cons s p ih =>
  rw [cu, LZ, LR]
  rcases L9.mp h with rfl | h
  ·lia
  ·have := ih h; lia
theorem mJ (p : Pic) (h : (ao p).length <= 100000) : et [aB p] = some (.lst ((ao p).map (O.sh ∘ aj))) := by
 obtain ⟨ρ', k1, v2, v3, rfl⟩ := bL (g := cO (aw (af 2) (aw (af 3) cF))) (m := fY) pyD (fun pre ρ => ∃ v2 v3, ρ = [.sh (aB p), .ow (.lst ((ao pre).map (O.sh ∘ aj))), v2, v3]) p [.sh (aB p), .ow (.lst []), .un, .un] ⟨_, _, rfl⟩ (by
  rintro pre q post _ e ⟨v2, v3, rfl⟩
  have hlen : (ao pre).length + q.2.length <= 100000 := by
   rw [e, gv, cu, LZ, LZ, LR] at h
   lia
  have hl : (ao pre).length + q.2.length <= LIM := cb hlen
  have hl2 : q.2.length <= LIM := cb (by lia)
  have hc : dZ (cO (aw (af 0) (aw (af 1) cF))) eD (dF (ac (aC 2) (ac (aC 0) (ac (aC 1) aq)))) [.un, .un, .sh (.int q.1)] (q.2.map prD) = some (q.2.map fun s => aj (q.1, s)) := gH prD _ q.2 fun s _ => by simp [kG]
  refine ⟨_, [.sh (aB p), .ow (.lst ((ao (pre ++ [q])).map (O.sh ∘ aj))), .sh (.int q.1), .sh (cz q.2)], rfl, .inl ?_, _, _, rfl⟩
  have es : ao (pre ++ [q]) = ao pre ++ q.2.map fun s => (q.1, s) := by rw [gv, cu]; simp [ao]
  rw [es]
  simp [fY, hl, hl2, hc])
 simp [et, fnO, hZ, k1]
theorem nI (p : Pic) (h : (ao p).length <= 100000) : ci [aB p] = some (.lst ((ao p).map aj)) := by
 unfold ci
 rw [mJ p h]
 simp
theorem fH {α : Type} (l : List α) (k : α -> Int) (enc : α -> D) (x : Int) (he : ∀ a, dIx (enc a) (.int 0) = some (.int (k a))) (hl : l.length <= 100000) (pw : l.Pairwise fun a b => k a < k b) :
  ∃ n : Nat, n <= l.length /\ ba [.tup (l.map enc), .int x] = some (.int n) /\ ∀ (i : Nat) a, l[i]? = some a -> (k a <= x ↔ i < n) := by
 have lt : ∀ (i j : Nat) a b, l[i]? = some a -> l[j]? = some b -> i < j -> k a < k b := fun i j a b hi hj hij => by
  obtain ⟨h1, rfl⟩ := LW.mp hi
  obtain ⟨h2, rfl⟩ := LW.mp hj
  exact MP.mp pw i j h1 h2 hij
 obtain ⟨ρ', k1, n, v3, v4, rfl, h1, h2⟩ := nG (c := eg) (m := eu)
  (fun ρ => ∃ (lo hi : Nat) (v4 : Sl), ρ = [.sh (.tup (l.map enc)), .sh (.int x), .sh (.int lo), .sh (.int hi), v4] /\ lo <= hi /\ hi <= l.length /\ (∀ (i : Nat) a, l[i]? = some a -> i < lo -> k a <= x) /\ ∀ (i : Nat) a, l[i]? = some a -> hi <= i -> x < k a)
  (fun ρ => match ρ with | [_, _, .sh (.int lo), .sh (.int hi), _] => (hi - lo).toNat | _ => 0)
  (fun ρ => ∃ (n : Nat) (v3 v4 : Sl), ρ = [.sh (.tup (l.map enc)), .sh (.int x), .sh (.int n), v3, v4] /\ n <= l.length /\ ∀ (i : Nat) a, l[i]? = some a -> (k a <= x ↔ i < n))
  (by
   rintro _ ⟨lo, hi, v4, rfl, h1, h2, h3, h4⟩
   by_cases hc : lo < hi
   ·right
    have hc' : (lo : Int) < hi := by lia
    obtain ⟨a, ha⟩ : ∃ a, l[(lo + hi) / 2]? = some a := ⟨_, Mf (by lia)⟩
    have em : ((lo : Int) + hi) / 2 = (((lo + hi) / 2 : Nat) : Int) := by lia
    have ea : atI (l.map enc) (((lo : Int) + hi) / 2) = some (enc a) := by rw [em]; exact cQ (by rw [L3, ha]; rfl)
    refine ⟨by simp [eg, hc'], ?_⟩
    by_cases ck : k a <= x
    ·refine ⟨[.sh (.tup (l.map enc)), .sh (.int x), .sh (.int (((lo + hi) / 2 + 1 : Nat) : Int)), .sh (.int hi), .sh (.int (((lo : Int) + hi) / 2))], ?_, ⟨(lo + hi) / 2 + 1, hi, _, rfl, by lia, h2, fun i b hb hi' => ?_, h4⟩, by dsimp only; lia⟩
     ·simp [eu, ea, he, ck]
     ·by_cases z : i = (lo + hi) / 2
      ·subst z; rw [ha] at hb; cases hb; exact ck
      ·have := lt i _ b a hb ha (by lia); lia
    ·refine ⟨[.sh (.tup (l.map enc)), .sh (.int x), .sh (.int lo), .sh (.int (((lo + hi) / 2 : Nat) : Int)), .sh (.int (((lo : Int) + hi) / 2))], ?_, ⟨lo, (lo + hi) / 2, _, rfl, by lia, by lia, h3, fun i b hb hi' => ?_⟩, by dsimp only; lia⟩
     ·simp [eu, ea, he, ck]
     ·by_cases z : i = (lo + hi) / 2
      ·subst z; rw [ha] at hb; cases hb; lia
      ·have := lt _ i a b ha hb (by lia); lia
   ·left
    have hc' : ¬ (lo : Int) < hi := by lia
    have e : lo = hi := by lia
    subst e
    refine ⟨by simp [eg], lo, _, _, rfl, h2, fun i a ha => ⟨fun hk => ?_, fun hi' => h3 i a ha hi'⟩⟩
    by_cases z : i < lo
    ·exact z
    ·have := h4 i a ha (by lia); lia)
  [.sh (.tup (l.map enc)), .sh (.int x), .sh (.int 0), .sh (.int l.length), .un]
  ⟨0, l.length, _, rfl, Mr _, LU _, fun i a _ h => absurd h (Nat.not_lt_zero _), fun i a ha h => by have := (LW.mp ha).1; lia⟩
 refine ⟨n, h1, ?_, h2⟩
 simp [ba, ip, fnO, i8, k1]
noncomputable def bj (p : Pic) (y : Int) : R := match p.find? fun q => decide (q.1 = y) with | some q => q.2 | none => []
theorem kO {p : Pic} (c : bz p) {q : Int × R} (hq : q ∈ p) : bj p q.1 = q.2 := by
 unfold bj
 cases e : p.find? fun s => decide (s.1 = q.1) with
 | none =>
  have := List.find?_eq_none.mp e q hq
  simp at this
 | some s =>
  have h1 := List.find?_some e
  have h2 := List.mem_of_find?_eq_some e
  have h3 : s.1 = q.1 := MI h1
  have : s = q := by
   obtain ⟨i, hi⟩ := ME h2
   obtain ⟨j, hj⟩ := ME hq
   obtain ⟨li, ei⟩ := LW.mp hi
   obtain ⟨lj, ej⟩ := LW.mp hj
   have pw := MP.mp c.2
   by_cases z : i < j
   ·have := pw i j li lj z; rw [ei, ej] at this; lia
   ·by_cases z2 : j < i
    ·have := pw j i lj li z2; rw [ei, ej] at this; lia
    ·have : i = j := by lia
     subst this
     rw [hi] at hj; exact Ml hj
  rw [this]
theorem jL {p : Pic} {y : Int} (h : ∀ q ∈ p, q.1 ≠ y) : bj p y = [] := by
 unfold bj
 have : p.find? (fun q => decide (q.1 = y)) = none := List.find?_eq_none.mpr fun q hq => by simpa using h q hq
 rw [this]
theorem qy {p : Pic} (c : bz p) (y : Int) : fw (bj p y) := by
 by_cases h : ∃ q ∈ p, q.1 = y
 ·obtain ⟨q, hq, rfl⟩ := h
  rw [kO c hq]; exact (c.1 q hq).1
 ·rw [jL fun q hq e => h ⟨q, hq, e⟩]; exact je
theorem kt (p : Pic) (y : Int) (c : bz p) (h : p.length <= 100000) : bG [aB p, .int y] = some (cz (bj p y)) := by
 obtain ⟨n, h1, h2, h3⟩ := fH p (·.1) pyD y (fun a => by simp) h c.2
 by_cases hn : n = 0
 ·subst hn
  have e : bj p y = [] := jL fun q hq e => by
   obtain ⟨j, ej⟩ := ME hq
   exact absurd ((h3 j q ej).mp (by lia)) (Nat.not_lt_zero _)
  simp at h2
  simp [bG, jn, fnO, kA, h2, e]
 ·obtain ⟨q, hq⟩ : ∃ q, p[n - 1]? = some q := ⟨_, Mf (by lia)⟩
  have en : (n : Int) - 1 = ((n - 1 : Nat) : Int) := by lia
  have ea : atI (p.map pyD) ((n : Int) - 1) = some (pyD q) := by rw [en]; exact cQ (by rw [L3, hq]; rfl)
  have hn' : (0 : Int) < n := by lia
  have hn2 : 0 < n := by lia
  by_cases hy : q.1 = y
  ·have e : bj p y = q.2 := by rw [<- hy]; exact kO c (ML hq)
   simp [bG, jn, fnO, kA, h2, hn, hn', hn2, ea, hy, e]
  ·have e : bj p y = [] := jL fun s hs e => by
    obtain ⟨j, ej⟩ := ME hs
    have hj := (h3 j s ej).mp (by lia)
    by_cases z : j = n - 1
    ·subst z; rw [hq] at ej; cases ej; exact hy e
    ·obtain ⟨l1, e1⟩ := LW.mp ej
     obtain ⟨l2, e2⟩ := LW.mp hq
     have := MP.mp c.2 j (n - 1) l1 l2 (by lia)
     rw [e1, e2] at this
     have := (h3 _ _ hq).mpr (by lia)
     lia
   simp [bG, jn, fnO, kA, h2, hn, hn', hn2, ea, hy, e]
theorem lI {c : XT} {m n : XS} {ρ : M.Env} (h : c ρ = some true) : xIf c m n ρ = m ρ := by unfold xIf; rw [h]; rfl
theorem cv {c : XT} {m n : XS} {ρ : M.Env} (h : c ρ = some false) : xIf c m n ρ = n ρ := by unfold xIf; rw [h]; rfl
theorem F0 {q : Int} (hq : 1 <= q) {k : Nat} (hk : k < 8) : ∃ s, 1 <= s /\ atI [D.int 1, .int 2, .int 1, .int q, .int 1, .int 1, .int 3, .int 2] (k : Int) = some (.int s) := by
 have : k = 0 \/ k = 1 \/ k = 2 \/ k = 3 \/ k = 4 \/ k = 5 \/ k = 6 \/ k = 7 := by lia
 rcases this with rfl | rfl | rfl | rfl | rfl | rfl | rfl | rfl
 ·exact ⟨1, by lia, rfl⟩
 ·exact ⟨2, by lia, rfl⟩
 ·exact ⟨1, by lia, rfl⟩
 ·exact ⟨q, hq, rfl⟩
 ·exact ⟨1, by lia, rfl⟩
 ·exact ⟨1, by lia, rfl⟩
 ·exact ⟨3, by lia, rfl⟩
 ·exact ⟨2, by lia, rfl⟩
theorem BM (bits x : Int) (wide : Bool) (acc : R) (k : Nat) (hk : k < 8) (v5 : Sl) (c : fw acc) (hx : ∀ p ∈ acc, p.2 <= x - 1) (hl : acc.length <= 100) :
  ∃ bits' x' acc' v5', oH [.sh (.int bits), .sh (.int x), .sh (.bl wide), owl (acc.map prD), .sh (.int k), v5] = some (.nx [.sh (.int bits'), .sh (.int x'), .sh (.bl wide), owl (acc'.map prD), .sh (.int k), v5']) /\ fw acc' /\ (∀ p ∈ acc', p.2 <= x' - 1) /\ acc'.length <= acc.length + 1 := by
 have hlim : acc.length < LIM := gE (by lia)
 obtain ⟨q, hq1, hq⟩ : ∃ q : Int, 1 <= q /\ yH (.int 10) (.int 40) = some (.int q) := ⟨_, by decide, Gr (by decide)⟩
 obtain ⟨s, hs, h1⟩ : ∃ s : Int, 1 <= s /\ ∀ (n : XS), aX (cP (xC (.int 1)) (af 5)) (aX (xIf (dQ (ab 2)) (cP (xOp dIx (xL (nU (ac (xC (.int 1)) (ac (xC (.int 2)) (ac (xC (.int 1)) (ac (xOp yH (xC (.int 10)) (xC (.int 40))) (ac (xC (.int 1)) (ac (xC (.int 1)) (ac (xC (.int 3)) (ac (xC (.int 2)) aq)))))))))) (ab 4)) (af 5)) dM) n) [.sh (.int bits), .sh (.int x), .sh (.bl wide), owl (acc.map prD), .sh (.int k), v5] = n [.sh (.int bits), .sh (.int x), .sh (.bl wide), owl (acc.map prD), .sh (.int k), .sh (.int s)] := by
  cases wide with
  | false => exact ⟨1, by lia, fun n => by simp⟩
  | true =>
   obtain ⟨s, hs, e⟩ := F0 hq1 hk
   exact ⟨s, hs, fun n => by simp [hq, e]⟩
 unfold oH
 rw [h1]
 have hq : ∃ b : Bool, ∀ v : Sl, xOr (xB (xOp (dEq false) (xOp n4 (ab 0) (xC (.int 2))) (xC (.int 1)))) (xB (xOp (dEq false) (xOp n4 (xOp qY (ab 0) (xC (.int 512))) (xC (.int 4))) (xC (.int 1)))) [.sh (.int bits), .sh (.int x), .sh (.bl wide), v, .sh (.int k), .sh (.int s)] = some b := by
  by_cases h1 : bits % 2 = 1
  ·exact ⟨true, fun v => by simp [h1]⟩
  ·by_cases h2 : bits / 512 % 4 = 1
   ·exact ⟨true, fun v => by simp [h1, h2]⟩
   ·exact ⟨false, fun v => by simp [h1, h2]⟩
 obtain ⟨b, hb⟩ := hq
 cases b with
 | true =>
  rcases List.eq_nil_or_concat acc with rfl | ⟨t, p, rfl⟩
  ·refine ⟨bits / 2, x + s, [(x, x + s - 1)], .sh (.int s), ?_, canon_cons.mpr ⟨by dsimp only; lia, fun _ h => (by cases h), je⟩, fun p hp => ?_, by simp⟩
   ·rw [aH (ρ' := [.sh (.int bits), .sh (.int x), .sh (.bl wide), owl ([(x, x + s - 1)].map prD), .sh (.int k), .sh (.int s)]) (by rw [lI (hb _)]; simp [prD])]
    simp
   ·rw [L4.mp hp]; dsimp only; lia
  ·rw [List.concat_eq_append] at *
   obtain ⟨ct, hp, ht⟩ := canon_snoc.mp c
   have at1 : atI (t.map prD ++ [prD p]) (-1) = some (prD p) := oK _ _
   have hpx := hx p (by simp)
   have hlim' : t.length + 1 < LIM := by simpa using hlim
   by_cases he : p.2 = x - 1
   ·refine ⟨bits / 2, x + s, t ++ [(p.1, x + s - 1)], .sh (.int s), ?_, canon_snoc.mpr ⟨ct, by dsimp only; lia, ht⟩, fun r hr => ?_, by simp⟩
    ·have hpos : (0 : Int) < (t.length : Int) + 1 := by lia
     rw [aH (ρ' := [.sh (.int bits), .sh (.int x), .sh (.bl wide), owl ((t ++ [(p.1, x + s - 1)]).map prD), .sh (.int k), .sh (.int s)]) (by rw [lI (hb _)]; simp [at1, he, wX, Dy, hpos])]
     simp
    ·rcases Mb.mp hr with hr | hr
     ·have := hx r (by simp [hr]); lia
     ·rw [L4.mp hr]; dsimp only; lia
   ·refine ⟨bits / 2, x + s, t ++ [p] ++ [(x, x + s - 1)], .sh (.int s), ?_, canon_snoc.mpr ⟨c, by dsimp only; lia, fun r hr => ?_⟩, fun r hr => ?_, by simp⟩
    ·have hpos : (0 : Int) < (t.length : Int) + 1 := by lia
     rw [aH (ρ' := [.sh (.int bits), .sh (.int x), .sh (.bl wide), owl ((t ++ [p] ++ [(x, x + s - 1)]).map prD), .sh (.int k), .sh (.int s)]) (by rw [lI (hb _)]; simp [at1, he, wX, Dy, hpos, hlim'])]
     simp
    ·dsimp only
     rcases Mb.mp hr with hr | hr
     ·have := ht r hr; lia
     ·rw [L4.mp hr]; lia
    ·rcases Mb.mp hr with hr | hr
     ·have := hx r hr; lia
     ·rw [L4.mp hr]; dsimp only; lia
 | false =>
  refine ⟨bits / 2, x + s, acc, .sh (.int s), ?_, c, fun p hp => by have := hx p hp; lia, by lia⟩
  rw [aH (ρ' := [.sh (.int bits), .sh (.int x), .sh (.bl wide), owl (acc.map prD), .sh (.int k), .sh (.int s)]) (by rw [cv (hb _)]; rfl)]
  simp
theorem vN (bits x : Int) (wide : Bool) : ∃ r : R, nu [.int bits, .int x, .bl wide] = some (cz r) /\ fw r /\ r.length <= 8 := by
 obtain ⟨ρ', k1, b', x', acc', v4, v5, rfl, c1, c2, c3⟩ := bL (g := af 4) (m := oH) (fun k : Nat => D.int (k : Int)) (fun pre ρ => ∃ b' x' acc' v4 v5, ρ = [.sh (.int b'), .sh (.int x'), .sh (.bl wide), owl (acc'.map prD), v4, v5] /\ fw acc' /\ (∀ p ∈ acc', p.2 <= x' - 1) /\ acc'.length <= pre.length) (List.range 8) [.sh (.int bits), .sh (.int x), .sh (.bl wide), .ow (.lst []), .un, .un]
  ⟨bits, x, [], _, _, rfl, je, fun _ h => (by cases h), by simp⟩ (by
  rintro pre k post _ e ⟨b', x', acc', v4, v5, rfl, c1, c2, c3⟩
  have hk : k < 8 := MA.mp (by rw [e]; simp)
  have hl : pre.length <= 8 := by
   have := congrArg List.length e
   rw [MO, LZ] at this
   lia
  obtain ⟨b2, x2, acc2, w5, e1, d1, d2, d3⟩ := BM b' x' wide acc' k hk v5 c1 c2 (by lia)
  exact ⟨_, _, rfl, .inl e1, b2, x2, acc2, _, _, rfl, d1, d2, by rw [LZ, Mt]; lia⟩)
 refine ⟨acc', ?_, c1, by simpa using c3⟩
 rw [<- oM] at k1
 have hr : rT [D.int 8] = some (fj 0 8) := dn (by decide)
 simp [nu, wN, fnO, z7, hr, k1]
theorem oX (ns : List Int) (k : Nat) : ∃ f : Int, cZ [.scr (ns.map D.int), .int k] = some (.int f) := by
 by_cases h : k < ns.length
 ·have h' : (k : Int) < ns.length := by lia
  have ea : atI (ns.map D.int) (k : Int) = some (.int ns[k]) := cQ (by rw [L3, Mf h]; rfl)
  exact ⟨ns[k], by simp [cZ, iH, fnO, jG, h, h', ea]⟩
 ·have h' : ¬ (k : Int) < ns.length := by lia
  exact ⟨0, by simp [cZ, iH, fnO, jG, h, h']⟩
theorem kc (c m : Int) (h : 0 < m) : ∃ f : Int, df [.int c, .int m] = some (.int f) := by
 by_cases hc : c < 0
 ·exact ⟨_, by simp [df, jR, fnO, lK, h, hc]; rfl⟩
 ·exact ⟨_, by simp [df, jR, fnO, lK, h, hc]; rfl⟩
theorem BF {a j : Int} (h0 : 0 <= a) (h1 : a < 1000000) (h2 : 0 <= j) (h3 : j < 1000000) : Builtin.Range.small a j 20 = true := by
 have e1 : 0 <= Builtin.Range.rangeSize a j 20 /\ Builtin.Range.rangeSize a j 20 < 1000000 := by
  unfold Builtin.Range.rangeSize
  rw [LO (by decide)]
  split <;> lia
 unfold Builtin.Range.small
 generalize Builtin.Range.rangeSize a j 20 = n at e1
 simp only [Builtin.Range.rangeFitsLong, Mw, Bool.or_eq_true, decide_eq_true_eq, beq_iff_eq, show (20 : Int) > 0 by decide, if_true]
 have e : (2 : Int) ^ 63 = 9223372036854775808 := by decide
 lia
theorem zN (ns : List Int) (hn : ns.length <= 63) (k : Nat) (hk : k < 20) (s1 s2 s3 s4 v7 v8 : Sl) (bits : Int) : ∃ bits' v7', eQ (AZ (ac (xOp cY (xC (.int 21)) (ab 5)) (ac (xCB uX (ac (xCB ik (ac (ab 0) aq)) (ac (xC (.int 99)) aq))) (ac (xC (.int 20)) aq)))) (af 7) (gF) [.sh (.scr (ns.map D.int)), s1, s2, s3, s4, .sh (.int k), .sh (.int bits), v7, v8] = some (.nx [.sh (.scr (ns.map D.int)), s1, s2, s3, s4, .sh (.int k), .sh (.int bits'), v7', v8]) := by
 have hr : Dv [.int (21 + (k : Int)), .int (ns.length : Int), .int 20] = some (tH (21 + (k : Int)) 20 (Builtin.Range.rangeSize (21 + (k : Int)) ns.length 20).toNat) := dn ⟨by decide, by decide, BF (by lia) (by lia) (by lia) (by lia)⟩
 have hmin : ¬ (99 : Int) < ns.length := by lia
 obtain ⟨ρ', k1, b', v', rfl⟩ := bL (g := af 7) (m := gF) (fun i : Nat => D.int (21 + (k : Int) + (i : Int) * 20)) (fun pre ρ => ∃ b' v', ρ = [.sh (.scr (ns.map D.int)), s1, s2, s3, s4, .sh (.int k), .sh (.int b'), v', v8]) (List.range (Builtin.Range.rangeSize (21 + (k : Int)) ns.length 20).toNat) [.sh (.scr (ns.map D.int)), s1, s2, s3, s4, .sh (.int k), .sh (.int bits), v7, v8] ⟨_, _, rfl⟩ (by
  rintro pre i post _ e ⟨b', v', rfl⟩
  have hi : i < (Builtin.Range.rangeSize (21 + (k : Int)) ns.length 20).toNat := MA.mp (by rw [e]; simp)
  have hb : 21 + k + i * 20 < ns.length := by
   unfold Builtin.Range.rangeSize at hi
   rw [LO (by decide)] at hi
   split at hi <;> lia
  have ea : atI (ns.map D.int) (21 + (k : Int) + (i : Int) * 20) = some (.int ns[21 + k + i * 20]) := by
   have := cQ (l := ns.map D.int) (j := 21 + k + i * 20) (x := .int ns[21 + k + i * 20]) (by rw [L3, Mf hb]; rfl)
   rw [<- this]
   congr 1
  have hm : yo (.int 5) (.int ns[21 + k + i * 20]) = some (.int (5 * ns[21 + k + i * 20])) := dn (.inl (by decide))
  exact ⟨[.sh (.scr (ns.map D.int)), s1, s2, s3, s4, .sh (.int k), .sh (.int b'), .sh (.int (21 + (k : Int) + (i : Int) * 20)), v8], [.sh (.scr (ns.map D.int)), s1, s2, s3, s4, .sh (.int k), .sh (.int (b' + 5 * ns[21 + k + i * 20] % 256)), .sh (.int (21 + (k : Int) + (i : Int) * 20)), v8], rfl, .inl (by simp [gF, ea, hm]), _, _, rfl⟩)
 refine ⟨b', v', ?_⟩
 unfold tH at hr
 simp [hmin, hr, k1]
theorem xf {n k : Nat} {pre post : List Nat} (e : List.range n = pre ++ k :: post) : k = pre.length /\ k < n := by
 have h1 : (List.range n)[pre.length]? = some k := by rw [e]; simp
 obtain ⟨h2, h3⟩ := LW.mp h1
 rw [List.getElem_range] at h3
 rw [MO] at h2
 lia
theorem uv (p : Pic) (q : Int × R) : (ao (p ++ [q])).length = (ao p).length + q.2.length := by
 unfold ao
 simp
theorem pH (ns : List Int) (hn : ns.length <= 63) : ∃ p : Pic, eB [.scr (ns.map D.int)] = some (aB p) /\ bz p /\ p.length <= 20 /\ (ao p).length <= 160 := by
 obtain ⟨f, hf⟩ := oX ns 0
 obtain ⟨q, hq1, hq⟩ : ∃ q : Int, 0 < q /\ yH (.int 10) (.int 58) = some (.int q) := ⟨_, by decide, Gr (by decide)⟩
 have at2 : ∀ c : Int, ∃ m : Int, 0 < m /\ atI [D.int 9, .int q] (c % 2) = some (.int m) := fun c => by
  have : c % 2 = 0 \/ c % 2 = 1 := by lia
  rcases this with e | e <;> rw [e]
  ·exact ⟨9, by lia, rfl⟩
  ·exact ⟨q, hq1, rfl⟩
 obtain ⟨m1, h1, e1⟩ := at2 (f / 3)
 obtain ⟨m2, h2, e2⟩ := at2 (f / 6)
 obtain ⟨x, hx⟩ := kc (f / 12) m1 h1
 obtain ⟨y, hy⟩ := kc (f / 24) m2 h2
 obtain ⟨n, hn20, hr⟩ : ∃ n : Nat, n <= 20 /\ n <= ns.length - 1 /\ rT [.int (if (ns.length : Int) - 1 < 20 then (ns.length : Int) - 1 else 20)] = some ((List.range n).map fun k : Nat => D.int (k : Int)) := by
  refine ⟨(if (ns.length : Int) - 1 < 20 then (ns.length : Int) - 1 else 20).toNat, by split <;> lia, by split <;> lia, ?_⟩
  rw [<- oM]
  exact dn (by split <;> lia)
 obtain ⟨hnl, hr⟩ := hr
 obtain ⟨ρ', k1, p, v5, v6, v7, v8, rfl, c1, c2, c3, c4⟩ := bL (g := af 5) (m := gz) (fun k : Nat => D.int (k : Int)) (fun pre ρ => ∃ (p : Pic) (v5 v6 v7 v8 : Sl), ρ = [.sh (.scr (ns.map D.int)), .sh (.int f), .sh (.int x), .sh (.int y), owl (p.map pyD), v5, v6, v7, v8] /\ bz p /\ (∀ g ∈ p, g.1 < y + pre.length) /\ p.length <= pre.length /\ (ao p).length <= 8 * pre.length) (List.range n) [.sh (.scr (ns.map D.int)), .sh (.int f), .sh (.int x), .sh (.int y), .ow (.lst []), .un, .un, .un, .un]
  ⟨[], _, _, _, _, rfl, zT, fun _ h => (by cases h), by simp, by simp [ao]⟩ (by
  rintro pre k post _ e ⟨p, v5, v6, v7, v8, rfl, c1, c2, c3, c4⟩
  obtain ⟨hk, hkn⟩ := xf e
  have hlim : p.length < LIM := gE (by lia)
  have ea : atI (ns.map D.int) (1 + (k : Int)) = some (.int (ns[1 + k]'(by lia))) := by
   have := cQ (l := ns.map D.int) (j := 1 + k) (x := .int (ns[1 + k]'(by lia))) (by rw [L3, Mf (by lia)]; rfl)
   rw [<- this]
   congr 1
  obtain ⟨b, v7', hin⟩ := zN ns hn k (by lia) (.sh (.int f)) (.sh (.int x)) (.sh (.int y)) (owl (p.map pyD)) v7 v8 (ns[1 + k]'(by lia) * 48271 % 2147483647 / 37)
  obtain ⟨r, hrow, cr, lr⟩ := vN b x (decide (f % 3 = 1))
  have step1 : ∀ n : XS, aX (cP (xOp qY (xOp n4 (xOp yo (xOp dIx (ab 0) (xOp cY (xC (.int 1)) (ab 5))) (xC (.int 48271))) (xC (.int 2147483647))) (xC (.int 37))) (af 6)) n [.sh (.scr (ns.map D.int)), .sh (.int f), .sh (.int x), .sh (.int y), owl (p.map pyD), .sh (.int k), v6, v7, v8] = n [.sh (.scr (ns.map D.int)), .sh (.int f), .sh (.int x), .sh (.int y), owl (p.map pyD), .sh (.int k), .sh (.int (ns[1 + k]'(by lia) * 48271 % 2147483647 / 37)), v7, v8] := fun n => by
   have hm : yo (.int (ns[1 + k]'(by lia))) (.int 48271) = some (.int (ns[1 + k]'(by lia) * 48271)) := dn (.inr (by decide))
   simp [ea, hm]
  by_cases hr0 : r = []
  ·subst hr0
   refine ⟨[.sh (.scr (ns.map D.int)), .sh (.int f), .sh (.int x), .sh (.int y), owl (p.map pyD), .sh (.int k), v6, v7, v8], [.sh (.scr (ns.map D.int)), .sh (.int f), .sh (.int x), .sh (.int y), owl (p.map pyD), .sh (.int k), .sh (.int b), v7', .sh (cz [])], rfl, .inl ?_, p, _, _, _, _, rfl, c1, fun g hg => by have := c2 g hg; rw [LZ, Mt]; lia, by rw [LZ, Mt]; lia, by rw [LZ, Mt]; lia⟩
   unfold gz
   rw [step1, aH hin]
   simp [hrow]
  ·have hpos : (0 : Int) < r.length := by have := List.length_pos_iff.mpr hr0; lia
   have hpos' : 0 < r.length := List.length_pos_iff.mpr hr0
   refine ⟨[.sh (.scr (ns.map D.int)), .sh (.int f), .sh (.int x), .sh (.int y), owl (p.map pyD), .sh (.int k), v6, v7, v8], [.sh (.scr (ns.map D.int)), .sh (.int f), .sh (.int x), .sh (.int y), owl ((p ++ [(y + k, r)]).map pyD), .sh (.int k), .sh (.int b), v7', .sh (cz r)], rfl, .inl ?_, p ++ [(y + k, r)], _, _, _, _, rfl, ⟨fun g hg => ?_, ?_⟩, fun g hg => ?_, ?_, ?_⟩
   ·unfold gz
    rw [step1, aH hin]
    simp [hrow, hpos, hpos', hlim]
   ·rcases Mb.mp hg with hg | hg
    ·exact c1.1 g hg
    ·rw [L4.mp hg]; exact ⟨cr, hr0⟩
   ·refine Mz.mpr ⟨c1.2, List.pairwise_singleton _ _, fun a ha b hb => ?_⟩
    rw [L4.mp hb]
    have := c2 a ha
    dsimp only
    lia
   ·rw [LZ, Mt]
    rcases Mb.mp hg with hg | hg
    ·have := c2 g hg; lia
    ·rw [L4.mp hg]; dsimp only; lia
   ·rw [LZ, LZ, Mt, Mt]; lia
   ·rw [uv, LZ, Mt]; dsimp only; lia)
 rw [MO] at c3 c4
 refine ⟨p, ?_, c1, by lia, by lia⟩
 have hf' : cZ [D.scr (ns.map D.int), .int 0] = some (.int f) := hf
 simp [eB, kJ, fnO, mt, hf', hq, e1, e2, hx, hy, hr, k1]
theorem ug {α : Type} (p q : α -> Bool) : ∀ (r : List α) (a b : Nat), (∀ (i : Nat) x, r[i]? = some x -> q x = (decide (a <= i) && decide (i < b) && p x)) -> ((r.drop a).take (b - a)).filter p = r.filter q
 | [], a, b, _ => by simp
 | x :: r, 0, 0, h => by
  have : (x :: r).filter q = [] := List.filter_eq_nil_iff.mpr fun y hy => by
   obtain ⟨i, hi⟩ := ME hy
   rw [h i y hi]
   simp
  rw [this]
  simp
 | x :: r, 0, b + 1, h => by
  have ih := ug p q r 0 b fun i y hy => by
   have := h (i + 1) y hy
   rw [this]
   simp
  have h0 := h 0 x rfl
  have e : q x = p x := by rw [h0]; simp
  rw [List.drop_zero, Nat.sub_zero, List.take_succ_cons, Mx, Mx, e]
  rw [List.drop_zero, Nat.sub_zero] at ih
  rw [ih]
 | x :: r, a + 1, b, h => by
  have ih := ug p q r a (b - 1) fun i y hy => by
   have := h (i + 1) y hy
   rw [this]
   by_cases h1 : a <= i <;> by_cases h2 : i + 1 < b
   ·rw [L6 (by lia : a + 1 <= i + 1), L6 h2, L6 h1, L6 (by lia : i < b - 1)]
   ·rw [L6 (by lia : a + 1 <= i + 1), LX h2, L6 h1, LX (by lia : ¬ i < b - 1)]
   ·rw [LX (by lia : ¬ a + 1 <= i + 1), LX h1]; rfl
   ·rw [LX (by lia : ¬ a + 1 <= i + 1), LX h1]; rfl
  have h0 := h 0 x rfl
  have e : q x = false := by rw [h0]; simp
  rw [List.drop_succ_cons, Mx, e, <- ih, show b - (a + 1) = b - 1 - a by lia]
  rfl
noncomputable def A2 (f l : Int) (p : Int × Int) : Bool := decide (p.1 <= l) && decide (f <= p.2)
theorem mE (r : R) (c : fw r) (h : r.length <= 100000) (f l : Int) (hfl : f <= l) : ∃ r' : R, bX [cz r, .int f, .int l] = some (cz r') /\ r'.length <= r.length /\ (r'.filter fun p => decide (f <= p.2)) = r.filter (A2 f l) := by
 have pw : r.Pairwise fun a b => a.1 < b.1 := by
  refine M3 ?_ c.2
  intro p q hp _ h
  have := c.1 p hp
  lia
 obtain ⟨n1, a1, b1, c1⟩ := fH r (·.1) prD f (fun a => by simp) h pw
 obtain ⟨n2, a2, b2, c2⟩ := fH r (·.1) prD l (fun a => by simp) h pw
 refine ⟨kE r (some ((n1 - 1 : Nat) : Int)) (some (n2 : Int)), ?_, HH _ _ _, ?_⟩
 ·have e1 : (if ((n1 : Int) - 1) > 0 then (n1 : Int) - 1 else 0) = ((n1 - 1 : Nat) : Int) := by split <;> lia
  have e1' : (if 1 < n1 then (n1 : Int) - 1 else 0) = ((n1 - 1 : Nat) : Int) := by split <;> lia
  have e1'' : (if (1 : Int) < (n1 : Int) then (n1 : Int) - 1 else 0) = ((n1 - 1 : Nat) : Int) := by split <;> lia
  simp [bX, fF, fnO, gl, b1, b2, Fs, e1, e1', e1'', dSl]
 ·unfold kE
  rw [Bj (by lia), Bj (by lia), Int.toNat_natCast, Int.toNat_natCast, Nat.min_eq_left (by lia : n1 - 1 <= r.length), Nat.min_eq_left a2]
  refine ug _ _ r (n1 - 1) n2 fun i x hx => ?_
  unfold A2
  have h2 := c2 i x hx
  by_cases hi : n1 - 1 <= i
  ·rw [L6 hi, Bool.true_and]
   congr 1
   exact decide_eq_decide.mpr h2
  ·rw [LX hi, Bool.false_and, Bool.false_and]
   have hi1 : i + 1 < n1 := by lia
   obtain ⟨y, hy⟩ : ∃ y, r[i + 1]? = some y := ⟨_, Mf (by lia)⟩
   have h3 := (c1 (i + 1) y hy).mpr hi1
   obtain ⟨l1, e1⟩ := LW.mp hx
   obtain ⟨l2, e2⟩ := LW.mp hy
   have h4 := MP.mp c.2 i (i + 1) l1 l2 (by lia)
   rw [e1, e2] at h4
   rw [LX (by lia : ¬ f <= x.2), Bool.and_false]
noncomputable def eW (p : Pic) (s : Tri) (y : Int) : List Tri := ((bj p y).filter (A2 s.2.1 s.2.2)).map fun q => (y, q)
noncomputable def nO (p : Pic) (s : Tri) : List Tri := eW p s (s.1 - 1) ++ eW p s (s.1 + 1)
def Touch (s t : Tri) : Prop := (s.1 = t.1 + 1 \/ t.1 = s.1 + 1) /\ s.2.1 <= t.2.2 /\ t.2.1 <= s.2.2
theorem Touch.symm {s t : Tri} (h : Touch s t) : Touch t s := ⟨h.1.symm, h.2.2, h.2.1⟩
theorem uU {p : Pic} (c : bz p) (y : Int) (q : Int × Int) : q ∈ bj p y ↔ ((y, q) : Tri) ∈ ao p := by
 constructor
 ·intro h
  by_cases k : ∃ g ∈ p, g.1 = y
  ·obtain ⟨g, hg, rfl⟩ := k
   rw [kO c hg] at h
   exact List.mem_flatMap.mpr ⟨g, hg, L7.mpr ⟨q, h, rfl⟩⟩
  ·rw [jL fun g hg e => k ⟨g, hg, e⟩] at h
   cases h
 ·intro h
  obtain ⟨g, hg, hs⟩ := List.mem_flatMap.mp h
  obtain ⟨z, hz, e⟩ := L7.mp hs
  cases e
  rw [kO c hg]
  exact hz
theorem sM {p : Pic} (c : bz p) (s t : Tri) : t ∈ nO p s ↔ t ∈ ao p /\ Touch s t := by
 have key : ∀ y : Int, t ∈ eW p s y ↔ t ∈ ao p /\ t.1 = y /\ s.2.1 <= t.2.2 /\ t.2.1 <= s.2.2 := fun y => by
  unfold eW A2
  constructor
  ·intro h
   obtain ⟨q, hq, rfl⟩ := L7.mp h
   obtain ⟨h1, h2⟩ := Md.mp hq
   simp only [Mw, decide_eq_true_eq] at h2
   exact ⟨(uU c y q).mp h1, rfl, by dsimp only; lia, by dsimp only; lia⟩
  ·rintro ⟨h1, rfl, h2, h3⟩
   refine L7.mpr ⟨t.2, Md.mpr ⟨(uU c t.1 t.2).mpr h1, ?_⟩, rfl⟩
   simp only [Mw, decide_eq_true_eq]
   lia
 unfold nO
 rw [Mb, key, key]
 unfold Touch
 constructor
 ·rintro (⟨h1, h2, h3⟩ | ⟨h1, h2, h3⟩)
  ·exact ⟨h1, .inl (by lia), h3⟩
  ·exact ⟨h1, .inr (by lia), h3⟩
 ·rintro ⟨h1, h2 | h2, h3⟩
  ·exact .inl ⟨h1, by lia, h3⟩
  ·exact .inr ⟨h1, by lia, h3⟩
theorem vB {p : Pic} {n : Nat} (h : ∀ q ∈ p, q.2.length <= n) (y : Int) : (bj p y).length <= n := by
 unfold bj
 cases e : p.find? fun q => decide (q.1 = y) with
 | none => simp
 | some q => exact h q (List.mem_of_find?_eq_some e)
theorem rM (p : Pic) (s : Tri) (y : Int) : (eW p s y).length <= (bj p y).length := by
 unfold eW
 rw [LR]
 exact List.length_filter_le _ _
theorem Bo (f : Int) (y : Int) : ∀ r : R, r.filterMap (fun p => if f <= p.2 then some (aj (y, p)) else none) = ((r.filter fun p => decide (f <= p.2)).map fun q => ((y, q) : Tri)).map aj
 | [] => rfl
 | p :: r => by
  rw [List.filterMap_cons, Mx, Bo f y r]
  by_cases h : f <= p.2 <;> simp [h]
theorem rY (p : Pic) (c : bz p) (hp : p.length <= 1000) (hq : ∀ q ∈ p, q.2.length <= 1000) (s : Tri) (hs : s.2.1 <= s.2.2) (s1 s2 : Sl) (acc : List Tri) (ha : acc.length <= 1000) (y : Int) :
  cW [.sh (aB p), s1, s2, .sh (.int s.2.1), .sh (.int s.2.2), owl (acc.map aj), .sh (.int y)] = some (.nx [.sh (aB p), s1, s2, .sh (.int s.2.1), .sh (.int s.2.2), owl ((acc ++ eW p s y).map aj), .sh (.int y)]) := by
 have h1 := kt p y c (by lia)
 have hl := vB hq y
 obtain ⟨r', h2, h3, h4⟩ := mE (bj p y) (qy c y) (by lia) s.2.1 s.2.2 (by lia)
 have h5 : r'.length <= LIM := cb (by lia)
 have hb := rM p s y
 have h6 : acc.length + (eW p s y).length <= LIM := cb (by lia)
 have hc : dZ (cO (aw (af 0) (aw (af 1) cF))) (xB (xOp dGe (ab 1) (ab 3))) (dF (ac (aC 2) (ac (aC 0) (ac (aC 1) aq)))) [.un, .un, .sh (.int y), .sh (.int s.2.1)] (r'.map prD) = some ((eW p s y).map aj) := by
  rw [ir prD (fun q => if s.2.1 <= q.2 then some (aj (y, q)) else none) r', Bo, h4]
  ·rfl
  ·intro q _
   by_cases h : s.2.1 <= q.2 <;> simp [kG, h]
 simp [cW, h1, h2, h5, hc, h6]
theorem uH (p : Pic) (c : bz p) (hp : p.length <= 400) (hq : ∀ q ∈ p, q.2.length <= 400) (s : Tri) (hs : s.2.1 <= s.2.2) (ds : List D) :
  dA [aB p, .tup (.int s.1 :: .int s.2.1 :: .int s.2.2 :: ds), .int 0] = some (.lst ((nO p s).map aj)) := by
 have a0 : atI (D.int s.1 :: .int s.2.1 :: .int s.2.2 :: ds) 0 = some (.int s.1) := cQ (j := 0) rfl
 have a1 : atI (D.int s.1 :: .int s.2.1 :: .int s.2.2 :: ds) 1 = some (.int s.2.1) := cQ (j := 1) rfl
 have a2 : atI (D.int s.1 :: .int s.2.1 :: .int s.2.2 :: ds) 2 = some (.int s.2.2) := cQ (j := 2) rfl
 have t1 := rY p c (by lia) (fun q h => Mm (hq q h) (by lia)) s hs (.sh (.tup (.int s.1 :: .int s.2.1 :: .int s.2.2 :: ds))) (.sh (.int 0)) [] (by simp) (s.1 - 1)
 have hb := rM p s (s.1 - 1)
 have hl := vB hq (s.1 - 1)
 have t2 := rY p c (by lia) (fun q h => Mm (hq q h) (by lia)) s hs (.sh (.tup (.int s.1 :: .int s.2.1 :: .int s.2.2 :: ds))) (.sh (.int 0)) ([] ++ eW p s (s.1 - 1)) (by rw [List.nil_append]; lia) (s.1 + 1)
 have hl2 : (2 : Nat) <= LIM := cb (by lia)
 rw [List.nil_append] at t1 t2
 have t1' : cW [.sh (aB p), .sh (.tup (.int s.1 :: .int s.2.1 :: .int s.2.2 :: ds)), .sh (.int 0), .sh (.int s.2.1), .sh (.int s.2.2), .ow (.lst []), .sh (.int (s.1 - 1))] = _ := t1
 have lp : fA (af 6) cW [.int (s.1 - 1), .int (s.1 + 1)] [.sh (aB p), .sh (.tup (.int s.1 :: .int s.2.1 :: .int s.2.2 :: ds)), .sh (.int 0), .sh (.int s.2.1), .sh (.int s.2.2), .ow (.lst []), .un] = some (.nx [.sh (aB p), .sh (.tup (.int s.1 :: .int s.2.1 :: .int s.2.2 :: ds)), .sh (.int 0), .sh (.int s.2.1), .sh (.int s.2.2), owl ((nO p s).map aj), .sh (.int (s.1 + 1))]) := by
  rw [g8]
  show (match cW [.sh (aB p), .sh (.tup (.int s.1 :: .int s.2.1 :: .int s.2.2 :: ds)), .sh (.int 0), .sh (.int s.2.1), .sh (.int s.2.2), .ow (.lst []), .sh (.int (s.1 - 1))] with | some (.nx ρ2) => _ | some (.ct ρ2) => _ | some (.bk ρ2) => _ | some (.rt d) => _ | some (.ro d) => _ | none => _) = _
  rw [t1']
  dsimp only
  rw [g8]
  show (match cW [.sh (aB p), .sh (.tup (.int s.1 :: .int s.2.1 :: .int s.2.2 :: ds)), .sh (.int 0), .sh (.int s.2.1), .sh (.int s.2.2), owl ((eW p s (s.1 - 1)).map aj), .sh (.int (s.1 + 1))] with | some (.nx ρ2) => _ | some (.ct ρ2) => _ | some (.bk ρ2) => _ | some (.rt d) => _ | some (.ro d) => _ | none => _) = _
  rw [t2]
  rfl
 simp [dA, kR, fnO, nA, a0, a1, a2, hl2, lp]
inductive Con (S : List Tri) (s : Tri) : Tri -> Prop
 | refl : Con S s s
 | step {t u : Tri} : Con S s t -> Touch t u -> u ∈ S -> Con S s u
theorem Con.mem {S : List Tri} {s t : Tri} (hs : s ∈ S) (h : Con S s t) : t ∈ S := by
 cases h with
 | refl => exact hs
 | step _ _ h => exact h
theorem Con.trans {S : List Tri} {s t u : Tri} (a : Con S s t) (b : Con S t u) : Con S s u := by
 induction b with
 | refl => exact a
 | step _ h1 h2 ih => exact ih.step h1 h2
theorem Con.symm {S : List Tri} {s t : Tri} (hs : s ∈ S) (a : Con S s t) : Con S t s := by
 induction a with
 | refl => exact .refl
 | step h h1 h2 ih => exact (Con.refl.step h1.symm (h.mem hs)).trans ih
noncomputable abbrev Wk := List (Tri × D)
noncomputable abbrev aF (w : Tri × D) : D := .tup [.int w.1.1, .int w.1.2.1, .int w.1.2.2, w.2]
theorem pR {α : Type} [DecidableEq α] : ∀ {l m : List α}, l.Nodup -> (∀ a ∈ l, a ∈ m) -> l.length <= m.length
 | [], m, _, _ => Mr _
 | a :: l, m, h, k => by
  obtain ⟨h1, h2⟩ := Mq.mp h
  have ha := k a LV
  have ih := pR (m := m.erase a) h2 fun b hb => (List.mem_erase_of_ne (fun e => h1 (by rw [<- e]; exact hb))).mpr (k b (LY _ hb))
  rw [List.length_erase_of_mem ha] at ih
  have := List.length_pos_of_mem ha
  rw [Mh]
  lia
def Lx (s t : Tri) : Prop := s.1 < t.1 \/ (s.1 = t.1 /\ s.2.1 < t.2.1)
theorem Fy {p : Pic} (c : bz p) (s : Tri) : (nO p s).Pairwise Lx := by
 have one : ∀ y, (eW p s y).Pairwise Lx := fun y => by
  unfold eW
  rw [MT]
  refine List.Pairwise.sublist List.filter_sublist ?_
  have cr := qy c y
  refine M3 ?_ cr.2
  intro a b ha _ h
  have := cr.1 a ha
  exact .inr ⟨rfl, by dsimp only; lia⟩
 unfold nO
 refine Mz.mpr ⟨one _, one _, fun a ha b hb => ?_⟩
 unfold eW at ha hb
 obtain ⟨_, _, rfl⟩ := L7.mp ha
 obtain ⟨_, _, rfl⟩ := L7.mp hb
 exact .inl (by dsimp only; lia)
structure WOk (p : Pic) (s : Tri) (W : Wk) : Prop where
 nd : (W.map (·.1)).Nodup
 hd : ∃ d, W[0]? = some (s, d)
 con : ∀ w ∈ W, Con (ao p) s w.1
 pl : ∀ (k : Nat) w, W[k]? = some w -> (k = 0 /\ w.2 = .non) \/ ∃ (j : Nat) (w' : Tri × D), j < k /\ W[j]? = some w' /\ w.2 = .int (j : Int) /\ Touch w'.1 w.1 /\ ∀ (i : Nat) u, i < j -> W[i]? = some u -> ¬ Touch u.1 w.1
 od : ∀ (k : Nat) w1 w2 (j1 j2 : Nat), W[k]? = some w1 -> W[k + 1]? = some w2 -> w1.2 = .int (j1 : Int) -> w2.2 = .int (j2 : Int) -> j1 <= j2 /\ (j1 = j2 -> Lx w1.1 w2.1)
theorem Fe {s t : Tri} (h : bq s = bq t) : s = t := by
 obtain ⟨a, b, c⟩ := s
 obtain ⟨d, e, f⟩ := t
 unfold bq at h
 simp at h
 obtain ⟨rfl, rfl, rfl⟩ := h
 rfl
theorem l5 {ts : List Tri} {t : Tri} : (ts.map bq).contains (bq t) = decide (t ∈ ts) := by
 by_cases h : t ∈ ts
 ·rw [L6 h, List.contains_iff_mem]
  exact L7.mpr ⟨t, h, rfl⟩
 ·rw [LX h]
  cases q : (ts.map bq).contains (bq t) with
  | false => rfl
  | true =>
   obtain ⟨u, hu, e⟩ := L7.mp (List.contains_iff_mem.mp q)
   rw [Fe e] at hu
   exact absurd hu h
theorem Ac (t : Tri) : kyD (aj t) = some (bq t) := rfl
theorem oD {ρ : M.Env} {t : Tri} {ks : List (List Int)} {b : Bool} {i j : Nat} (h6 : ρ[j]? = some (.sh (aj t))) (h4 : ρ[i]? = some (.ow (.dic ks))) (hc : ks.contains (bq t) = b) : xB (Ca true (aC j) i) ρ = some (!b) := by
 unfold xB Ca aC yn
 rw [h6, h4]
 dsimp only [Option.bind]
 rw [Ac]
 dsimp only [Option.bind, Option.map]
 rw [hc]
 rfl
theorem WOk.snoc {p : Pic} {s : Tri} {W : Wk} (o : WOk p s W) {j : Nat} {w : Tri × D} (hj : W[j]? = some w) {t : Tri} (ht : t ∈ ao p) (k : Touch w.1 t) (hn : t ∉ W.map (·.1)) (hno : ∀ (i : Nat) u, i < j -> W[i]? = some u -> ¬ Touch u.1 t)
  (hod : ∀ w1 (j1 : Nat), W[W.length - 1]? = some w1 -> w1.2 = .int (j1 : Int) -> j1 <= j /\ (j1 = j -> Lx w1.1 t)) : WOk p s (W ++ [(t, .int (j : Int))]) where
 nd := by
  rw [MG]
  refine MN.mpr ⟨o.nd, by simp, fun a ha b hb => ?_⟩
  have hb' : b = t := by simpa using hb
  subst hb'
  intro e
  subst e
  exact hn ha
 hd := by
  obtain ⟨d, hd⟩ := o.hd
  exact ⟨d, by rw [Mn (LW.mp hd).1]; exact hd⟩
 con := fun v hv => by
  rcases Mb.mp hv with hv | hv
  ·exact o.con v hv
  ·rw [L4.mp hv]
   exact (o.con w (ML hj)).step k ht
 pl := fun i v hv => by
  have hjl := (LW.mp hj).1
  by_cases hi : i < W.length
  ·rw [Mn hi] at hv
   rcases o.pl i v hv with h | ⟨j', w', h1, h2, h3, h4, h5⟩
   ·exact .inl h
   ·exact .inr ⟨j', w', h1, by rw [Mn (by lia)]; exact h2, h3, h4, fun i' u hi' hu => h5 i' u hi' (by rw [Mn (by lia)] at hu; exact hu)⟩
  ·have hi' : i = W.length := by
    have := (LW.mp hv).1
    rw [LZ, Mt] at this
    lia
   subst hi'
   have : v = (t, .int (j : Int)) := by simpa using hv.symm
   subst this
   exact .inr ⟨j, w, hjl, by rw [Mn hjl]; exact hj, rfl, k, fun i' u hi' hu => hno i' u hi' (by rw [Mn (by lia)] at hu; exact hu)⟩
 od := fun i w1 w2 j1 j2 h1 h2 e1 e2 => by
  by_cases hi : i + 1 < W.length
  ·rw [Mn (by lia)] at h1
   rw [Mn hi] at h2
   exact o.od i w1 w2 j1 j2 h1 h2 e1 e2
  ·have hi' : i + 1 = W.length := by
    have := (LW.mp h2).1
    rw [LZ, Mt] at this
    lia
   rw [Mn (by lia)] at h1
   rw [hi'] at h2
   have : w2 = (t, .int (j : Int)) := by simpa using h2.symm
   subst this
   have ej : j = j2 := by
    have e2' : (D.int (j : Int)) = .int (j2 : Int) := e2
    injection e2' with e2'
    lia
   subst ej
   exact hod w1 j1 (by rw [<- hi', Nat.add_sub_cancel]; exact h1) e1
theorem WOk.le {p : Pic} {s : Tri} {W : Wk} (o : WOk p s W) (hs : s ∈ ao p) : W.length <= (ao p).length := by
 have := pR o.nd (m := ao p) fun t ht => by
  obtain ⟨w, hw, rfl⟩ := L7.mp ht
  exact (o.con w hw).mem hs
 simpa using this
theorem zG (p : Pic) (c : bz p) (s : Tri) (hs : s ∈ ao p) (hn : (ao p).length <= 400) (s1 s2 v6 : Sl) (W : Wk) (j : Nat) (w : Tri × D) (hj : W[j]? = some w) (o : WOk p s W) (hcl : ∀ (i : Nat) u, i < j -> W[i]? = some u -> ∀ t ∈ nO p u.1, t ∈ W.map (·.1)) (hlo : ∀ u ∈ W, ∀ j1 : Nat, u.2 = .int (j1 : Int) -> j1 < j) :
  ∃ (W' : Wk) (v6' : Sl), fA (af 6) dW ((nO p w.1).map aj) [.sh (aB p), s1, s2, owl (W.map aF), .ow (.dic ((W.map (·.1)).map bq)), .sh (.int j), v6] = some (.nx [.sh (aB p), s1, s2, owl (W'.map aF), .ow (.dic ((W'.map (·.1)).map bq)), .sh (.int j), v6']) /\ WOk p s W' /\ (∃ Z, W' = W ++ Z) /\ (∀ t ∈ nO p w.1, t ∈ W'.map (·.1)) /\ ∀ u ∈ W', ∀ j1 : Nat, u.2 = .int (j1 : Int) -> j1 < j + 1 := by
 have npw := Fy c w.1
 obtain ⟨ρ', k1, W', v6', rfl, h1, h2, h3, h5⟩ := bL (g := af 6) (m := dW) aj (fun pre ρ => ∃ (W' : Wk) (v6' : Sl), ρ = [.sh (aB p), s1, s2, owl (W'.map aF), .ow (.dic ((W'.map (·.1)).map bq)), .sh (.int j), v6'] /\ WOk p s W' /\ (∃ Z, W' = W ++ Z) /\ (∀ t ∈ pre, t ∈ W'.map (·.1)) /\ ∀ u ∈ W', ∀ j1 : Nat, u.2 = .int (j1 : Int) -> j1 < j \/ (j1 = j /\ u.1 ∈ pre)) (nO p w.1) [.sh (aB p), s1, s2, owl (W.map aF), .ow (.dic ((W.map (·.1)).map bq)), .sh (.int j), v6]
  ⟨W, v6, rfl, o, ⟨[], by simp⟩, (fun _ h => by cases h), fun u hu j1 e => .inl (hlo u hu j1 e)⟩ (by
  rintro pre t post _ e ⟨W', v6', rfl, h1, ⟨Z, rfl⟩, h3, h5⟩
  have ht : t ∈ nO p w.1 := by rw [e]; simp
  obtain ⟨ht1, ht2⟩ := (sM c w.1 t).mp ht
  have hc := l5 (ts := (W ++ Z).map (·.1)) (t := t)
  have hle := h1.le hs
  by_cases hm : t ∈ (W ++ Z).map (·.1)
  ·rw [L6 hm] at hc
   refine ⟨[.sh (aB p), s1, s2, owl ((W ++ Z).map aF), .ow (.dic (((W ++ Z).map (·.1)).map bq)), .sh (.int j), .sh (aj t)], [.sh (aB p), s1, s2, owl ((W ++ Z).map aF), .ow (.dic (((W ++ Z).map (·.1)).map bq)), .sh (.int j), .sh (aj t)], rfl, .inl ?_, W ++ Z, _, rfl, h1, ⟨Z, rfl⟩, fun u hu => ?_, fun u hu j1 e1 => (h5 u hu j1 e1).imp id fun z => ⟨z.1, Me _ z.2⟩⟩
   ·unfold dW
    rw [cv (oD rfl rfl hc)]
    rfl
   ·rcases Mb.mp hu with hu | hu
    ·exact h3 u hu
    ·rw [L4.mp hu]; exact hm
  ·rw [LX hm] at hc
   have h4 : WOk p s ((W ++ Z) ++ [(t, D.int (j : Int))]) := by
    have hjl := (LW.mp hj).1
    refine h1.snoc (by rw [Mn hjl]; exact hj) ht1 ht2 hm (fun i u hi hu hT => hm ?_) fun w1 j1 hw1 e1 => ?_
    ·rw [Mn (by lia)] at hu
     rw [MG]
     exact Me _ (hcl i u hi hu t ((sM c u.1 t).mpr ⟨ht1, hT⟩))
    ·rcases h5 w1 (ML hw1) j1 e1 with z | ⟨z1, z2⟩
     ·exact ⟨by lia, fun z' => by lia⟩
     ·refine ⟨by lia, fun _ => ?_⟩
      rw [e] at npw
      exact (Mz.mp npw).2.2 _ z2 t LV
   have hl : ((W ++ Z).map (·.1)).length < LIM := gE (by rw [LR]; lia)
   have hl1 : ((W ++ Z).map aF).length < LIM := gE (by rw [LR]; lia)
   have hl4 : (3 + 1 : Nat) <= LIM := cb (by lia)
   refine ⟨[.sh (aB p), s1, s2, owl ((W ++ Z).map aF), .ow (.dic (((W ++ Z).map (·.1)).map bq)), .sh (.int j), .sh (aj t)], [.sh (aB p), s1, s2, owl (((W ++ Z) ++ [(t, D.int (j : Int))]).map aF), .ow (.dic ((((W ++ Z) ++ [(t, D.int (j : Int))]).map (·.1)).map bq)), .sh (.int j), .sh (aj t)], rfl, .inl ?_, (W ++ Z) ++ [(t, D.int (j : Int))], _, rfl, h4, ⟨Z ++ [(t, D.int (j : Int))], by simp⟩, fun u hu => ?_, fun u hu j1 e1 => ?_⟩
   ·have e1 : ku (((W ++ Z).map (·.1)).map bq) (bq t) = (((W ++ Z) ++ [(t, D.int (j : Int))]).map (·.1)).map bq := by
     unfold ku
     rw [hc, LP (by decide), MG (l₁ := W ++ Z), MG (l₁ := (W ++ Z).map (·.1))]
     rfl
    have e2 : ((W ++ Z) ++ [(t, D.int (j : Int))]).map aF = (W ++ Z).map aF ++ [.tup [.int t.1, .int t.2.1, .int t.2.2, .int j]] := by rw [MG]; rfl
    rw [e2, <- e1]
    generalize (W ++ Z).map aF = es at hl1
    generalize (W ++ Z).map (·.1) = ts at hc hl
    have hl' : (ts.map bq).length < LIM := by rw [LR]; exact hl
    have hl2 : (es.map O.sh).length < LIM := by rw [LR]; exact hl1
    unfold dW
    rw [lI (oD rfl rfl hc), aH (ρ' := [.sh (aB p), s1, s2, owl es, .ow (.dic (ku (ts.map bq) (bq t))), .sh (.int j), .sh (aj t)]) (by
     show (if (ts.map bq).length < LIM then _ else _) = _
     rw [LO hl']
     rfl)]
    simp [cY, hl4, hl1]
   ·rw [MG]
    rcases Mb.mp hu with hu | hu
    ·exact Me _ (h3 u hu)
    ·rw [L4.mp hu]; simp
   ·rcases Mb.mp hu with hu | hu
    ·exact (h5 u hu j1 e1).imp id fun z => ⟨z.1, Me _ z.2⟩
    ·rw [L4.mp hu] at e1 ⊢
     have e1' : (D.int (j : Int)) = .int (j1 : Int) := e1
     injection e1' with e1'
     exact .inr ⟨by lia, by simp⟩)
 exact ⟨W', v6', k1, h1, h2, h3, fun u hu j1 e1 => by
  rcases h5 u hu j1 e1 with z | z
  ·lia
  ·lia⟩
theorem ii {p : Pic} (c : bz p) {t : Tri} (h : t ∈ ao p) : t.2.1 <= t.2.2 := by
 obtain ⟨g, hg, hs⟩ := List.mem_flatMap.mp h
 obtain ⟨z, hz, rfl⟩ := L7.mp hs
 exact (c.1 g hg).1.1 z hz
structure IsWalk (p : Pic) (s : Tri) (W : Wk) : Prop extends WOk p s W where
 all : ∀ t, t ∈ W.map (·.1) ↔ Con (ao p) s t
theorem qT (p : Pic) (c : bz p) (hp : p.length <= 400) (hn : (ao p).length <= 400) (s : Tri) (hs : s ∈ ao p) : ∃ W : Wk, b9 [aB p, aj s, .int 0] = some (.lst ((W.map aF).map O.sh)) /\ IsWalk p s W := by
 have hq : ∀ q ∈ p, q.2.length <= 400 := fun q hq => Mm (lX hq) hn
 have hl4 : (3 + 1 : Nat) <= LIM := cb (by lia)
 obtain ⟨ρ', k1, W, v5, v6, rfl, o, hcl⟩ := nG (c := d7) (m := f7)
  (fun ρ => ∃ (W : Wk) (j : Nat) (v6 : Sl), ρ = [.sh (aB p), .sh (aj s), .sh (.int 0), owl (W.map aF), .ow (.dic ((W.map (·.1)).map bq)), .sh (.int j), v6] /\ WOk p s W /\ j <= W.length /\ (∀ (i : Nat) w, i < j -> W[i]? = some w -> ∀ t ∈ nO p w.1, t ∈ W.map (·.1)) /\ ∀ u ∈ W, ∀ j1 : Nat, u.2 = .int (j1 : Int) -> j1 < j)
  (fun ρ => match ρ with | [_, _, _, _, _, .sh (.int j), _] => ((ao p).length - j).toNat | _ => 0)
  (fun ρ => ∃ (W : Wk) (v5 v6 : Sl), ρ = [.sh (aB p), .sh (aj s), .sh (.int 0), owl (W.map aF), .ow (.dic ((W.map (·.1)).map bq)), v5, v6] /\ WOk p s W /\ ∀ w ∈ W, ∀ t ∈ nO p w.1, t ∈ W.map (·.1))
  (by
   rintro _ ⟨W, j, v6, rfl, o, hj, hcl, hlo⟩
   have hle := o.le hs
   by_cases hlt : j < W.length
   ·right
    have hlt' : (j : Int) < W.length := by lia
    have hw : W[j]? = some W[j] := Mf hlt
    have ea : atI (W.map aF) (j : Int) = some (aF W[j]) := cQ (by rw [L3, hw]; rfl)
    obtain ⟨W', v6', h1, h2, ⟨Z, rfl⟩, h3, h5⟩ := zG p c s hs hn (.sh (aj s)) (.sh (.int 0)) v6 W j W[j] hw o hcl hlo
    have hwm := (o.con _ (ML hw)).mem hs
    have ht := uH p c hp hq W[j].1 (ii c hwm) [W[j].2]
    refine ⟨by simp [d7, hlt, hlt'], [.sh (aB p), .sh (aj s), .sh (.int 0), owl ((W ++ Z).map aF), .ow (.dic (((W ++ Z).map (·.1)).map bq)), .sh (.int ((j + 1 : Nat) : Int)), v6'], ?_, ⟨W ++ Z, j + 1, v6', rfl, h2, by rw [LZ]; lia, fun i w hi hw' t ht' => ?_, h5⟩, by dsimp only; lia⟩
    ·unfold f7
     rw [aH (ρ' := [.sh (aB p), .sh (aj s), .sh (.int 0), owl ((W ++ Z).map aF), .ow (.dic (((W ++ Z).map (·.1)).map bq)), .sh (.int j), v6']) (by
      have hcall : (xIt (bd dA (ac (aC 0) (ac (xOp dIx (ab 3) (ab 5)) (ac (aC 2) aq))))) [.sh (aB p), .sh (aj s), .sh (.int 0), owl (W.map aF), .ow (.dic ((W.map (·.1)).map bq)), .sh (.int j), v6] = some ((nO p W[j].1).map aj) := by
       simp [ea, ht, sG]
      unfold eQ
      rw [hcall]
      exact h1)]
     simp [Br, dI]
    ·by_cases hij : i < j
     ·rw [Mn (by lia)] at hw'
      rw [MG]
      exact Me _ (hcl i w hij hw' t ht')
     ·have : i = j := by lia
      subst this
      rw [Mn hlt, hw] at hw'
      cases hw'
      exact h3 t ht'
   ·left
    have hlt' : ¬ (j : Int) < W.length := by lia
    refine ⟨by simp [d7, hlt, hlt'], W, _, _, rfl, o, fun w hw t ht => ?_⟩
    obtain ⟨i, hi⟩ := ME hw
    exact hcl i w (by have := (LW.mp hi).1; lia) hi t ht)
  [.sh (aB p), .sh (aj s), .sh (.int 0), owl ([(s, D.non)].map aF), .ow (.dic ((([(s, D.non)] : Wk).map (·.1)).map bq)), .sh (.int 0), .un]
  ⟨[(s, .non)], 0, .un, rfl, ⟨by simp, ⟨.non, rfl⟩, fun w hw => by rw [L4.mp hw]; exact .refl, fun k w hw => by
   have hk : k = 0 := by have := (LW.mp hw).1; simp at this; exact this
   subst hk
   cases hw
   exact .inl ⟨rfl, rfl⟩, fun k w1 w2 _ _ _ h2 => by
   have := (LW.mp h2).1
   simp at this⟩, by simp, (fun i _ hi => absurd hi (Nat.not_lt_zero _)), fun u hu j1 e1 => by
   rw [L4.mp hu] at e1
   cases e1⟩
 refine ⟨W, ?_, o, fun t => ⟨fun ht => ?_, fun ht => ?_⟩⟩
 ·have hd : yL (aC 1) [.sh (aB p), .sh (aj s), .sh (.int 0), owl ([(s, D.non)].map aF), .un, .un, .un] = some (.dic [bq s]) := by
   simp only [yL, aC, M0, List.getElem?_cons_zero, Option.bind_some, Ac, Option.map_some]
  have k1' : fh d7 f7 [.sh (aB p), .sh (aj s), .sh (.int 0), owl ([(s, D.non)].map aF), .ow (.dic [bq s]), .sh (.int 0), .un] = _ := k1
  have h1 : iP [.sh (aB p), .sh (aj s), .sh (.int 0), .un, .un, .un, .un] = some (.ro (.lst ((W.map aF).map O.sh))) := by
   unfold iP
   rw [aH (ρ' := [.sh (aB p), .sh (aj s), .sh (.int 0), owl ([(s, D.non)].map aF), .un, .un, .un]) (by simp [cY, hl4]), aH (ρ' := [.sh (aB p), .sh (aj s), .sh (.int 0), owl ([(s, D.non)].map aF), .ow (.dic [bq s]), .un, .un]) (by unfold qN; rw [hd]; rfl), aH (ρ' := [.sh (aB p), .sh (aj s), .sh (.int 0), owl ([(s, D.non)].map aF), .ow (.dic [bq s]), .sh (.int 0), .un]) (by simp), aH k1']
   simp
  unfold b9 fnO
  have h2 : ([aB p, aj s, .int 0].map Sl.sh ++ List.replicate (7 - [aB p, aj s, D.int 0].length) .un) = [.sh (aB p), .sh (aj s), .sh (.int 0), .un, .un, .un, .un] := rfl
  rw [h2, h1]
 ·obtain ⟨w, hw, rfl⟩ := L7.mp ht
  exact o.con w hw
 ·induction ht with
  | refl =>
   obtain ⟨d, hd⟩ := o.hd
   exact L7.mpr ⟨_, ML hd, rfl⟩
  | step h1 h2 h3 ih =>
   obtain ⟨w, hw, rfl⟩ := L7.mp ih
   exact hcl w hw _ ((sM c _ _).mpr ⟨h3, h2⟩)
instance (s t : Tri) : Decidable (Touch s t) := by unfold Touch; infer_instance
noncomputable def sAt (S : List Tri) (i : Nat) : Tri := S.getD i (0, 0, 0)
theorem jY {S : List Tri} {i : Nat} (h : i < S.length) : S[i]? = some (sAt S i) := by
 unfold sAt
 rw [MZ, Mf h]
 rfl
theorem bQ {S : List Tri} {i : Nat} (h : i < S.length) : sAt S i ∈ S := ML (jY h)
theorem jo {S : List Tri} {t : Tri} (h : t ∈ S) : ∃ i, i < S.length /\ sAt S i = t := by
 obtain ⟨i, hi⟩ := ME h
 have hl := (LW.mp hi).1
 rw [jY hl] at hi
 exact ⟨i, hl, Ml hi⟩
theorem r8 (s t : Tri) : aV [aj s, aj t] = some (.bl (decide (Touch s t))) := by
 unfold Touch
 by_cases h1 : s.1 = t.1 + 1
 ·by_cases h3 : s.2.1 <= t.2.2 <;> by_cases h4 : t.2.1 <= s.2.2 <;> simp [aV, eM, fnO, ge, h1, h3, h4]
 ·by_cases h2 : t.1 = s.1 + 1
  ·by_cases h3 : s.2.1 <= t.2.2 <;> by_cases h4 : t.2.1 <= s.2.2 <;> simp [aV, eM, fnO, ge, h2, h3, h4]
  ·simp [aV, eM, fnO, ge, h1, h2]
structure MOk (S : List Tri) (E : Nat -> Nat -> Prop) (M : Nat -> Nat) : Prop where
 le : ∀ i, i < S.length -> M i <= i
 idem : ∀ i, i < S.length -> M (M i) = M i
 con : ∀ i, i < S.length -> Con S (sAt S i) (sAt S (M i))
 done : ∀ j k, E j k -> Touch (sAt S j) (sAt S k) -> M j = M k
theorem wS (n : Nat) (h : n <= 1000) : rT [D.int (n : Int)] = some ((List.range n).map fun i : Nat => D.int (i : Int)) := by
 rw [<- oM]
 exact dn ⟨by lia, by lia⟩
theorem Dj {s t : Tri} (h : Touch s t) : s ≠ t := fun e => by subst e; have := h.1; lia
theorem pB {S : List Tri} {M : Nat -> Nat} (nd : S.Nodup) (o : MOk S (fun j k => j < k /\ k < S.length) M) {i j : Nat} (hi : i < S.length) (hj : j < S.length) : M i = M j ↔ Con S (sAt S i) (sAt S j) := by
 constructor
 ·intro h
  have c1 := o.con i hi
  have c2 := o.con j hj
  rw [h] at c1
  exact c1.trans (c2.symm (bQ hj))
 ·intro h
  have key : ∀ t, Con S (sAt S i) t -> ∀ l, l < S.length -> sAt S l = t -> M i = M l := by
   intro t ht
   induction ht with
   | refl =>
    intro l hl e
    have h1 := jY hl
    have h2 := jY hi
    rw [e, <- h2] at h1
    have : l = i := (List.getElem?_inj hl nd).mp h1
    rw [this]
   | @step t u h1 h2 h3 ih =>
    intro l hl e
    obtain ⟨m, hm, em⟩ := jo (h1.mem (bQ hi))
    rw [ih m hm em]
    have hml : m ≠ l := fun z => Dj h2 (by rw [<- em, <- e, z])
    by_cases hlt : m < l
    ·exact o.done m l ⟨hlt, hl⟩ (by rw [em, e]; exact h2)
    ·exact (o.done l m ⟨by lia, hm⟩ (by rw [em, e]; exact h2.symm)).symm
  exact key _ h j hj rfl
theorem HZ {Q : Nat -> Prop} : ∀ n, Q n -> ∃ m, m <= n /\ Q m /\ ∀ k, Q k -> k <= n -> m <= k := by
 intro n
 induction n using Nat.strongRecOn with
 | ind n ih =>
  intro h
  by_cases hx : ∃ k, k < n /\ Q k
  ·obtain ⟨k, hk, hq⟩ := hx
   obtain ⟨m, h1, h2, h3⟩ := ih k hk hq
   refine ⟨m, by lia, h2, fun j hj hjn => ?_⟩
   by_cases hjk : j <= k
   ·exact h3 j hj hjk
   ·lia
  ·exact ⟨n, LU _, h, fun k hk _ => by
    by_cases z : k < n
    ·exact absurd ⟨k, z, hk⟩ hx
    ·lia⟩
theorem BT (S : List Tri) : ∃ M : Nat -> Nat, MOk S (fun j k => j < k /\ k < S.length) M := by
 have h0 : ∀ i, ∃ m, i < S.length -> m <= i /\ Con S (sAt S m) (sAt S i) /\ ∀ k, k < S.length -> Con S (sAt S k) (sAt S i) -> m <= k := fun i => by
  by_cases hi : i < S.length
  ·obtain ⟨m, h1, h2, h3⟩ := HZ (Q := fun k => Con S (sAt S k) (sAt S i)) i .refl
   refine ⟨m, fun _ => ⟨h1, h2, fun k hk hc => ?_⟩⟩
   by_cases z : k <= i
   ·exact h3 k hc z
   ·lia
  ·exact ⟨0, fun z => absurd z hi⟩
 have hM : ∀ i, i < S.length -> Classical.choose (h0 i) <= i /\ Con S (sAt S (Classical.choose (h0 i))) (sAt S i) /\ ∀ k, k < S.length -> Con S (sAt S k) (sAt S i) -> Classical.choose (h0 i) <= k := fun i hi => Classical.choose_spec (h0 i) hi
 generalize hg : (fun i => Classical.choose (h0 i)) = M
 have hM' : ∀ i, i < S.length -> M i <= i /\ Con S (sAt S (M i)) (sAt S i) /\ ∀ k, k < S.length -> Con S (sAt S k) (sAt S i) -> M i <= k := fun i hi => by rw [<- hg]; exact hM i hi
 have same : ∀ i j, i < S.length -> j < S.length -> Con S (sAt S i) (sAt S j) -> M i = M j := fun i j hi hj hc => by
  obtain ⟨a1, a2, a3⟩ := hM' i hi
  obtain ⟨b1, b2, b3⟩ := hM' j hj
  have c1 := a3 (M j) (by lia) (b2.trans (hc.symm (bQ hi)))
  have c2 := b3 (M i) (by lia) (a2.trans hc)
  lia
 refine ⟨M, fun i hi => (hM' i hi).1, fun i hi => ?_, fun i hi => ?_, fun j k e t => ?_⟩
 ·obtain ⟨a1, a2, _⟩ := hM' i hi
  exact same (M i) i (by lia) hi a2
 ·obtain ⟨a1, a2, _⟩ := hM' i hi
  exact a2.symm (bQ (by lia))
 ·exact same j k (by lia) e.2 (Con.refl.step t (bQ e.2))
theorem ul (ks : List (List Int)) (a q : List Int) : (ku ks a).contains q = (ks.contains q || q == a) := by
 unfold ku
 cases h : ks.contains a with
 | true =>
  rw [LO rfl]
  by_cases e : q = a
  ·subst e; rw [h]; rfl
  ·have : (q == a) = false := by simpa using e
   rw [this, Bool.or_false]
 | false =>
  rw [LP (by decide), List.contains_eq_any_beq, List.contains_eq_any_beq, List.any_append]
  simp
theorem kx (q : List Int) : ∀ (qs ks : List (List Int)), (qs.foldl ku ks).contains q = (ks.contains q || qs.contains q)
 | [], ks => by simp
 | a :: qs, ks => by rw [List.foldl_cons, kx q qs (ku ks a), ul, List.contains_cons, Bool.or_assoc]
theorem uT : ∀ (qs ks : List (List Int)), (qs.foldl ku ks).length <= ks.length + qs.length
 | [], ks => by simp
 | a :: qs, ks => by
  have h := uT qs (ku ks a)
  have h2 : (ku ks a).length <= ks.length + 1 := by unfold ku; split <;> simp
  rw [List.foldl_cons, Mh]
  lia
theorem tp : ∀ W : Wk, ka (W.map fun w => D.tup [aj w.1, .bl true]) = some ((W.map (·.1)).map bq)
 | [] => rfl
 | w :: W => by
  rw [L1, ka, Ac, tp W]
  rfl
noncomputable abbrev av (W : Wk) : D := .lst (W.map aF)
noncomputable abbrev aK (W : Wk) : O := .lst ((W.map aF).map O.sh)
noncomputable def bO (n : Nat) (M : Nat -> Nat) : List Nat := (List.range n).filter fun k => decide (M k = k)
theorem qH (n : Nat) (M : Nat -> Nat) : bO (n + 1) M = bO n M ++ if M n = n then [n] else [] := by
 unfold bO
 rw [List.range_succ, List.filter_append]
 congr 1
 by_cases h : M n = n <;> simp [h]
theorem pL (p : Pic) (c : bz p) (hp : p.length <= 160) (hn : (ao p).length <= 160) (nd : (ao p).Nodup) (M : Nat -> Nat) (o : MOk (ao p) (fun j k => j < k /\ k < (ao p).length) M) (wk : Tri -> Wk)
  (hw : ∀ s ∈ ao p, b9 [aB p, aj s, .int 0] = some (aK (wk s)) /\ IsWalk p s (wk s)) :
  d6 [aB p, .int 0] = some (.lst ((bO (ao p).length M).map fun k => aK (wk (sAt (ao p) k)))) := by
 have hS := nI p (by lia)
 obtain ⟨ρ', k1, ks, v4, rfl, _, _⟩ := bL (g := af 4) (m := eS) aj (fun pre ρ => ∃ (ks : List (List Int)) (v4 : Sl), ρ = [.sh (aB p), .sh (.int 0), .ow (.lst ((bO pre.length M).map fun k => aK (wk (sAt (ao p) k)))), .ow (.dic ks), v4] /\ ks.length <= 160 * pre.length /\
   ∀ t, ks.contains (bq t) = true ↔ ∃ k, k < pre.length /\ M k = k /\ Con (ao p) (sAt (ao p) k) t) (ao p) [.sh (aB p), .sh (.int 0), .ow (.lst []), .ow (.dic []), .un]
  ⟨[], _, rfl, by simp, fun t => ⟨fun h => by simp at h, fun ⟨k, h, _⟩ => absurd h (Nat.not_lt_zero _)⟩⟩ (by
  rintro pre s post _ e ⟨ks, v4, rfl, hk, hcon⟩
  have hlen : pre.length < (ao p).length := by rw [e]; simp
  have hs : sAt (ao p) pre.length = s := by
   have h1 := jY hlen
   have h2 : (ao p)[pre.length]? = some s := by rw [e]; simp
   rw [h1] at h2
   exact Ml h2
  have hsm : s ∈ ao p := by rw [e]; simp
  have el : (pre ++ [s]).length = pre.length + 1 := by rw [LZ]; rfl
  have hwalked : ks.contains (bq s) = true ↔ M pre.length ≠ pre.length := by
   rw [hcon s]
   constructor
   ·rintro ⟨k, h1, h2, h3⟩ h4
    rw [<- hs] at h3
    have := (pB nd o (by lia) hlen).mpr h3
    lia
   ·intro h
    have h1 := o.le _ hlen
    refine ⟨M pre.length, by lia, o.idem _ hlen, ?_⟩
    have := o.con _ hlen
    rw [hs] at this
    exact this.symm hsm
  by_cases hm : M pre.length = pre.length
  ·have hc : ks.contains (bq s) = false := by
    cases q : ks.contains (bq s) with
    | false => rfl
    | true => exact absurd hm (hwalked.mp q)
   obtain ⟨w1, w2⟩ := hw s hsm
   have wl := w2.toWOk.le hsm
   have ef : bO (pre ++ [s]).length M = bO pre.length M ++ [pre.length] := by rw [el, qH, LO hm]
   have fl : (bO pre.length M).length <= pre.length := by
    have := List.length_filter_le (fun k => decide (M k = k)) (List.range pre.length)
    rw [MO] at this
    exact this
   have hl1 : ((bO pre.length M).map fun k => aK (wk (sAt (ao p) k))).length < LIM := gE (by rw [LR]; lia)
   have hl2 : (wk s).length <= LIM := cb (by lia)
   have hl3 : ks.length + (wk s).length < LIM := gE (by lia)
   refine ⟨_, [.sh (aB p), .sh (.int 0), .ow (.lst ((bO (pre ++ [s]).length M).map fun k => aK (wk (sAt (ao p) k)))), .ow (.dic ((((wk s).map (·.1)).map bq).foldl ku ks)), .sh (aj s)], rfl, .inl ?_, _, _, rfl, ?_, fun t => ?_⟩
   ·unfold eS
    have e2 : ((bO (pre ++ [s]).length M).map fun k => aK (wk (sAt (ao p) k))) = ((bO pre.length M).map fun k => aK (wk (sAt (ao p) k))) ++ [aK (wk s)] := by rw [ef, MG, List.map_singleton, hs]
    rw [e2]
    generalize ((bO pre.length M).map fun k => aK (wk (sAt (ao p) k))) = es at hl1
    show xIf _ _ _ [.sh (aB p), .sh (.int 0), .ow (.lst es), .ow (.dic ks), .sh (aj s)] = _
    rw [lI (oD rfl rfl hc), aH (ρ' := [.sh (aB p), .sh (.int 0), .ow (.lst (es ++ [aK (wk s)])), .ow (.dic ks), .sh (aj s)]) (by
     simp [w1, hl1])]
    have hcomp : b7 [none, none, none, none] (nN 2 (xPi xPv (xUn ur (xC (.int 1))))) (cO (aw (af 0) (aw (af 1) (aw (af 2) (aw (af 3) cF))))) eD (dF (ac (dF (ac (aC 0) (ac (aC 1) (ac (aC 2) aq)))) (ac (xC (.bl true)) aq))) [.sh (aB p), .sh (.int 0), .ow (.lst (es ++ [aK (wk s)])), .ow (.dic ks), .sh (aj s)] = some ((wk s).map fun w => D.tup [aj w.1, .bl true]) := by
     have hc2 : dZ (cO (aw (af 0) (aw (af 1) (aw (af 2) (aw (af 3) cF))))) eD (dF (ac (dF (ac (aC 0) (ac (aC 1) (ac (aC 2) aq)))) (ac (xC (.bl true)) aq))) [.un, .un, .un, .un] ((wk s).map aF) = some ((wk s).map fun w => D.tup [aj w.1, .bl true]) := gH aF _ (wk s) fun w _ => by simp [kG]
     have at1 : nN 2 (xPi xPv (xUn ur (xC (.int 1)))) [.sh (aB p), .sh (.int 0), .ow (.lst (es ++ [aK (wk s)])), .ow (.dic ks), .sh (aj s)] = some ((wk s).map aF) := by
      simp
     unfold b7
     rw [at1]
     show (if ((wk s).map aF).length <= LIM then _ else _) = _
     rw [LR, LO hl2]
     exact hc2
    unfold Bi
    rw [hcomp]
    show ((ka ((wk s).map fun w => D.tup [aj w.1, .bl true])).bind _) = _
    rw [tp]
    show (if ks.length + ((wk s).map fun w => D.tup [aj w.1, .bl true]).length < LIM then _ else _) = _
    rw [LR, LO hl3]
    rfl
   ·have := uT (((wk s).map (·.1)).map bq) ks
    rw [LR, LR] at this
    rw [el]
    lia
   ·rw [kx, Bool.or_eq_true, hcon t, l5, decide_eq_true_eq, w2.all t, el]
    constructor
    ·rintro (⟨k, h1, h2⟩ | h)
     ·exact ⟨k, by lia, h2⟩
     ·exact ⟨pre.length, by lia, hm, by rw [hs]; exact h⟩
    ·rintro ⟨k, h1, h2, h3⟩
     by_cases hk : k = pre.length
     ·subst hk
      rw [hs] at h3
      exact .inr h3
     ·exact .inl ⟨k, by lia, h2, h3⟩
  ·have hc : ks.contains (bq s) = true := hwalked.mpr hm
   have ef : bO (pre ++ [s]).length M = bO pre.length M := by rw [el, qH, LP hm, Mv]
   refine ⟨_, [.sh (aB p), .sh (.int 0), .ow (.lst ((bO (pre ++ [s]).length M).map fun k => aK (wk (sAt (ao p) k)))), .ow (.dic ks), .sh (aj s)], rfl, .inl ?_, ks, _, rfl, by rw [el]; lia, fun t => ?_⟩
   ·unfold eS
    rw [ef]
    show xIf _ _ _ [.sh (aB p), .sh (.int 0), .ow (.lst ((bO pre.length M).map fun k => aK (wk (sAt (ao p) k)))), .ow (.dic ks), .sh (aj s)] = _
    rw [cv (oD rfl rfl hc)]
    rfl
   ·rw [hcon t, el]
    constructor
    ·rintro ⟨k, h1, h2⟩
     exact ⟨k, by lia, h2⟩
    ·rintro ⟨k, h1, h2, h3⟩
     by_cases hk : k = pre.length
     ·subst hk; exact absurd h2 hm
     ·exact ⟨k, by lia, h2, h3⟩)
 simp [d6, fnO, jH, hS, sG, k1]
noncomputable def lN (q : Int × R) : Bool := !decide (q.2 = [])
theorem wd : ∀ l : Pic, l.filterMap (fun q => if q.2 = [] then none else some (pyD q)) = (l.filter lN).map pyD
 | [] => rfl
 | q :: l => by
  by_cases h : q.2 = []
  ·simp [h, lN, <- wd l]
  ·simp [h, lN, <- wd l]
theorem kQ (l : Pic) (h : l.length <= 30000) : bF [.lst (l.map pyD)] = some (aB (l.filter lN)) := by
 have hl : l.length <= LIM := cb (by lia)
 have hf := List.length_filter_le lN l
 have hl2 : (l.filter lN).length <= LIM := cb (by lia)
 have hc : dZ (cO (aw (af 0) (aw (af 1) cF))) (xB (xOp (dEq true) (ab 1) (dF aq))) (dF (ac (aC 0) (ac (aC 1) aq))) [.un, .un] (l.map pyD) = some ((l.filter lN).map pyD) := by
  rw [ir pyD (fun q => if q.2 = [] then none else some (pyD q)) l, wd]
  intro q _
  have d : dEq true (cz q.2) (.tup []) = some (.bl (!decide (q.2 = []))) := Bd true q.2 []
  by_cases hq : q.2 = []
  ·simp [hq] at d
   simp [kG, hq, d]
  ·simp [hq] at d
   simp [kG, hq, d]
 simp [bF, ez, fnO, fc, hl, hc, hl2]
noncomputable def gt (r : R) (k : Nat) : Int × Int := r.getD k (0, 0)
theorem wJ {r : R} {k : Nat} (h : k < r.length) : r[k]? = some (gt r k) := by
 rw [Mf h]
 simp [gt, h]
noncomputable def gap (r : R) (k : Nat) : Int × Int := ((gt r k).2 + 1, (gt r (k + 1)).1 - 1)
noncomputable def dq (r : R) : R := (List.range (r.length - 1)).map (gap r)
theorem D9 (r : R) : dZ (af 0) eD (dF (ac (xOp cY (xOp dIx (xOp dIx (ab 1) (ab 0)) (xC (.int 1))) (xC (.int 1))) (ac (xOp gd (xOp dIx (xOp dIx (ab 1) (xOp cY (ab 0) (xC (.int 1)))) (xC (.int 0))) (xC (.int 1))) aq))) [.un, .sh (cz r)] ((List.range (r.length - 1)).map fun k : Nat => D.int (k : Int)) = some ((dq r).map prD) := by
 have : dZ (af 0) eD (dF (ac (xOp cY (xOp dIx (xOp dIx (ab 1) (ab 0)) (xC (.int 1))) (xC (.int 1))) (ac (xOp gd (xOp dIx (xOp dIx (ab 1) (xOp cY (ab 0) (xC (.int 1)))) (xC (.int 0))) (xC (.int 1))) aq))) [.un, .sh (cz r)] ((List.range (r.length - 1)).map fun k : Nat => D.int (k : Int)) = some ((List.range (r.length - 1)).map fun k => prD (gap r k)) := gH (fun k : Nat => D.int (k : Int)) _ (List.range (r.length - 1)) fun k hk => by
  have hk' := MA.mp hk
  have b1 := A6 (wJ (r := r) (k := k) (by lia))
  have b2 := A6 (wJ (r := r) (k := k + 1) (by lia))
  have e : ((k + 1 : Nat) : Int) = (k : Int) + 1 := by lia
  rw [e] at b2
  simp [kG, b1, b2, gap]
 rw [this]
 unfold dq
 rw [MF]
 rfl
theorem Fx (r : R) (h : r.length <= 1000) : rT [.int ((r.length : Int) - 1)] = some ((List.range (r.length - 1)).map fun k : Nat => D.int (k : Int)) := by
 rw [HV (by lia), show ((r.length : Int) - 1).toNat = r.length - 1 by lia, oM]
theorem xg (r : R) : (dq r).length <= r.length := by
 unfold dq
 rw [LR, MO]
 lia
theorem uC (r : R) (h : r.length <= 1000) : du [cz r] = some (cz (dq r)) := by
 have hg := xg r
 have hl : (dq r).length <= LIM := cb (by lia)
 have hl2 : r.length - 1 <= LIM := cb (by lia)
 have hc := D9 r
 try simp at hc
 simp [du, kB, fnO, m5, Fx r h, hc, hl, hl2]
noncomputable def gpP (p : Pic) : Pic := p.map fun q => (q.1, dq q.2)
theorem ko (p : Pic) (h : p.length <= 1000) (hr : ∀ q ∈ p, q.2.length <= 1000) : bv [aB p] = some (aB ((gpP p).filter lN)) := by
 have hl : p.length <= LIM := cb (by lia)
 have hc : dZ (cO (aw (af 0) (aw (af 1) cF))) eD (dF (ac (aC 0) (ac (bd du (ac (aC 1) aq)) aq))) [.un, .un] (p.map pyD) = some ((gpP p).map pyD) := by
  unfold gpP
  rw [MF]
  exact gH pyD (fun q => pyD (q.1, dq q.2)) p fun q hq => by
   have a := uC q.2 (hr q hq)
   simp [kG, a]
 have hm := kQ (gpP p) (by unfold gpP; rw [LR]; lia)
 have hl2 : (gpP p).length <= LIM := by unfold gpP; rw [LR]; exact hl
 simp [bv, eF, fnO, eX, hl, hl2, hc, hm]
theorem jO : ∀ p : Pic, ao (p.filter lN) = ao p
 | [] => rfl
 | q :: p => by
  rw [Mx]
  by_cases h : q.2 = []
  ·have : lN q = false := by simp [lN, h]
   rw [this, cu, h]
   exact jO p
  ·have : lN q = true := by simp [lN, h]
   rw [this, LO rfl, cu, cu, jO p]
theorem gD : ∀ p : Pic, (ao (gpP p)).length <= (ao p).length
 | [] => LU _
 | q :: p => by
  have h1 := gD p
  have h2 := xg q.2
  unfold gpP at h1 ⊢
  rw [L1, cu, cu, LZ, LZ, LR, LR]
  dsimp only
  lia
noncomputable def cR (r : R) (a b : Int) : Bool := match r.head?, r.getLast? with
 | some p, some q => decide (p.1 <= a) && decide (b <= q.2)
 | _, _ => false
noncomputable def bB (p : Pic) (g : Tri) : Bool := !(cR (bj p (g.1 - 1)) g.2.1 g.2.2 && cR (bj p (g.1 + 1)) g.2.1 g.2.2)
theorem zl {r : R} (h : r ≠ []) : ∃ p q, r.head? = some p /\ r.getLast? = some q /\ atI (r.map prD) 0 = some (prD p) /\ atI (r.map prD) (-1) = some (prD q) := by
 rcases List.eq_nil_or_concat r with e | ⟨t, q, e⟩
 ·exact absurd e h
 ·rw [List.concat_eq_append] at e
  subst e
  refine ⟨(t ++ [q]).head h, q, List.head?_eq_some_head h, by simp, ?_, by rw [MG]; exact oK _ _⟩
  refine cQ (j := 0) ?_
  rw [L3, <- List.head?_eq_getElem?, List.head?_eq_some_head h]
  rfl
theorem nW (s0 s1 : Sl) (r : R) (a b : Int) : bI [s0, s1, .sh (.int a), .sh (.int b), .sh (cz r)] = if cR r a b = true then some (.nx [s0, s1, .sh (.int a), .sh (.int b), .sh (cz r)]) else some (.rt (.bl true)) := by
 have d : dEq false (cz r) (.tup []) = some (.bl (decide (r = []))) := Bd false r []
 by_cases hr : r = []
 ·subst hr
  have d2 : dEq false (cz []) (.tup []) = some (.bl true) := d
  simp [bI, cR, d2]
 ·obtain ⟨p, q, h1, h2, h3, h4⟩ := zl hr
  have es : cR r a b = (decide (p.1 <= a) && decide (b <= q.2)) := by unfold cR; rw [h1, h2]
  rw [es]
  rw [LX hr] at d
  by_cases c1 : p.1 <= a
  ·by_cases c2 : b <= q.2
   ·have n1 : ¬ a < p.1 := by lia
    have n2 : ¬ q.2 < b := by lia
    simp [bI, d, h3, h4, c1, c2, n1, n2]
   ·have n1 : ¬ a < p.1 := by lia
    have n2 : q.2 < b := by lia
    simp [bI, d, h3, h4, c1, c2, n1, n2]
  ·have n1 : a < p.1 := by lia
   simp [bI, d, h3, h4, c1, n1]
theorem wp (p : Pic) (c : bz p) (hp : p.length <= 1000) (y a b : Int) : bM [aB p, .int y, .int a, .int b] = some (.bl (bB p (y, a, b))) := by
 have r1 := kt p (y - 1) c (by lia)
 have r2 := kt p (y + 1) c (by lia)
 have t1 := nW (.sh (aB p)) (.sh (.int y)) (bj p (y - 1)) a b
 have t2 := nW (.sh (aB p)) (.sh (.int y)) (bj p (y + 1)) a b
 have hl2 : (2 : Nat) <= LIM := cb (by lia)
 have e : ∀ ρ, xIt (dF (ac (bd bG (ac (aC 0) (ac (xOp gd (ab 1) (xC (.int 1))) aq))) (ac (bd bG (ac (aC 0) (ac (xOp cY (ab 1) (xC (.int 1))) aq))) aq))) (.sh (aB p) :: .sh (.int y) :: ρ) = some [cz (bj p (y - 1)), cz (bj p (y + 1))] := fun ρ => by
  simp [r1, r2, hl2, sG]
 have l2 : fA (af 4) bI [cz (bj p (y + 1))] [.sh (aB p), .sh (.int y), .sh (.int a), .sh (.int b), .sh (cz (bj p (y - 1)))] = if cR (bj p (y + 1)) a b = true then some (.nx [.sh (aB p), .sh (.int y), .sh (.int a), .sh (.int b), .sh (cz (bj p (y + 1)))]) else some (.rt (.bl true)) := by
  rw [g8]
  show (match bI [.sh (aB p), .sh (.int y), .sh (.int a), .sh (.int b), .sh (cz (bj p (y + 1)))] with | some (.nx ρ2) => _ | some (.ct ρ2) => _ | some (.bk ρ2) => _ | some (.rt d) => _ | some (.ro d) => _ | none => _) = _
  rw [t2]
  by_cases h2 : cR (bj p (y + 1)) a b = true
  ·rw [LO h2]; rfl
  ·rw [LP h2]
 have l1 : fA (af 4) bI [cz (bj p (y - 1)), cz (bj p (y + 1))] [.sh (aB p), .sh (.int y), .sh (.int a), .sh (.int b), .un] = if cR (bj p (y - 1)) a b = true then (if cR (bj p (y + 1)) a b = true then some (.nx [.sh (aB p), .sh (.int y), .sh (.int a), .sh (.int b), .sh (cz (bj p (y + 1)))]) else some (.rt (.bl true))) else some (.rt (.bl true)) := by
  rw [g8]
  show (match bI [.sh (aB p), .sh (.int y), .sh (.int a), .sh (.int b), .sh (cz (bj p (y - 1)))] with | some (.nx ρ2) => _ | some (.ct ρ2) => _ | some (.bk ρ2) => _ | some (.rt d) => _ | some (.ro d) => _ | none => _) = _
  rw [t1]
  by_cases h1 : cR (bj p (y - 1)) a b = true
  ·rw [LO h1, LO h1]; exact l2
  ·rw [LP h1, LP h1]
 have hX : lH [.sh (aB p), .sh (.int y), .sh (.int a), .sh (.int b), .un] = some (.rt (.bl (bB p (y, a, b)))) := by
  have hf : eQ (xIt (dF (ac (bd bG (ac (aC 0) (ac (xOp gd (ab 1) (xC (.int 1))) aq))) (ac (bd bG (ac (aC 0) (ac (xOp cY (ab 1) (xC (.int 1))) aq))) aq)))) (af 4) bI [.sh (aB p), .sh (.int y), .sh (.int a), .sh (.int b), .un] = fA (af 4) bI [cz (bj p (y - 1)), cz (bj p (y + 1))] [.sh (aB p), .sh (.int y), .sh (.int a), .sh (.int b), .un] := by
   unfold eQ
   rw [e]
   rfl
  rw [l1] at hf
  unfold lH bB
  cases h1 : cR (bj p (y - 1)) a b with
  | true =>
   rw [h1, LO rfl] at hf
   cases h2 : cR (bj p (y + 1)) a b with
   | true =>
    rw [h2, LO rfl] at hf
    rw [aH hf]
    simp [h1, h2]
   | false =>
    rw [h2, LP (by decide)] at hf
    unfold aX
    rw [hf]
    simp [h1, h2]
  | false =>
   rw [h1, LP (by decide)] at hf
   unfold aX
   rw [hf]
   simp [h1]
 unfold bM mv fnO
 have hh : ([aB p, .int y, .int a, .int b].map Sl.sh ++ List.replicate (5 - [aB p, D.int y, .int a, .int b].length) .un) = [.sh (aB p), .sh (.int y), .sh (.int a), .sh (.int b), .un] := rfl
 rw [hh, hX]
 simp
theorem Bf (y1 y2 : Int) (hne : y1 ≠ y2) (f : R -> Bool) : ∀ p : Pic, (p.filter fun q => (decide (q.1 = y1) || decide (q.1 = y2)) && f q.2).length = (p.filter fun q => decide (q.1 = y1) && f q.2).length + (p.filter fun q => decide (q.1 = y2) && f q.2).length
 | [] => rfl
 | q :: p => by
  have ih := Bf y1 y2 hne f p
  rw [Mx, Mx, Mx]
  by_cases h1 : q.1 = y1
  ·have h2 : ¬ q.1 = y2 := fun z => hne (h1.symm.trans z)
   cases hf : f q.2 <;> simp [h1, h2, hne, hf] at ih ⊢ <;> lia
  ·by_cases h2 : q.1 = y2
   ·cases hf : f q.2 <;> simp [h1, h2, hne, Ma hne, hf] at ih ⊢ <;> lia
   ·simp [h1, h2] at ih ⊢
    lia
theorem wT {f : R -> Bool} (h0 : f [] = false) (y : Int) : ∀ {p : Pic}, bz p -> (p.filter fun q => decide (q.1 = y) && f q.2).length = if f (bj p y) = true then 1 else 0
 | [], _ => by
  have : bj [] y = [] := rfl
  rw [this, h0]
  rfl
 | q :: p, c => by
  obtain ⟨_, h2, h3⟩ := pcanon_cons.mp c
  rw [Mx]
  by_cases h : q.1 = y
  ·have e1 : bj (q :: p) y = q.2 := by rw [<- h]; exact kO c LV
   have e2 : (p.filter fun q => decide (q.1 = y) && f q.2) = [] := List.filter_eq_nil_iff.mpr fun s hs => by
    have := h2 s hs
    have hn : ¬ s.1 = y := by lia
    simp [hn]
   rw [e1, e2]
   cases hf : f q.2 <;> simp [h, hf]
  ·have e1 : bj (q :: p) y = bj p y := by
    unfold bj
    rw [List.find?_cons]
    rw [LX h]
   rw [e1, <- wT h0 y h3]
   simp [h]
theorem uF (p : Pic) (c : bz p) (hp : p.length <= 1000) (g : Tri) : iz [aB p, aj g] = some (.bl (bB p g)) := by
 have a0 : ∀ a b c : D, atI [a, b, c] 0 = some a := fun _ _ _ => rfl
 have a1 : ∀ a b c : D, atI [a, b, c] 1 = some b := fun _ _ _ => rfl
 have a2 : ∀ a b c : D, atI [a, b, c] 2 = some c := fun _ _ _ => rfl
 obtain ⟨ρ', k1, v3, v4, rfl⟩ := bL (g := cO (aw (af 3) (aw (af 4) cF))) (m := pG) pyD (fun pre ρ => ∃ v3 v4, ρ = [.sh (aB p), .sh (aj g), .sh (.int ((pre.filter fun q => (decide (q.1 = g.1 - 1) || decide (q.1 = g.1 + 1)) && cR q.2 g.2.1 g.2.2).length : Nat)), v3, v4]) p [.sh (aB p), .sh (aj g), .sh (.int 0), .un, .un] ⟨_, _, rfl⟩ (by
  rintro pre q post _ e ⟨v3, v4, rfl⟩
  have hq : q.2 ≠ [] := (c.1 q (by rw [e]; simp)).2
  obtain ⟨u, v, h1, h2, h3, h4⟩ := zl hq
  have es : cR q.2 g.2.1 g.2.2 = (decide (u.1 <= g.2.1) && decide (g.2.2 <= v.2)) := by unfold cR; rw [h1, h2]
  have hl2 : (2 : Nat) <= LIM := cb (by lia)
  refine ⟨[.sh (aB p), .sh (aj g), .sh (.int ((pre.filter fun q => (decide (q.1 = g.1 - 1) || decide (q.1 = g.1 + 1)) && cR q.2 g.2.1 g.2.2).length : Nat)), .sh (.int q.1), .sh (cz q.2)], [.sh (aB p), .sh (aj g), .sh (.int (((pre ++ [q]).filter fun q => (decide (q.1 = g.1 - 1) || decide (q.1 = g.1 + 1)) && cR q.2 g.2.1 g.2.2).length : Nat)), .sh (.int q.1), .sh (cz q.2)], rfl, .inl ?_, _, _, rfl⟩
  have hin : xB (xOp (dIn false) (ab 3) (dF (ac (xOp gd (xOp dIx (ab 1) (xC (.int 0))) (xC (.int 1))) (ac (xOp cY (xOp dIx (ab 1) (xC (.int 0))) (xC (.int 1))) aq)))) [.sh (aB p), .sh (aj g), .sh (.int ((pre.filter fun q => (decide (q.1 = g.1 - 1) || decide (q.1 = g.1 + 1)) && cR q.2 g.2.1 g.2.2).length : Nat)), .sh (.int q.1), .sh (cz q.2)] = some (decide (q.1 = g.1 - 1) || decide (q.1 = g.1 + 1)) := by
   simp [a0, hl2, dIn, bg]
  rw [List.filter_append, LZ, Mx, List.filter_nil, es]
  generalize (pre.filter fun q => (decide (q.1 = g.1 - 1) || decide (q.1 = g.1 + 1)) && cR q.2 g.2.1 g.2.2).length = m at hin ⊢
  unfold pG
  by_cases hy : (decide (q.1 = g.1 - 1) || decide (q.1 = g.1 + 1)) = true
  ·rw [hy] at hin ⊢
   by_cases c1 : u.1 <= g.2.1
   ·by_cases c2 : g.2.2 <= v.2
    ·rw [lI (by
      unfold jl
      rw [hin]
      simp [a1, a2, h3, h4, c1, c2])]
     simp [c1, c2]
    ·rw [cv (by
      unfold jl
      rw [hin]
      simp [a1, a2, h3, h4, c1, c2])]
     simp [c1, c2]
   ·rw [cv (by
     unfold jl
     rw [hin]
     simp [a1, a2, h3, h4, c1])]
    simp [c1]
  ·have hy' : (decide (q.1 = g.1 - 1) || decide (q.1 = g.1 + 1)) = false := by simpa using hy
   rw [hy'] at hin ⊢
   rw [cv (by
    unfold jl
    rw [hin]
    rfl)]
   simp)
 have hc := Bf (g.1 - 1) (g.1 + 1) (by lia) (fun r => cR r g.2.1 g.2.2) p
 have c1 := wT (f := fun r => cR r g.2.1 g.2.2) rfl (g.1 - 1) c
 have c2 := wT (f := fun r => cR r g.2.1 g.2.2) rfl (g.1 + 1) c
 have e : decide (((p.filter fun q => (decide (q.1 = g.1 - 1) || decide (q.1 = g.1 + 1)) && cR q.2 g.2.1 g.2.2).length : Int) < 2) = bB p g := by
  rw [hc, c1, c2]
  unfold bB
  cases cR (bj p (g.1 - 1)) g.2.1 g.2.2 <;> cases cR (bj p (g.1 + 1)) g.2.1 g.2.2 <;> rfl
 rw [<- e]
 generalize (p.filter fun q => (decide (q.1 = g.1 - 1) || decide (q.1 = g.1 + 1)) && cR q.2 g.2.1 g.2.2).length = m at k1 ⊢
 simp [iz, sC, fnO, wE, sG, k1]
 try lia
theorem rP (lo : Int) (n : Nat) : fj lo n = (List.range n).map fun k : Nat => D.int (lo + (k : Int)) := by
 apply List.ext_getElem?
 intro i
 cases q : (fj lo n)[i]? with
 | none =>
  have := MV.mp q
  rw [lw] at this
  rw [List.getElem?_eq_none (by rw [LR, MO]; exact this)]
 | some d =>
  obtain ⟨h1, rfl⟩ := lJ n lo i d q
  rw [L3, List.getElem?_range h1]
  rfl
theorem Ez (p : Int × Int) : dq [p] = [] := rfl
theorem vx (p q : Int × Int) (t : R) : dq (p :: q :: t) = (p.2 + 1, q.1 - 1) :: dq (q :: t) := by
 unfold dq
 simp only [Mh, Nat.add_sub_cancel]
 rw [List.range_succ_eq_map, L1, MF]
 rfl
theorem Bz : ∀ (r : R) (p : Int × Int), fw (p :: r) -> ∀ g ∈ dq (p :: r), p.2 + 1 <= g.1
 | [], p, _, g, h => by rw [Ez] at h; cases h
 | q :: t, p, c, g, h => by
  obtain ⟨c1, c2, c3⟩ := canon_cons.mp c
  rw [vx] at h
  rcases L9.mp h with rfl | h
  ·exact Int.le_refl _
  ·have h1 := Bz t q c3 g h
   have h2 := c2 q LV
   have h3 := (canon_cons.mp c3).1
   lia
theorem ua : ∀ (r : R) (p : Int × Int), fw (p :: r) -> fw (dq (p :: r))
 | [], p, _ => je
 | q :: t, p, c => by
  obtain ⟨c1, c2, c3⟩ := canon_cons.mp c
  rw [vx]
  have h2 := c2 q LV
  refine canon_cons.mpr ⟨by dsimp only; lia, fun g hg => ?_, ua t q c3⟩
  have h1 := Bz t q c3 g hg
  have h3 := (canon_cons.mp c3).1
  dsimp only
  lia
theorem yZ {r : R} (c : fw r) : fw (dq r) := by
 cases r with
 | nil => exact je
 | cons p r => exact ua r p c
noncomputable def bC (p : Pic) : Pic := (gpP p).filter lN
theorem sD {p : Pic} (c : bz p) : bz (bC p) := by
 unfold bC gpP
 refine ⟨fun q hq => ?_, ?_⟩
 ·obtain ⟨h1, h2⟩ := Md.mp hq
  obtain ⟨s, hs, rfl⟩ := L7.mp h1
  exact ⟨yZ (c.1 s hs).1, by simpa [lN] using h2⟩
 ·refine List.Pairwise.sublist List.filter_sublist ?_
  rw [MT]
  exact c.2
theorem mP (p : Pic) : ao (bC p) = ao (gpP p) := jO _
theorem BI (r : R) : (List.range (r.length - 1)).map (gap r) = dq r := rfl
theorem uw (p : Pic) (h : (ao p).length <= 1000) : iI [aB p] = some (.lst ((ao (bC p)).map aj)) := by
 rw [mP]
 obtain ⟨ρ', k1, v2, v3, v4, rfl⟩ := bL (g := cO (aw (af 2) (aw (af 3) cF))) (m := o6) pyD (fun pre ρ => ∃ v2 v3 v4, ρ = [.sh (aB p), owl ((ao (gpP pre)).map aj), v2, v3, v4]) p [.sh (aB p), .ow (.lst []), .un, .un, .un] ⟨_, _, _, rfl⟩ (by
  rintro pre q post _ e ⟨v2, v3, v4, rfl⟩
  have hlen : (ao pre).length + q.2.length <= 1000 := by
   rw [e, gv, cu, LZ, LZ, LR] at h
   lia
  have hpl := gD pre
  have hr : rT [.int 1, .int (q.2.length : Int)] = some ((List.range (q.2.length - 1)).map fun k : Nat => D.int (1 + (k : Int))) := by
   have e1 : ((q.2.length : Int) - 1).toNat = q.2.length - 1 := by lia
   rw [<- rP, <- e1]
   exact dn (by lia)
  obtain ⟨ρ2, k2, w4, rfl⟩ := bL (g := af 4) (m := ph) (fun k : Nat => D.int (1 + (k : Int))) (fun pre2 ρ => ∃ w4, ρ = [.sh (aB p), owl ((ao (gpP pre) ++ (pre2.map (gap q.2)).map fun s => (q.1, s)).map aj), .sh (.int q.1), .sh (cz q.2), w4]) (List.range (q.2.length - 1)) [.sh (aB p), owl ((ao (gpP pre)).map aj), .sh (.int q.1), .sh (cz q.2), v4] ⟨v4, by simp⟩ (by
   rintro pre2 k post2 _ e2 ⟨w4, rfl⟩
   obtain ⟨hk, hkn⟩ := xf e2
   have b1 := A6 (wJ (r := q.2) (k := k) (by lia))
   have b2 := A6 (wJ (r := q.2) (k := k + 1) (by lia))
   have e3 : ((k + 1 : Nat) : Int) = 1 + (k : Int) := by lia
   rw [e3] at b2
   have b1' : atI (q.2.map prD) (1 + (k : Int) - 1) = some (prD (gt q.2 k)) := by rw [show 1 + (k : Int) - 1 = (k : Int) by lia]; exact b1
   have hl : (ao (gpP pre) ++ (pre2.map (gap q.2)).map fun s => (q.1, s)).length < LIM := gE (by
    rw [LZ, LR, LR]
    lia)
   refine ⟨[.sh (aB p), owl ((ao (gpP pre) ++ (pre2.map (gap q.2)).map fun s => (q.1, s)).map aj), .sh (.int q.1), .sh (cz q.2), .sh (.int (1 + (k : Int)))], [.sh (aB p), owl ((ao (gpP pre) ++ ((pre2 ++ [k]).map (gap q.2)).map fun s => (q.1, s)).map aj), .sh (.int q.1), .sh (cz q.2), .sh (.int (1 + (k : Int)))], rfl, .inl ?_, _, rfl⟩
   have e4 : (ao (gpP pre) ++ ((pre2 ++ [k]).map (gap q.2)).map fun s => (q.1, s)).map aj = (ao (gpP pre) ++ (pre2.map (gap q.2)).map fun s => (q.1, s)).map aj ++ [aj (q.1, gap q.2 k)] := by simp
   rw [e4]
   generalize (ao (gpP pre) ++ (pre2.map (gap q.2)).map fun s => (q.1, s)) = ts at hl
   simp [ph, b1', b2, hl, gap])
  have es : ao (gpP (pre ++ [q])) = ao (gpP pre) ++ (dq q.2).map fun s => (q.1, s) := by
   unfold gpP
   rw [MG, gv, List.map_singleton, cu]
   simp [ao]
  refine ⟨[.sh (aB p), owl ((ao (gpP pre)).map aj), .sh (.int q.1), .sh (cz q.2), v4], [.sh (aB p), owl ((ao (gpP (pre ++ [q]))).map aj), .sh (.int q.1), .sh (cz q.2), w4], rfl, .inl ?_, _, _, _, rfl⟩
  rw [es, <- BI]
  have z0 : ac (xC (.int 1)) (ac (xCB ik (ac (ab 3) aq)) aq) [.sh (aB p), owl ((ao (gpP pre)).map aj), .sh (.int q.1), .sh (cz q.2), v4] = some [.int 1, .int (q.2.length : Int)] := by simp
  unfold o6 eQ lf
  rw [z0]
  show ((rT [.int 1, .int (q.2.length : Int)]).bind _) = _
  rw [hr]
  exact k2)
 simp [iI, tS, fnO, ww, sG, k1]
theorem CM (n : Nat) (ts : List Tri) : okD (n + 2) (.lst (ts.map aj)) = true := by
 rw [okD]
 exact kP ts fun t _ => rB n t
theorem Bp (s t : Tri) : eqD (aj s) (aj t) = decide (s = t) := by
 obtain ⟨a, b, c⟩ := s
 obtain ⟨d, e, f⟩ := t
 by_cases h : ((a, b, c) : Tri) = (d, e, f)
 ·rw [L6 h, h]
  exact rV 5 _ (rB 4 _)
 ·rw [LX h]
  cases q : eqD (aj (a, b, c)) (aj (d, e, f)) with
  | false => rfl
  | true =>
   exfalso
   apply h
   simp [eqD, eqDs] at q
   obtain ⟨q1, q2, q3⟩ := q
   rw [q1, q2, q3]
theorem E9 (t : Tri) (ts : List Tri) : inL (aj t) (ts.map aj) = decide (t ∈ ts) := by
 unfold inL
 rw [Bool.eq_iff_iff, List.any_eq_true, decide_eq_true_eq]
 constructor
 ·rintro ⟨d, hd, h⟩
  obtain ⟨s, hs, rfl⟩ := L7.mp hd
  rw [Bp, decide_eq_true_eq] at h
  rw [<- h]; exact hs
 ·intro h
  exact ⟨aj t, L7.mpr ⟨t, h, rfl⟩, by rw [Bp]; exact L6 rfl⟩
theorem Cm (t : Tri) (ts : List Tri) : Cz true (aj t) (.lst (ts.map aj)) = some (.bl (!decide (t ∈ ts))) := by
 show (if okD 30 (aj t) = true /\ okD 30 (.lst (ts.map aj)) = true then _ else _) = _
 rw [LO ⟨rB 29 t, CM 28 ts⟩, E9]
 rfl
theorem lh (f : Tri -> Bool) : ∀ l : List Tri, l.filterMap (fun t => if f t = true then some (aj t) else none) = (l.filter f).map aj
 | [] => rfl
 | t :: l => by
  rw [List.filterMap_cons, Mx, lh f l]
  cases h : f t <;> simp
def FI (p : Pic) (g : Tri) : Prop := ∀ o ∈ ao (bC p), bB p o = true -> ¬ Con (ao (bC p)) o g
theorem yA (f : Tri -> Bool) (l : List Tri) : (l.filter f).length + (l.filter fun t => !f t).length = l.length := by
 induction l with
 | nil => rfl
 | cons t l ih =>
  rw [Mx, Mx]
  cases h : f t <;> simp <;> lia
theorem oQ (p : Pic) (c : bz p) (hp : p.length <= 1000) (hn : (ao (bC p)).length <= 1000) : ∃ L : List Tri, dG [aB p, .lst ((ao (bC p)).map aj)] = some (.lst (L.map aj)) /\ L.Sublist (ao (bC p)) /\ ∀ t, t ∈ L ↔ t ∈ ao (bC p) /\ FI p t := by
 generalize hG : ao (bC p) = G at *
 have hl : G.length <= LIM := cb (by lia)
 have c1 : dZ (af 0) (dQ (bd iz (ac (aC 1) (ac (aC 0) aq)))) (aC 0) [.un, .sh (aB p)] (G.map aj) = some ((G.filter (bB p)).map aj) := by
  rw [ir aj (fun t => if bB p t = true then some (aj t) else none), lh]
  intro t _
  have h := uF p c hp t
  cases hb : bB p t with
  | true => rw [hb] at h; simp [kG, h]
  | false => rw [hb] at h; simp [kG, h]
 have c2 : ∀ (l ts : List Tri), dZ (af 0) (xB (xOp (Cz true) (ab 0) (ab 1))) (aC 0) [.un, .sh (.lst (ts.map aj))] (l.map aj) = some ((l.filter fun t => !decide (t ∈ ts)).map aj) := fun l ts => by
  rw [ir aj (fun t => if (!decide (t ∈ ts)) = true then some (aj t) else none), lh]
  intro t _
  have h := Cm t ts
  by_cases hm : t ∈ ts
  ·rw [L6 hm] at h
   simp [kG, h, hm]
  ·rw [LX hm] at h
   simp [kG, h, hm]
 obtain ⟨ρ', k1, O, L, v4, v5, rfl, i1, i2, i3, i4, i5⟩ := nG (c := gw) (m := jN)
  (fun ρ => ∃ (O L : List Tri) (k : Nat) (v5 : Sl), ρ = [.sh (aB p), .sh (.lst (G.map aj)), .sh (.lst (O.map aj)), .sh (.lst (L.map aj)), .sh (.int k), v5] /\ L.Sublist G /\ O.length + L.length = G.length /\ (∀ t, t ∈ G ↔ t ∈ O \/ t ∈ L) /\ (∀ t ∈ O, ∃ o ∈ G, bB p o = true /\ Con G o t) /\ (∀ o ∈ G, bB p o = true -> o ∈ O) /\ (∀ t ∈ L, t ∉ O) /\ k <= O.length /\ ∀ (i : Nat) s, i < k -> O[i]? = some s -> ∀ t ∈ G, Touch s t -> t ∈ O)
  (fun ρ => match ρ with | [_, _, _, _, .sh (.int k), _] => (G.length - k).toNat | _ => 0)
  (fun ρ => ∃ (O L : List Tri) (v4 v5 : Sl), ρ = [.sh (aB p), .sh (.lst (G.map aj)), .sh (.lst (O.map aj)), .sh (.lst (L.map aj)), v4, v5] /\ L.Sublist G /\ (∀ t, t ∈ G ↔ t ∈ O \/ t ∈ L) /\ (∀ t ∈ O, ∃ o ∈ G, bB p o = true /\ Con G o t) /\ ((∀ o ∈ G, bB p o = true -> o ∈ O) /\ (∀ t ∈ L, t ∉ O)) /\ ∀ s ∈ O, ∀ t ∈ G, Touch s t -> t ∈ O)
  (by
   rintro _ ⟨O, L, k, v5, rfl, j1, j2, j3, j4, j5, j6, j7, j8⟩
   by_cases hk : k < O.length
   ·right
    have hk' : (k : Int) < O.length := by lia
    have ho : O[k]? = some O[k] := Mf hk
    have eo : atI (O.map aj) (k : Int) = some (aj O[k]) := cQ (by rw [L3, ho]; rfl)
    have c3 : dZ (af 0) (dQ (bd aV (ac (xOp dIx (ab 1) (ab 2)) (ac (aC 0) aq)))) (aC 0) [.un, .sh (.lst (O.map aj)), .sh (.int k)] (L.map aj) = some ((L.filter fun t => decide (Touch O[k] t)).map aj) := by
     rw [ir aj (fun t => if decide (Touch O[k] t) = true then some (aj t) else none), lh]
     intro t _
     have h := r8 O[k] t
     by_cases hm : Touch O[k] t
     ·rw [L6 hm] at h
      simp [kG, eo, h, hm]
     ·rw [LX hm] at h
      simp [kG, eo, h, hm]
    have eL : (L.filter fun t => !decide (t ∈ L.filter fun t => decide (Touch O[k] t))) = L.filter fun t => !decide (Touch O[k] t) := List.filter_congr fun t ht => by
     by_cases hm : Touch O[k] t
     ·have h1 : decide (t ∈ L.filter fun t => decide (Touch O[k] t)) = true := L6 (Md.mpr ⟨ht, L6 hm⟩)
      have h2 : decide (Touch O[k] t) = true := L6 hm
      rw [h1, h2]
     ·have h1 : decide (t ∈ L.filter fun t => decide (Touch O[k] t)) = false := LX fun z => hm (MI (Md.mp z).2)
      have h2 : decide (Touch O[k] t) = false := LX hm
      rw [h1, h2]
    have pl := yA (fun t => decide (Touch O[k] t)) L
    have lO : (O.map aj).length + ((L.filter fun t => decide (Touch O[k] t)).map aj).length <= LIM := cb (by rw [LR, LR]; lia)
    have lL : L.length <= LIM := cb (by lia)
    have memO : O[k] ∈ O := List.getElem_mem hk
    refine ⟨by simp [gw, hk, hk'], [.sh (aB p), .sh (.lst (G.map aj)), .sh (.lst ((O ++ L.filter fun t => decide (Touch O[k] t)).map aj)), .sh (.lst ((L.filter fun t => !decide (Touch O[k] t)).map aj)), .sh (.int ((k + 1 : Nat) : Int)), .sh (.lst ((L.filter fun t => decide (Touch O[k] t)).map aj))], ?_, ⟨O ++ L.filter (fun t => decide (Touch O[k] t)), L.filter (fun t => !decide (Touch O[k] t)), k + 1, _, rfl, List.filter_sublist.trans j1, by rw [LZ]; lia, fun t => ?_, fun t ht => ?_, fun o ho' hop => Me _ (j5 o ho' hop), fun t ht hm => ?_, by rw [LZ]; lia, fun i s hi hs t ht hT => ?_⟩, by dsimp only; lia⟩
    ·have c2' := c2 L (L.filter fun t => decide (Touch O[k] t))
     rw [eL] at c2'
     unfold jN
     generalize (L.filter fun t => decide (Touch O[k] t)) = Mo at c3 c2' lO ⊢
     generalize (L.filter fun t => !decide (Touch O[k] t)) = L2 at c2' ⊢
     rw [aH (ρ' := [.sh (aB p), .sh (.lst (G.map aj)), .sh (.lst (O.map aj)), .sh (.lst (L.map aj)), .sh (.int k), .sh (.lst (Mo.map aj))]) (by simp [lL, c3]), aH (ρ' := [.sh (aB p), .sh (.lst (G.map aj)), .sh (.lst (O.map aj)), .sh (.lst (L2.map aj)), .sh (.int k), .sh (.lst (Mo.map aj))]) (by simp [lL, c2']), aH (ρ' := [.sh (aB p), .sh (.lst (G.map aj)), .sh (.lst ((O ++ Mo).map aj)), .sh (.lst (L2.map aj)), .sh (.int k), .sh (.lst (Mo.map aj))]) (by
      rw [LR, LR] at lO
      simp [cY, lO])]
     simp
    ·rw [j3 t, Mb, Md, Md]
     constructor
     ·rintro (h | h)
      ·exact .inl (.inl h)
      ·by_cases hm : Touch O[k] t
       ·exact .inl (.inr ⟨h, L6 hm⟩)
       ·exact .inr ⟨h, by rw [LX hm]; rfl⟩
     ·rintro ((h | h) | h)
      ·exact .inl h
      ·exact .inr h.1
      ·exact .inr h.1
    ·rcases Mb.mp ht with ht | ht
     ·exact j4 t ht
     ·obtain ⟨h1, h2⟩ := Md.mp ht
      obtain ⟨o, q1, q2, q3⟩ := j4 _ memO
      exact ⟨o, q1, q2, q3.step (MI h2) ((j3 t).mpr (.inr h1))⟩
    ·obtain ⟨h1, h2⟩ := Md.mp ht
     rcases Mb.mp hm with hm | hm
     ·exact j6 t h1 hm
     ·rw [(Md.mp hm).2] at h2
      cases h2
    ·rw [Mb]
     by_cases hik : i < k
     ·rw [Mn (by lia)] at hs
      exact .inl (j8 i s hik hs t ht hT)
     ·have : i = k := by lia
      subst this
      rw [Mn hk, ho] at hs
      cases hs
      rcases (j3 t).mp ht with h | h
      ·exact .inl h
      ·exact .inr (Md.mpr ⟨h, L6 hT⟩)
   ·left
    have hk' : ¬ (k : Int) < O.length := by lia
    refine ⟨by simp [gw, hk, hk'], O, L, _, _, rfl, j1, j3, j4, ⟨j5, j6⟩, fun s hs t ht hT => ?_⟩
    obtain ⟨i, hi⟩ := ME hs
    exact j8 i s (by have := (LW.mp hi).1; lia) hi t ht hT)
  [.sh (aB p), .sh (.lst (G.map aj)), .sh (.lst ((G.filter (bB p)).map aj)), .sh (.lst ((G.filter fun t => !bB p t).map aj)), .sh (.int 0), .un]
  ⟨G.filter (bB p), G.filter (fun t => !bB p t), 0, _, rfl, List.filter_sublist, yA _ _, fun t => by
   rw [Md, Md]
   cases bB p t <;> simp, fun t ht => by
   obtain ⟨h1, h2⟩ := Md.mp ht
   exact ⟨t, h1, h2, .refl⟩, fun o ho hop => Md.mpr ⟨ho, hop⟩, (fun t ht hm => by
   have := (Md.mp ht).2
   rw [(Md.mp hm).2] at this
   cases this), Mr _, fun i _ hi => absurd hi (Nat.not_lt_zero _)⟩
 refine ⟨L, ?_, i1, fun t => ⟨fun ht => ?_, fun ht => ?_⟩⟩
 ·have eL : (G.filter fun t => !decide (t ∈ G.filter (bB p))) = G.filter fun t => !bB p t := List.filter_congr fun t ht => by
   cases ho : bB p t with
   | true =>
    have h1 : decide (t ∈ G.filter (bB p)) = true := L6 (Md.mpr ⟨ht, ho⟩)
    rw [h1]
   | false =>
    have h1 : decide (t ∈ G.filter (bB p)) = false := LX fun z => by rw [(Md.mp z).2] at ho; cases ho
    rw [h1]
  have c2' := c2 G (G.filter (bB p))
  rw [eL] at c2'
  have hX : jA [.sh (aB p), .sh (.lst (G.map aj)), .un, .un, .un, .un] = some (.rt (.lst (L.map aj))) := by
   unfold jA
   rw [aH (ρ' := [.sh (aB p), .sh (.lst (G.map aj)), .sh (.lst ((G.filter (bB p)).map aj)), .un, .un, .un]) (by simp [hl, c1]), aH (ρ' := [.sh (aB p), .sh (.lst (G.map aj)), .sh (.lst ((G.filter (bB p)).map aj)), .sh (.lst ((G.filter fun t => !bB p t).map aj)), .un, .un]) (by simp [hl, c2']), aH (ρ' := [.sh (aB p), .sh (.lst (G.map aj)), .sh (.lst ((G.filter (bB p)).map aj)), .sh (.lst ((G.filter fun t => !bB p t).map aj)), .sh (.int 0), .un]) (by simp), aH k1]
   rfl
  unfold dG k6 fnO
  have hh : ([aB p, D.lst (G.map aj)].map Sl.sh ++ List.replicate (6 - [aB p, D.lst (G.map aj)].length) .un) = [.sh (aB p), .sh (.lst (G.map aj)), .un, .un, .un, .un] := rfl
  rw [hh, hX]
  simp
 ·refine ⟨(i2 t).mpr (.inr ht), ?_⟩
  unfold FI
  rw [hG]
  intro o ho hop hc
  have key : ∀ u, Con G o u -> u ∈ O := fun u hu => by
   induction hu with
   | refl => exact i4.1 o ho hop
   | step h1 h2 h3 ih => exact i5 _ ih _ h3 h2
  exact i4.2 t ht (key t hc)
 ·obtain ⟨h1, h2⟩ := ht
  rcases (i2 t).mp h1 with h | h
  ·obtain ⟨o, q1, q2, q3⟩ := i3 t h
   unfold FI at h2
   rw [hG] at h2
   exact absurd q3 (h2 o q1 q2)
  ·exact h
def Sep (s t : Tri) : Prop := s.1 < t.1 \/ (s.1 = t.1 /\ s.2.2 + 2 <= t.2.1)
theorem oS : ∀ {p : Pic}, bz p -> (ao p).Pairwise Sep
 | [], _ => .nil
 | q :: p, c => by
  obtain ⟨⟨h1, _⟩, h2, h3⟩ := pcanon_cons.mp c
  rw [cu]
  refine Mz.mpr ⟨?_, oS h3, fun s hs t ht => ?_⟩
  ·rw [MT]
   exact h1.2.imp fun h => .inr ⟨rfl, h⟩
  ·obtain ⟨a, _, rfl⟩ := L7.mp hs
   obtain ⟨g, hg, hb⟩ := List.mem_flatMap.mp ht
   obtain ⟨b, _, rfl⟩ := L7.mp hb
   exact .inl (h2 g hg)
theorem CW {p : Pic} (c : bz p) : (ao p).Nodup := by
 refine M3 ?_ (oS c)
 intro s t hs _ h e
 subst e
 have := ii c hs
 rcases h with h | h <;> lia
theorem wW {S : List Tri} (w : S.Pairwise Sep) {i j : Nat} (hi : i < j) (hj : j < S.length) : Sep (sAt S i) (sAt S j) := by
 have h1 := jY (S := S) (show i < S.length by lia)
 have h2 := jY hj
 obtain ⟨l1, e1⟩ := LW.mp h1
 obtain ⟨l2, e2⟩ := LW.mp h2
 have := MP.mp w i j l1 l2 hi
 rw [e1, e2] at this
 exact this
theorem Bm : ∀ {l m : List Tri}, (∀ t ∈ l, t.2.1 <= t.2.2) -> l.Pairwise Sep -> m.Pairwise Sep -> (∀ t, t ∈ l ↔ t ∈ m) -> l = m
 | [], [], _, _, _, _ => rfl
 | [], b :: m, _, _, _, h => by have := (h b).mpr LV; cases this
 | a :: l, [], _, _, _, h => by have := (h a).mp LV; cases this
 | a :: l, b :: m, g, hl, hm, h => by
  obtain ⟨l1, l2⟩ := List.pairwise_cons.mp hl
  obtain ⟨m1, m2⟩ := List.pairwise_cons.mp hm
  have ga := g a LV
  have gb : b.2.1 <= b.2.2 := g b ((h b).mpr LV)
  have e : a = b := by
   rcases L9.mp ((h a).mp LV) with e | ha
   ·exact e
   ·rcases L9.mp ((h b).mpr LV) with e | hb
    ·exact e.symm
    ·have h1 := m1 a ha
     have h2 := l1 b hb
     unfold Sep at h1 h2
     lia
  subst e
  have ih : l = m := Bm (fun t ht => g t (LY _ ht)) l2 m2 fun t => by
   constructor
   ·intro ht
    rcases L9.mp ((h t).mp (LY _ ht)) with e | k
    ·subst e
     have := l1 t ht
     unfold Sep at this
     lia
    ·exact k
   ·intro ht
    rcases L9.mp ((h t).mpr (LY _ ht)) with e | k
    ·subst e
     have := m1 t ht
     unfold Sep at this
     lia
    ·exact k
  rw [ih]
theorem D4 (ts : List Tri) : (lV ts).Pairwise fun p q => p.1 < q.1 \/ (p.1 = q.1 /\ p.2.1 <= q.2.1) := by
 have h := xZ (ts.map bq)
 rw [<- tK, MT] at h
 refine h.imp fun {p q} e => ?_
 have e' : (if q.1 = p.1 then (if q.2.1 = p.2.1 then HT.aQ [q.2.2] [p.2.2] else decide (q.2.1 < p.2.1)) else decide (q.1 < p.1)) = false := e
 by_cases hq : q.1 = p.1
 ·rw [LO hq] at e'
  by_cases hr : q.2.1 = p.2.1
  ·exact .inr ⟨hq.symm, by lia⟩
  ·rw [LP hr] at e'
   have := MM e'
   exact .inr ⟨hq.symm, by lia⟩
 ·rw [LP hq] at e'
  have := MM e'
  exact .inl (by lia)
theorem D6 {p : Pic} (c : bz p) {ts : List Tri} (nd : ts.Nodup) (h : ∀ t ∈ ts, t ∈ ao p) : (lV ts).Pairwise Sep := by
 have h1 := D4 ts
 have h2 : (lV ts).Nodup := (fW ts).nodup_iff.mpr nd
 refine M3 ?_ (h1.and h2)
 intro s t hs ht k
 have hs' := h s ((fW ts).mem_iff.mp hs)
 have ht' := h t ((fW ts).mem_iff.mp ht)
 have gs := ii c hs'
 have gt := ii c ht'
 obtain ⟨i, hi, ei⟩ := jo hs'
 obtain ⟨j, hj, ej⟩ := jo ht'
 have hij : i ≠ j := fun z => k.2 (by rw [<- ei, <- ej, z])
 by_cases hlt : i < j
 ·have := wW (oS c) hlt hj
  rw [ei, ej] at this
  exact this
 ·have := wW (oS c) (show j < i by lia) hi
  rw [ei, ej] at this
  have k1 := k.1
  unfold Sep at this
  lia
theorem E8 {p : Pic} (c : bz p) {ts us : List Tri} (nd : ts.Nodup) (h : ∀ t, t ∈ ts ↔ t ∈ us) (hu : us.Pairwise Sep) (hs : ∀ t ∈ us, t ∈ ao p) : lV ts = us := by
 refine Bm (fun t ht => ?_) (D6 c nd fun t ht => hs t ((h t).mp ht)) hu fun t => ?_
 ·exact ii c (hs t ((h t).mp ((fW ts).mem_iff.mp ht)))
 ·rw [(fW ts).mem_iff]
  exact h t
theorem qw {α : Type} (f : α -> Bool) : ∀ l : List α, gr (l.map fun a => D.bl (f a)) = some (l.map f)
 | [] => rfl
 | a :: l => by
  rw [L1, gr, qw f l]
  rfl
noncomputable def mV (p : Pic) (W : Wk) : Bool := !(W.any fun w => bB p w.1)
theorem A1 : ∀ l : List D, shs (l.map O.sh) = some l
 | [] => rfl
 | d :: l => by
  have h := A1 l
  simp [shs, h]
theorem Dt {s t : Tri} (g : s.2.1 <= s.2.2) (h : Sep s t) : Lx s t := by
 rcases h with h | ⟨h1, h2⟩
 ·exact .inl h
 ·exact .inr ⟨h1, by lia⟩
theorem Fk (p : Pic) (c : bz p) (hp : p.length <= 160) (W : Wk) (hW : W.length <= 160) : (gT (dQ (xCB yC (ac (xL (b7 [none, none, none, none, some 1] (nN 0 xPv) (cO (aw (af 0) (aw (af 1) (aw (af 2) (aw (af 3) cF))))) eD (bd bM (ac (aC 4) (ac (aC 0) (ac (aC 1) (ac (aC 2) aq))))))) aq)))) [.ow (aK W), .sh (aB p)] = some (mV p W) := by
 have hl1 : W.length <= LIM := cb (by lia)
 have hc : dZ (cO (aw (af 0) (aw (af 1) (aw (af 2) (aw (af 3) cF))))) eD (bd bM (ac (aC 4) (ac (aC 0) (ac (aC 1) (ac (aC 2) aq))))) [.un, .un, .un, .un, .sh (aB p)] (W.map aF) = some (W.map fun w => D.bl (bB p w.1)) := gH aF _ W fun w _ => by
  have h := wp p c (by lia) w.1.1 w.1.2.1 w.1.2.2
  simp [kG, h]
 have z : b7 [none, none, none, none, some 1] (nN 0 xPv) (cO (aw (af 0) (aw (af 1) (aw (af 2) (aw (af 3) cF))))) eD (bd bM (ac (aC 4) (ac (aC 0) (ac (aC 1) (ac (aC 2) aq))))) [.ow (aK W), .sh (aB p)] = some (W.map fun w => D.bl (bB p w.1)) := by
  have z1 : nN 0 xPv [.ow (aK W), .sh (aB p)] = some (W.map aF) := by
   show shs ((W.map aF).map O.sh) = _
   exact A1 _
  unfold b7
  rw [z1]
  show (if (W.map aF).length <= LIM then _ else _) = _
  rw [LR, LO hl1]
  exact hc
 have z2 : ac (xL (b7 [none, none, none, none, some 1] (nN 0 xPv) (cO (aw (af 0) (aw (af 1) (aw (af 2) (aw (af 3) cF))))) eD (bd bM (ac (aC 4) (ac (aC 0) (ac (aC 1) (ac (aC 2) aq))))))) aq [.ow (aK W), .sh (aB p)] = some [.lst (W.map fun w => D.bl (bB p w.1))] := by
  unfold ac xL
  unfold ac at z
  rw [z]
  rfl
 have z3 : xCB yC (ac (xL (b7 [none, none, none, none, some 1] (nN 0 xPv) (cO (aw (af 0) (aw (af 1) (aw (af 2) (aw (af 3) cF))))) eD (bd bM (ac (aC 4) (ac (aC 0) (ac (aC 1) (ac (aC 2) aq))))))) aq) [.ow (aK W), .sh (aB p)] = some (.bl (W.any fun w => bB p w.1)) := by
  unfold xCB
  rw [z2]
  show ((gr (W.map fun w => D.bl (bB p w.1))).map _) = _
  rw [qw]
  show some (D.bl ((W.map fun w => bB p w.1).any id)) = _
  rw [List.any_map]
  rfl
 unfold gT dQ
 rw [z3]
 rfl
theorem xr (p : Pic) (c : bz p) (hp : p.length <= 160) : ∀ Ws : List Wk, (∀ W ∈ Ws, W.length <= 160) -> nP (gT (dQ (xCB yC (ac (xL (b7 [none, none, none, none, some 1] (nN 0 xPv) (cO (aw (af 0) (aw (af 1) (aw (af 2) (aw (af 3) cF))))) eD (bd bM (ac (aC 4) (ac (aC 0) (ac (aC 1) (ac (aC 2) aq))))))) aq)))) [.un, .sh (aB p)] (Ws.map aK) = some ((Ws.filter (mV p)).map aK)
 | [], _ => rfl
 | W :: Ws, h => by
  have h1 := Fk p c hp W (h W LV)
  have h2 := xr p c hp Ws fun V hV => h V (LY _ hV)
  rw [L1]
  unfold nP
  show (((gT (dQ (xCB yC (ac (xL (b7 [none, none, none, none, some 1] (nN 0 xPv) (cO (aw (af 0) (aw (af 1) (aw (af 2) (aw (af 3) cF))))) eD (bd bM (ac (aC 4) (ac (aC 0) (ac (aC 1) (ac (aC 2) aq))))))) aq)))) [.ow (aK W), .sh (aB p)]).bind _) = _
  rw [h1, h2, Mx]
  cases mV p W <;> rfl
structure HOk (p : Pic) (Hs : List Wk) : Prop where
 len : Hs.length <= 160
 wok : ∀ W ∈ Hs, W.length <= 160 /\ ∃ s, WOk (bC p) s W /\ ∀ w ∈ W, w.1 = s \/ Lx s w.1
 apart : Hs.Pairwise fun V W => (∃ v w, V[0]? = some v /\ W[0]? = some w /\ Lx v.1 w.1) /\ ∀ v ∈ V, ∀ w ∈ W, ¬ Touch v.1 w.1
 mem : ∀ t, (t ∈ Hs.flatMap fun W => W.map (·.1)) ↔ t ∈ ao (bC p) /\ FI p t
 nd : (Hs.flatMap fun W => W.map (·.1)).Nodup
theorem Cd (p : Pic) (c : bz p) (hp : p.length <= 160) (hn : (ao p).length <= 160) : ∃ Hs : List Wk, k9 [aB p] = some (.lst (Hs.map aK)) /\ HOk p Hs := by
 have cg := sD c
 have hgl : (bC p).length <= 160 := by
  have h1 := List.length_filter_le lN (gpP p)
  have h2 : (gpP p).length = p.length := by unfold gpP; rw [LR]
  unfold bC
  lia
 have hgn : (ao (bC p)).length <= 160 := by
  rw [mP]
  have := gD p
  lia
 have hpg : bv [aB p] = some (aB (bC p)) := ko p (by lia) fun q hq => by
  have := lX hq
  lia
 have nd : (ao (bC p)).Nodup := CW cg
 obtain ⟨M, o⟩ := BT (ao (bC p))
 have hw0 : ∀ s, ∃ W : Wk, s ∈ ao (bC p) -> b9 [aB (bC p), aj s, .int 0] = some (aK W) /\ IsWalk (bC p) s W := fun s => by
  by_cases hs : s ∈ ao (bC p)
  ·obtain ⟨W, k1, k2⟩ := qT (bC p) cg (by lia) (by lia) s hs
   exact ⟨W, fun _ => ⟨k1, k2⟩⟩
  ·exact ⟨[], fun z => absurd z hs⟩
 have hw : ∀ s ∈ ao (bC p), b9 [aB (bC p), aj s, .int 0] = some (aK (Classical.choose (hw0 s))) /\ IsWalk (bC p) s (Classical.choose (hw0 s)) := fun s hs => Classical.choose_spec (hw0 s) hs
 generalize hwk : (fun s => Classical.choose (hw0 s)) = wk at hw
 have hw' : ∀ s ∈ ao (bC p), b9 [aB (bC p), aj s, .int 0] = some (aK (wk s)) /\ IsWalk (bC p) s (wk s) := fun s hs => by rw [<- hwk]; exact hw s hs
 have hcl := pL (bC p) cg hgl hgn nd M o wk hw'
 have fk : ∀ k ∈ bO (ao (bC p)).length M, k < (ao (bC p)).length /\ M k = k := fun k hk => by
  unfold bO at hk
  obtain ⟨a, b⟩ := Md.mp hk
  exact ⟨MA.mp a, MI b⟩
 have fl : (bO (ao (bC p)).length M).length <= 160 := by
  have := List.length_filter_le (fun k => decide (M k = k)) (List.range (ao (bC p)).length)
  rw [MO] at this
  unfold bO
  lia
 obtain ⟨Ws, hWs⟩ : ∃ Ws, Ws = (bO (ao (bC p)).length M).map fun k => wk (sAt (ao (bC p)) k) := ⟨_, rfl⟩
 have e6 : ((bO (ao (bC p)).length M).map fun k => aK (wk (sAt (ao (bC p)) k))) = Ws.map aK := by rw [hWs, MF]; rfl
 rw [e6] at hcl
 have wle : ∀ W ∈ Ws, W.length <= 160 := fun W hW => by
  rw [hWs] at hW
  obtain ⟨k, hk, rfl⟩ := L7.mp hW
  have := (hw' _ (bQ (fk k hk).1)).2.toWOk.le (bQ (fk k hk).1)
  lia
 have wlen : Ws.length <= 160 := by rw [hWs, LR]; exact fl
 have fnd : (bO (ao (bC p)).length M).Pairwise (· < ·) := List.Pairwise.sublist List.filter_sublist List.pairwise_lt_range
 have spw := oS cg
 have ne : ∀ {k1 k2 x y}, k1 ∈ bO (ao (bC p)).length M -> k2 ∈ bO (ao (bC p)).length M -> k1 < k2 -> x ∈ (wk (sAt (ao (bC p)) k1)).map (·.1) -> y ∈ (wk (sAt (ao (bC p)) k2)).map (·.1) -> (Touch x y \/ x = y) -> False := fun {k1 k2 x y} hk1 hk2 hlt hx hy ht => by
  have h1 := fk k1 hk1
  have h2 := fk k2 hk2
  have c1 := ((hw' _ (bQ h1.1)).2.all x).mp hx
  have c2 := ((hw' _ (bQ h2.1)).2.all y).mp hy
  have c3 : Con (ao (bC p)) (sAt (ao (bC p)) k1) y := by
   rcases ht with ht | rfl
   ·exact c1.step ht (c2.mem (bQ h2.1))
   ·exact c1
  have := (pB nd o h1.1 h2.1).mpr (c3.trans (c2.symm (bQ h2.1)))
  lia
 refine ⟨Ws.filter (mV p), ?_, ?_⟩
 ·have hl : Ws.length <= LIM := cb (by lia)
  have hf := xr p c hp Ws wle
  have hX : rA [.sh (aB p), .un] = some (.ro (.lst ((Ws.filter (mV p)).map aK))) := by
   unfold rA
   rw [aH (ρ' := [.sh (aB p), .ow (.lst (Ws.map aK))]) (by simp [hpg, hcl])]
   show (if (Ws.map aK).length <= LIM /\ 0 < 2 then (nP (gT (dQ (xCB yC (ac (xL (b7 [none, none, none, none, some 1] (nN 0 xPv) (cO (aw (af 0) (aw (af 1) (aw (af 2) (aw (af 3) cF))))) eD (bd bM (ac (aC 4) (ac (aC 0) (ac (aC 1) (ac (aC 2) aq))))))) aq)))) [.un, .sh (aB p)] (Ws.map aK)).map (fun r => Out.ro (.lst r)) else none) = _
   rw [LR, LO ⟨hl, by decide⟩, hf]
   rfl
  unfold k9 fnO
  have hh : ([aB p].map Sl.sh ++ List.replicate (2 - [aB p].length) .un) = [.sh (aB p), .un] := rfl
  rw [hh, hX]
 ·refine ⟨Mm (List.length_filter_le _ _) wlen, fun W hW => ?_, ?_, fun t => ?_, ?_⟩
  ·have hW' := (Md.mp hW).1
   refine ⟨wle W hW', ?_⟩
   rw [hWs] at hW'
   obtain ⟨k, hk, rfl⟩ := L7.mp hW'
   have h1 := fk k hk
   have iw := (hw' _ (bQ h1.1)).2
   refine ⟨_, iw.toWOk, fun w hw2 => ?_⟩
   have cw := (iw.all w.1).mp (L7.mpr ⟨w, hw2, rfl⟩)
   obtain ⟨i, hi, e⟩ := jo (cw.mem (bQ h1.1))
   rw [<- e] at cw ⊢
   have hm := (pB nd o h1.1 hi).mpr cw
   have hle := o.le i hi
   by_cases hik : i = k
   ·rw [hik]; exact .inl rfl
   ·exact .inr (Dt (ii cg (bQ h1.1)) (wW spw (by lia) hi))
  ·refine List.Pairwise.sublist List.filter_sublist ?_
   rw [hWs, MT]
   refine M3 ?_ fnd
   intro k1 k2 hk1 hk2 hlt
   have h1 := fk k1 hk1
   have h2 := fk k2 hk2
   obtain ⟨d1, e1⟩ := (hw' _ (bQ h1.1)).2.hd
   obtain ⟨d2, e2⟩ := (hw' _ (bQ h2.1)).2.hd
   exact ⟨⟨_, _, e1, e2, Dt (ii cg (bQ h1.1)) (wW spw hlt h2.1)⟩, fun v hv w hw2 ht => ne hk1 hk2 hlt (L7.mpr ⟨v, hv, rfl⟩) (L7.mpr ⟨w, hw2, rfl⟩) (.inl ht)⟩
  ·rw [List.mem_flatMap]
   constructor
   ·rintro ⟨W, hW, ht⟩
    obtain ⟨h1, h2⟩ := Md.mp hW
    rw [hWs] at h1
    obtain ⟨k, hk, rfl⟩ := L7.mp h1
    have hkS := bQ (fk k hk).1
    have iw := (hw' _ hkS).2
    have ct := (iw.all t).mp ht
    refine ⟨ct.mem hkS, fun q hq hop hc => ?_⟩
    have : q ∈ (wk (sAt (ao (bC p)) k)).map (·.1) := (iw.all q).mpr (ct.trans (hc.symm hq))
    obtain ⟨w, hw2, rfl⟩ := L7.mp this
    have h3 : ((wk (sAt (ao (bC p)) k)).any fun w => bB p w.1) = true := List.any_eq_true.mpr ⟨w, hw2, hop⟩
    unfold mV at h2
    rw [h3] at h2
    cases h2
   ·rintro ⟨ht, hs⟩
    obtain ⟨i, hi, rfl⟩ := jo ht
    have hle := o.le i hi
    have hid := o.idem i hi
    have hkS : sAt (ao (bC p)) (M i) ∈ ao (bC p) := bQ (by lia)
    have iw := (hw' _ hkS).2
    have ct : Con (ao (bC p)) (sAt (ao (bC p)) (M i)) (sAt (ao (bC p)) i) := (o.con i hi).symm (bQ hi)
    refine ⟨wk (sAt (ao (bC p)) (M i)), Md.mpr ⟨by rw [hWs]; exact L7.mpr ⟨M i, by unfold bO; exact Md.mpr ⟨MA.mpr (by lia), L6 hid⟩, rfl⟩, ?_⟩, (iw.all _).mpr ct⟩
    unfold mV
    cases hany : (wk (sAt (ao (bC p)) (M i))).any fun w => bB p w.1 with
    | false => rfl
    | true =>
     obtain ⟨w, hw2, hop⟩ := List.any_eq_true.mp hany
     have cw := (iw.all w.1).mp (L7.mpr ⟨w, hw2, rfl⟩)
     exact absurd ((cw.symm hkS).trans ct) (hs w.1 (cw.mem hkS) hop)
  ·refine List.pairwise_flatMap.mpr ⟨fun W hW => ?_, ?_⟩
   ·have hW' := (Md.mp hW).1
    rw [hWs] at hW'
    obtain ⟨k, hk, rfl⟩ := L7.mp hW'
    exact (hw' _ (bQ (fk k hk).1)).2.nd
   ·refine List.Pairwise.sublist List.filter_sublist ?_
    rw [hWs, MT]
    refine M3 ?_ fnd
    intro k1 k2 hk1 hk2 hlt x hx y hy e
    exact ne hk1 hk2 hlt hx hy (.inr e)
theorem lF {a b : XT} {ρ : M.Env} (h : a ρ = some false) : xOr a b ρ = b ρ := by unfold xOr; rw [h]; rfl
theorem km (v w : Tri × D) : aV [aF v, aF w] = some (.bl (decide (Touch v.1 w.1))) := by
 have a0 : ∀ a b c d : D, atI [a, b, c, d] 0 = some a := fun _ _ _ _ => rfl
 have a1 : ∀ a b c d : D, atI [a, b, c, d] 1 = some b := fun _ _ _ _ => rfl
 have a2 : ∀ a b c d : D, atI [a, b, c, d] 2 = some c := fun _ _ _ _ => rfl
 unfold Touch
 by_cases h1 : v.1.1 = w.1.1 + 1
 ·by_cases h3 : v.1.2.1 <= w.1.2.2 <;> by_cases h4 : w.1.2.1 <= v.1.2.2 <;> simp [aV, eM, fnO, ge, a0, a1, a2, h1, h3, h4]
 ·by_cases h2 : w.1.1 = v.1.1 + 1
  ·by_cases h3 : v.1.2.1 <= w.1.2.2 <;> by_cases h4 : w.1.2.1 <= v.1.2.2 <;> simp [aV, eM, fnO, ge, a0, a1, a2, h2, h3, h4]
  ·simp [aV, eM, fnO, ge, a0, a1, a2, h1, h2]
theorem Gq {s t : Tri} (h : Lx s t) : HT.aQ (bq s) (bq t) = true := by
 show (if s.1 = t.1 then (if s.2.1 = t.2.1 then _ else decide (s.2.1 < t.2.1)) else decide (s.1 < t.1)) = true
 rcases h with h | ⟨h1, h2⟩
 ·rw [LP (by lia)]; exact L6 h
 ·rw [LO h1, LP (by lia)]; exact L6 h2
theorem EO (w : Tri × D) : dSl (aF w) none (some 3) = some (aj w.1) := rfl
theorem Fg {s t : Tri} (h : Lx s t) : Au (aj t) (aj s) = some (.bl false) := by
 show (if (3 : Nat) = 3 then some (D.bl (!HT.aQ (bq s) (bq t))) else none) = _
 rw [LO rfl, Gq h]
 rfl
theorem yP (p : Pic) (s : Tri) (W : Wk) (o : WOk p s W) (hl : W.length <= 400) (k : Nat) (hk : k + 1 < W.length) (v2 v3 v4 : Sl) : ∃ w2 w3 w4, iR [.sh (av W), .sh (.int (1 + (k : Int))), v2, v3, v4] = some (.nx [.sh (av W), .sh (.int (1 + (k : Int))), w2, w3, w4]) := by
 have hw : W[k + 1]? = some W[k + 1] := Mf hk
 have ha : W[k]? = some W[k] := Mf (by lia)
 rcases o.pl (k + 1) _ hw with ⟨z, _⟩ | ⟨j, w', hj, hj', ej, tj, nj⟩
 ·lia
 have ek : atI (W.map aF) (1 + (k : Int)) = some (aF W[k + 1]) := by
  have := cQ (l := W.map aF) (j := k + 1) (x := aF W[k + 1]) (by rw [L3, hw]; rfl)
  rw [<- this]; congr 1; lia
 have ejj : atI (W.map aF) (j : Int) = some (aF w') := cQ (by rw [L3, hj']; rfl)
 have eah : atI (W.map aF) ((1 + (k : Int)) - 1) = some (aF W[k]) := by
  have := cQ (l := W.map aF) (j := k) (x := aF W[k]) (by rw [L3, ha]; rfl)
  rw [<- this]; congr 1; lia
 have a3 : ∀ w : Tri × D, atI [D.int w.1.1, .int w.1.2.1, .int w.1.2.2, w.2] 3 = some w.2 := fun _ => rfl
 have d3 : dIx (aF W[k + 1]) (.int 3) = some (.int (j : Int)) := by rw [<- ej]; rfl
 have ht := km W[k + 1] w'
 rw [L6 tj.symm] at ht
 have hr := wS j (by lia)
 obtain ⟨ρ2, k2, u3, rfl⟩ := bL (g := af 3) (m := kH) (fun i : Nat => D.int (i : Int)) (fun _ ρ => ∃ u3, ρ = [.sh (av W), .sh (.int (1 + (k : Int))), .sh (.int (j : Int)), u3, v4]) (List.range j) [.sh (av W), .sh (.int (1 + (k : Int))), .sh (.int (j : Int)), v3, v4] ⟨_, rfl⟩ (by
  rintro pre i post _ e ⟨u3, rfl⟩
  have hi : i < j := MA.mp (by rw [e]; simp)
  have hwi : W[i]? = some W[i] := Mf (by lia)
  have ei : atI (W.map aF) (i : Int) = some (aF W[i]) := cQ (by rw [L3, hwi]; rfl)
  have hti := km W[k + 1] W[i]
  rw [LX (fun z => nj i _ hi hwi z.symm)] at hti
  refine ⟨[.sh (av W), .sh (.int (1 + (k : Int))), .sh (.int (j : Int)), .sh (.int (i : Int)), v4], [.sh (av W), .sh (.int (1 + (k : Int))), .sh (.int (j : Int)), .sh (.int (i : Int)), v4], rfl, .inl ?_, _, rfl⟩
  unfold kH
  rw [cv]
  ·rfl
  ·have z : bd aV (ac (xOp dIx (ab 0) (ab 1)) (ac (xOp dIx (ab 0) (ab 3)) aq)) [.sh (av W), .sh (.int (1 + (k : Int))), .sh (.int (j : Int)), .sh (.int (i : Int)), v4] = some (.bl false) := by
    simp [ek, ei, hti]
   unfold dQ
   rw [z]
   rfl)
 refine ⟨.sh (.int (j : Int)), u3, .sh (aF W[k]), ?_⟩
 have hj0 : ¬ (j : Int) < 0 := by lia
 have hjk : ¬ (1 + (k : Int)) <= (j : Int) := by lia
 unfold iR
 have pl3 : xOp dIx (xOp dIx (ab 0) (ab 1)) (xC (.int 3)) [.sh (av W), .sh (.int (1 + (k : Int))), v2, v3, v4] = some (.int (j : Int)) := by
  have z : xOp dIx (ab 0) (ab 1) [.sh (av W), .sh (.int (1 + (k : Int))), v2, v3, v4] = some (aF W[k + 1]) := by simp [ek]
  show ((xOp dIx (ab 0) (ab 1) [.sh (av W), .sh (.int (1 + (k : Int))), v2, v3, v4]).bind fun x => _) = _
  rw [z]
  exact d3
 rw [aH (ρ' := [.sh (av W), .sh (.int (1 + (k : Int))), .sh (.int (j : Int)), v3, v4]) (by
  unfold cP
  rw [pl3]
  rfl)]
 rw [aH (ρ' := [.sh (av W), .sh (.int (1 + (k : Int))), .sh (.int (j : Int)), v3, v4]) (by
  rw [cv]
  ·rfl
  ·have z1 : gT (dQ (xCB ox (ac (xOp dIx (ab 0) (ab 1)) (ac (xC (.ty "tuple")) aq)))) [.sh (av W), .sh (.int (1 + (k : Int))), .sh (.int (j : Int)), v3, v4] = some false := by
    have y0 : xOp dIx (ab 0) (ab 1) [.sh (av W), .sh (.int (1 + (k : Int))), .sh (.int (j : Int)), v3, v4] = some (aF W[k + 1]) := ek
    have y1 : ac (xOp dIx (ab 0) (ab 1)) (ac (xC (.ty "tuple")) aq) [.sh (av W), .sh (.int (1 + (k : Int))), .sh (.int (j : Int)), v3, v4] = some [aF W[k + 1], .ty "tuple"] := by
     unfold ac
     rw [y0]
     rfl
    have y2 : xCB ox (ac (xOp dIx (ab 0) (ab 1)) (ac (xC (.ty "tuple")) aq)) [.sh (av W), .sh (.int (1 + (k : Int))), .sh (.int (j : Int)), v3, v4] = some (.bl true) := by
     unfold xCB
     rw [y1]
     rfl
    unfold gT dQ
    rw [y2]
    rfl
   have z2 : xB (xOp (yh false) (ab 2) (xC .non)) [.sh (av W), .sh (.int (1 + (k : Int))), .sh (.int (j : Int)), v3, v4] = some false := rfl
   have z3 : xB (xOp dLt (ab 2) (xC (.int 0))) [.sh (av W), .sh (.int (1 + (k : Int))), .sh (.int (j : Int)), v3, v4] = some false := by
    show some (decide ((j : Int) < 0)) = _
    rw [LX hj0]
   have z4 : xB (xOp dGe (ab 2) (ab 1)) [.sh (av W), .sh (.int (1 + (k : Int))), .sh (.int (j : Int)), v3, v4] = some false := by
    show some (decide ((1 + (k : Int)) <= (j : Int))) = _
    rw [LX hjk]
   rw [lF z1, lF z2, lF z3]
   exact z4)]
 rw [aH (ρ' := [.sh (av W), .sh (.int (1 + (k : Int))), .sh (.int (j : Int)), v3, v4]) (by
  rw [cv]
  ·rfl
  ·have z : bd aV (ac (xOp dIx (ab 0) (ab 1)) (ac (xOp dIx (ab 0) (ab 2)) aq)) [.sh (av W), .sh (.int (1 + (k : Int))), .sh (.int (j : Int)), v3, v4] = some (.bl true) := by simp [ek, ejj, ht]
   unfold gT dQ
   rw [z]
   rfl)]
 rw [aH (ρ' := [.sh (av W), .sh (.int (1 + (k : Int))), .sh (.int (j : Int)), u3, v4]) (by
  have e : lf (ac (ab 2) aq) [.sh (av W), .sh (.int (1 + (k : Int))), .sh (.int (j : Int)), v3, v4] = some ((List.range j).map fun i : Nat => D.int (i : Int)) := hr
  unfold eQ
  rw [e]
  exact k2)]
 rw [aH (ρ' := [.sh (av W), .sh (.int (1 + (k : Int))), .sh (.int (j : Int)), u3, .sh (aF W[k])]) (by
  have z : xOp dIx (ab 0) (xOp gd (ab 1) (xC (.int 1))) [.sh (av W), .sh (.int (1 + (k : Int))), .sh (.int (j : Int)), u3, v4] = some (aF W[k]) := by
   show dIx (av W) (.int (1 + (k : Int) - 1)) = _
   exact eah
  unfold cP
  rw [z]
  rfl)]
 by_cases hk0 : k = 0
 ·have g1 : xB (xOp dGt (ab 1) (xC (.int 1))) [.sh (av W), .sh (.int (1 + (k : Int))), .sh (.int (j : Int)), u3, .sh (aF W[k])] = some false := by
   subst hk0
   simp
  rw [aH (ρ' := [.sh (av W), .sh (.int (1 + (k : Int))), .sh (.int (j : Int)), u3, .sh (aF W[k])]) (by
   rw [cv]
   ·rfl
   ·unfold jl
    rw [g1]
    rfl)]
  rw [cv]
  ·rfl
  ·unfold jl
   rw [g1]
   rfl
 ·have hk1 : (1 : Int) < 1 + (k : Int) := by lia
  have g1 : xB (xOp dGt (ab 1) (xC (.int 1))) [.sh (av W), .sh (.int (1 + (k : Int))), .sh (.int (j : Int)), u3, .sh (aF W[k])] = some true := by
   have z : dGt (.int (1 + (k : Int))) (.int 1) = some (.bl true) := by
    show some (D.bl (decide ((1 : Int) < 1 + (k : Int)))) = _
    rw [L6 hk1]
   show ((dGt (.int (1 + (k : Int))) (.int 1)).bind _) = _
   rw [z]
   rfl
  rcases o.pl k _ ha with ⟨z, _⟩ | ⟨j0, w0, hj0', _, e0, _⟩
  ·exact absurd z hk0
  obtain ⟨od1, od2⟩ := o.od k _ _ j0 j ha hw e0 ej
  have d0 : dIx (aF W[k]) (.int 3) = some (.int (j0 : Int)) := by rw [<- e0]; rfl
  rw [aH (ρ' := [.sh (av W), .sh (.int (1 + (k : Int))), .sh (.int (j : Int)), u3, .sh (aF W[k])]) (by
   rw [cv]
   ·rfl
   ·have g2 : xB (xOp dLt (ab 2) (xOp dIx (ab 4) (xC (.int 3)))) [.sh (av W), .sh (.int (1 + (k : Int))), .sh (.int (j : Int)), u3, .sh (aF W[k])] = some false := by
     have z : xOp dIx (ab 4) (xC (.int 3)) [.sh (av W), .sh (.int (1 + (k : Int))), .sh (.int (j : Int)), u3, .sh (aF W[k])] = some (.int (j0 : Int)) := d0
     have z2 : xOp dLt (ab 2) (xOp dIx (ab 4) (xC (.int 3))) [.sh (av W), .sh (.int (1 + (k : Int))), .sh (.int (j : Int)), u3, .sh (aF W[k])] = some (.bl false) := by
      show ((xOp dIx (ab 4) (xC (.int 3)) [.sh (av W), .sh (.int (1 + (k : Int))), .sh (.int (j : Int)), u3, .sh (aF W[k])]).bind fun y => dLt (.int (j : Int)) y) = _
      rw [z]
      show some (D.bl (decide ((j : Int) < (j0 : Int)))) = _
      rw [LX (by lia)]
     unfold xB
     rw [z2]
     rfl
    unfold jl
    rw [g1]
    exact g2)]
  rw [cv]
  ·rfl
  ·have g3 : jl (xB (xOp (dEq false) (ab 2) (xOp dIx (ab 4) (xC (.int 3))))) (xB (xOp (Au) (xSl (xOp dIx (ab 0) (ab 1)) aU (bP (xC (.int 3)))) (xSl (ab 4) aU (bP (xC (.int 3)))))) [.sh (av W), .sh (.int (1 + (k : Int))), .sh (.int (j : Int)), u3, .sh (aF W[k])] = some false := by
    have z : xOp dIx (ab 4) (xC (.int 3)) [.sh (av W), .sh (.int (1 + (k : Int))), .sh (.int (j : Int)), u3, .sh (aF W[k])] = some (.int (j0 : Int)) := d0
    by_cases he : j0 = j
    ·have hlx := od2 he
     have y1 : xSl (xOp dIx (ab 0) (ab 1)) aU (bP (xC (.int 3))) [.sh (av W), .sh (.int (1 + (k : Int))), .sh (.int (j : Int)), u3, .sh (aF W[k])] = some (aj W[k + 1].1) := by
      have y0 : xOp dIx (ab 0) (ab 1) [.sh (av W), .sh (.int (1 + (k : Int))), .sh (.int (j : Int)), u3, .sh (aF W[k])] = some (aF W[k + 1]) := ek
      unfold xSl
      rw [y0]
      exact EO _
     have y2 : xSl (ab 4) aU (bP (xC (.int 3))) [.sh (av W), .sh (.int (1 + (k : Int))), .sh (.int (j : Int)), u3, .sh (aF W[k])] = some (aj W[k].1) := EO _
     have y3 : xOp (Au) (xSl (xOp dIx (ab 0) (ab 1)) aU (bP (xC (.int 3)))) (xSl (ab 4) aU (bP (xC (.int 3)))) [.sh (av W), .sh (.int (1 + (k : Int))), .sh (.int (j : Int)), u3, .sh (aF W[k])] = some (.bl false) := by
      unfold xOp
      unfold xOp at y1
      rw [y1]
      show ((xSl (ab 4) aU (bP (xC (.int 3))) [.sh (av W), .sh (.int (1 + (k : Int))), .sh (.int (j : Int)), u3, .sh (aF W[k])]).bind fun y => Au (aj W[k + 1].1) y) = _
      rw [y2]
      exact Fg hlx
     have y4 : ∃ b, xB (xOp (dEq false) (ab 2) (xOp dIx (ab 4) (xC (.int 3)))) [.sh (av W), .sh (.int (1 + (k : Int))), .sh (.int (j : Int)), u3, .sh (aF W[k])] = some b := by
      refine ⟨true, ?_⟩
      have y5 : xOp (dEq false) (ab 2) (xOp dIx (ab 4) (xC (.int 3))) [.sh (av W), .sh (.int (1 + (k : Int))), .sh (.int (j : Int)), u3, .sh (aF W[k])] = some (.bl true) := by
       show ((xOp dIx (ab 4) (xC (.int 3)) [.sh (av W), .sh (.int (1 + (k : Int))), .sh (.int (j : Int)), u3, .sh (aF W[k])]).bind fun y => dEq false (.int (j : Int)) y) = _
       rw [z]
       show dEq false (.int (j : Int)) (.int (j0 : Int)) = _
       rw [he]
       simp
      unfold xB
      rw [y5]
      rfl
     obtain ⟨b, hb⟩ := y4
     unfold jl
     rw [hb]
     cases b with
     | false => rfl
     | true =>
      show xB (xOp (Au) (xSl (xOp dIx (ab 0) (ab 1)) aU (bP (xC (.int 3)))) (xSl (ab 4) aU (bP (xC (.int 3))))) _ = _
      unfold xB
      rw [y3]
      rfl
    ·have he' : ¬ (j : Int) = (j0 : Int) := by lia
     have y5 : xOp (dEq false) (ab 2) (xOp dIx (ab 4) (xC (.int 3))) [.sh (av W), .sh (.int (1 + (k : Int))), .sh (.int (j : Int)), u3, .sh (aF W[k])] = some (.bl false) := by
      show ((xOp dIx (ab 4) (xC (.int 3)) [.sh (av W), .sh (.int (1 + (k : Int))), .sh (.int (j : Int)), u3, .sh (aF W[k])]).bind fun y => dEq false (.int (j : Int)) y) = _
      rw [z]
      show dEq false (.int (j : Int)) (.int (j0 : Int)) = _
      simp [he']
     have y6 : xB (xOp (dEq false) (ab 2) (xOp dIx (ab 4) (xC (.int 3)))) [.sh (av W), .sh (.int (1 + (k : Int))), .sh (.int (j : Int)), u3, .sh (aF W[k])] = some false := by
      unfold xB
      rw [y5]
      rfl
     unfold jl
     rw [y6]
     rfl
   show ((xB (xOp dGt (ab 1) (xC (.int 1))) [.sh (av W), .sh (.int (1 + (k : Int))), .sh (.int (j : Int)), u3, .sh (aF W[k])]).bind _) = _
   rw [g1]
   exact g3
theorem lZ {bt : Nat -> Nat -> Bool} : ∀ n, (∀ k, k < n -> bt (k + 1) 0 = false) -> argBest bt n = 0
 | 0, _ => rfl
 | n + 1, h => by
  have e := lZ n fun k hk => h k (by lia)
  unfold argBest
  rw [e, h n (by lia)]
  rfl
theorem xN : ∀ ts : List Tri, jv (ts.map aj) = some (ts.map bq)
 | [] => rfl
 | t :: ts => by
  rw [L1, jv, xN ts]
  rfl
theorem GR {s t : Tri} (h : t = s \/ Lx s t) : HT.aQ (bq t) (bq s) = false := by
 show (if t.1 = s.1 then (if t.2.1 = s.2.1 then (if t.2.2 = s.2.2 then HT.aQ [] [] else decide (t.2.2 < s.2.2)) else decide (t.2.1 < s.2.1)) else decide (t.1 < s.1)) = false
 rcases h with rfl | h | ⟨h1, h2⟩
 ·rw [LO rfl, LO rfl, LO rfl]; rfl
 ·rw [LP (by lia)]; exact LX (by lia)
 ·rw [LO h1.symm, LP (by lia)]; exact LX (by lia)
theorem GO (ts : List Tri) (s : Tri) (h0 : ts[0]? = some s) (h : ∀ t ∈ ts, t = s \/ Lx s t) : se [.lst (ts.map aj)] = some (aj s) := by
 show ((jv (ts.map aj)).bind fun u => (ts.map aj)[argBest (fun i j => HT.aQ (u.getD i []) (u.getD j [])) ((ts.map aj).length - 1)]?) = _
 rw [xN]
 show (ts.map aj)[argBest (fun i j => HT.aQ ((ts.map bq).getD i []) ((ts.map bq).getD j [])) ((ts.map aj).length - 1)]? = _
 have e0 : (ts.map bq).getD 0 [] = bq s := by rw [MZ, L3, h0]; rfl
 rw [lZ _ fun k hk => ?_, L3, h0]
 ·rfl
 ·rw [LR] at hk
  have hk' : k + 1 < ts.length := by lia
  have e1 : (ts.map bq).getD (k + 1) [] = bq ts[k + 1] := by rw [MZ, L3, Mf hk']; rfl
  rw [e0, e1]
  exact GR (h _ (List.getElem_mem hk'))
theorem Gp (W : Wk) : dZ (af 0) eD (xSl (ab 0) aU (bP (xC (.int 3)))) [.un] (W.map aF) = some ((W.map (·.1)).map aj) := by
 rw [gH aF (fun w => aj w.1) _ fun w _ => rfl, MF]
 rfl
theorem qV (p : Pic) (s : Tri) (W : Wk) (o : WOk p s W) (hm : ∀ w ∈ W, w.1 = s \/ Lx s w.1) (hl : W.length <= 400) : de [av W] = some (.bl true) := by
 obtain ⟨d, h0⟩ := o.hd
 have hpos := (LW.mp h0).1
 have hd : d = .non := by
  rcases o.pl 0 _ h0 with ⟨_, e⟩ | ⟨j, _, hj, _⟩
  ·exact e
  ·exact absurd hj (Nat.not_lt_zero _)
 subst hd
 have e0 : atI (W.map aF) 0 = some (aF (s, .non)) := cQ (j := 0) (by rw [L3, h0]; rfl)
 have hr : rT [.int 1, .int (W.length : Int)] = some ((List.range (W.length - 1)).map fun k : Nat => D.int (1 + (k : Int))) := by
  have e : ((W.length : Int) - 1).toNat = W.length - 1 := by lia
  rw [<- rP, <- e]
  exact dn (by lia)
 obtain ⟨ρ', k1, v1, v2, v3, v4, rfl⟩ := bL (g := af 1) (m := iR) (fun k : Nat => D.int (1 + (k : Int))) (fun _ ρ => ∃ v1 v2 v3 v4, ρ = [.sh (av W), v1, v2, v3, v4]) (List.range (W.length - 1)) [.sh (av W), .un, .un, .un, .un] ⟨_, _, _, _, rfl⟩ (by
  rintro pre k post _ e ⟨v1, v2, v3, v4, rfl⟩
  have hk : k < W.length - 1 := MA.mp (by rw [e]; simp)
  obtain ⟨w2, w3, w4, h⟩ := yP p s W o hl k (by lia) v2 v3 v4
  exact ⟨_, _, rfl, .inl h, _, _, _, _, rfl⟩)
 have hX : lz [.sh (av W), .un, .un, .un, .un] = some (.rt (.bl true)) := by
  unfold lz
  rw [aH (ρ' := [.sh (av W), .un, .un, .un, .un]) (by
   rw [cv]
   ·rfl
   ·have z1 : gT (dQ (xCB ox (ac (ab 0) (ac (xC (.ty "list")) aq)))) [.sh (av W), .un, .un, .un, .un] = some false := by simp
    have hne : ¬ W = [] := fun z => by rw [z] at hpos; exact absurd hpos (Nat.not_lt_zero _)
    have z2 : xB (xOp (dEq false) (xCB ik (ac (ab 0) aq)) (xC (.int 0))) [.sh (av W), .un, .un, .un, .un] = some false := by simp [hne]
    have z4 : xB (xOp (yh true) (xOp dIx (xOp dIx (ab 0) (xC (.int 0))) (xC (.int 3))) (xC .non)) [.sh (av W), .un, .un, .un, .un] = some false := by
     have y0 : xOp dIx (ab 0) (xC (.int 0)) [.sh (av W), .un, .un, .un, .un] = some (aF (s, .non)) := e0
     have y1 : xOp dIx (xOp dIx (ab 0) (xC (.int 0))) (xC (.int 3)) [.sh (av W), .un, .un, .un, .un] = some .non := by
      show ((xOp dIx (ab 0) (xC (.int 0)) [.sh (av W), .un, .un, .un, .un]).bind fun x => _) = _
      rw [y0]
      rfl
     have y2 : xOp (yh true) (xOp dIx (xOp dIx (ab 0) (xC (.int 0))) (xC (.int 3))) (xC .non) [.sh (av W), .un, .un, .un, .un] = some (.bl false) := by
      show ((xOp dIx (xOp dIx (ab 0) (xC (.int 0))) (xC (.int 3)) [.sh (av W), .un, .un, .un, .un]).bind fun x => _) = _
      rw [y1]
      rfl
     unfold xB
     rw [y2]
     rfl
    rw [lF z1, lF z2]
    exact z4)]
  rw [aH (by
   have z0 : ac (xC (.int 1)) (ac (xCB ik (ac (ab 0) aq)) aq) [.sh (av W), .un, .un, .un, .un] = some [.int 1, .int (W.length : Int)] := by simp
   unfold eQ lf
   rw [z0]
   show ((rT [.int 1, .int (W.length : Int)]).bind _) = _
   rw [hr]
   exact k1)]
  have hl1 : W.length <= LIM := cb (by lia)
  have y0 : xSl (xOp dIx (ab 0) (xC (.int 0))) aU (bP (xC (.int 3))) [.sh (av W), v1, v2, v3, v4] = some (aj s) := by
   have y : xOp dIx (ab 0) (xC (.int 0)) [.sh (av W), v1, v2, v3, v4] = some (aF (s, .non)) := e0
   unfold xSl
   rw [y]
   rfl
  have y1 : b7 [none] (xIt (ab 0)) (af 0) eD (xSl (ab 0) aU (bP (xC (.int 3)))) [.sh (av W), v1, v2, v3, v4] = some ((W.map (·.1)).map aj) := by
   have z1 : xIt (ab 0) [.sh (av W), v1, v2, v3, v4] = some (W.map aF) := by simp [sG]
   unfold b7
   rw [z1]
   show (if (W.map aF).length <= LIM then _ else _) = _
   rw [LR, LO hl1]
   exact Gp W
  have y2 : ac (xL (b7 [none] (xIt (ab 0)) (af 0) eD (xSl (ab 0) aU (bP (xC (.int 3)))))) aq [.sh (av W), v1, v2, v3, v4] = some [.lst ((W.map (·.1)).map aj)] := by
   unfold ac xL
   rw [y1]
   rfl
  have y3 : xCB se (ac (xL (b7 [none] (xIt (ab 0)) (af 0) eD (xSl (ab 0) aU (bP (xC (.int 3)))))) aq) [.sh (av W), v1, v2, v3, v4] = some (aj s) := by
   unfold xCB
   rw [y2]
   exact GO _ s (by rw [L3, h0]; rfl) fun t ht => by
    obtain ⟨w, hw, rfl⟩ := L7.mp ht
    exact hm w hw
  have y4 : dEq false (aj s) (aj s) = some (.bl true) := sv false (by rfl)
  unfold dH
  have y5 : xOp (dEq false) (xSl (xOp dIx (ab 0) (xC (.int 0))) aU (bP (xC (.int 3)))) (xCB se (ac (xL (b7 [none] (xIt (ab 0)) (af 0) eD (xSl (ab 0) aU (bP (xC (.int 3)))))) aq)) [.sh (av W), v1, v2, v3, v4] = some (.bl true) := by
   show ((xSl (xOp dIx (ab 0) (xC (.int 0))) aU (bP (xC (.int 3))) [.sh (av W), v1, v2, v3, v4]).bind fun x => (xCB se (ac (xL (b7 [none] (xIt (ab 0)) (af 0) eD (xSl (ab 0) aU (bP (xC (.int 3)))))) aq) [.sh (av W), v1, v2, v3, v4]).bind fun y => dEq false x y) = _
   rw [y0, y3]
   exact y4
  rw [y5]
  rfl
 unfold de mr fnO
 have hh : ([av W].map Sl.sh ++ List.replicate (5 - [av W].length) .un) = [.sh (av W), .un, .un, .un, .un] := rfl
 rw [hh, hX]
 simp
theorem FM {s t : Tri} (h : Lx s t) : D3 (aj s) (aj t) = some (.bl true) := by
 show some (D.bl (HT.aQ (bq s) (bq t))) = _
 rw [Gq h]
theorem DM (L : D) (k j : Int) (v : Tri × D) (W : Wk) (h : ∀ w ∈ W, ¬ Touch v.1 w.1) (hk : dIx L (.int k) = some (av W)) (u4 : Sl) : ∃ u4', jW [.sh L, .sh (.int k), .sh (.int j), .sh (aF v), u4] = some (.nx [.sh L, .sh (.int k), .sh (.int j), .sh (aF v), u4']) := by
 obtain ⟨ρ', k1, u4', rfl⟩ := bL (g := af 4) (m := nr) aF (fun _ ρ => ∃ u4, ρ = [.sh L, .sh (.int k), .sh (.int j), .sh (aF v), u4]) W [.sh L, .sh (.int k), .sh (.int j), .sh (aF v), u4] ⟨_, rfl⟩ (by
  rintro pre w post _ e ⟨u4, rfl⟩
  have ht := km v w
  rw [LX (h w (by rw [e]; simp))] at ht
  refine ⟨[.sh L, .sh (.int k), .sh (.int j), .sh (aF v), .sh (aF w)], [.sh L, .sh (.int k), .sh (.int j), .sh (aF v), .sh (aF w)], rfl, .inl ?_, _, rfl⟩
  unfold nr
  rw [cv]
  ·rfl
  ·have z : bd aV (ac (aC 3) (ac (aC 4) aq)) [.sh L, .sh (.int k), .sh (.int j), .sh (aF v), .sh (aF w)] = some (.bl false) := ht
   unfold dQ
   rw [z]
   rfl)
 refine ⟨u4', ?_⟩
 have z : xIt (xOp dIx (ab 0) (ab 1)) [.sh L, .sh (.int k), .sh (.int j), .sh (aF v), u4] = some (W.map aF) := by
  have z0 : xOp dIx (ab 0) (ab 1) [.sh L, .sh (.int k), .sh (.int j), .sh (aF v), u4] = some (av W) := hk
  unfold xIt
  rw [z0]
  rfl
 unfold jW eQ
 rw [z]
 exact k1
theorem zQ (L : D) (k j : Int) (V W : Wk) (h : ∀ v ∈ V, ∀ w ∈ W, ¬ Touch v.1 w.1) (hk : dIx L (.int k) = some (av W)) (hj : dIx L (.int j) = some (av V)) {v w : Tri × D} (h1 : V[0]? = some v) (h2 : W[0]? = some w) (hx : Lx v.1 w.1) (u3 u4 : Sl) :
  ∃ u3' u4', jK [.sh L, .sh (.int k), .sh (.int j), u3, u4] = some (.nx [.sh L, .sh (.int k), .sh (.int j), u3', u4']) := by
 obtain ⟨ρ', k1, u3', u4', rfl⟩ := bL (g := af 3) (m := jW) aF (fun _ ρ => ∃ u3 u4, ρ = [.sh L, .sh (.int k), .sh (.int j), u3, u4]) V [.sh L, .sh (.int k), .sh (.int j), u3, u4] ⟨_, _, rfl⟩ (by
  rintro pre x post _ e ⟨u3, u4, rfl⟩
  obtain ⟨u4', hu⟩ := DM L k j x W (h x (by rw [e]; simp)) hk u4
  exact ⟨[.sh L, .sh (.int k), .sh (.int j), .sh (aF x), u4], _, rfl, .inl hu, _, _, rfl⟩)
 refine ⟨u3', u4', ?_⟩
 have a1 : xSl (xOp dIx (xOp dIx (ab 0) (ab 2)) (xC (.int 0))) aU (bP (xC (.int 3))) [.sh L, .sh (.int k), .sh (.int j), u3, u4] = some (aj v.1) := by
  have y : xOp dIx (ab 0) (ab 2) [.sh L, .sh (.int k), .sh (.int j), u3, u4] = some (av V) := hj
  have y2 : xOp dIx (xOp dIx (ab 0) (ab 2)) (xC (.int 0)) [.sh L, .sh (.int k), .sh (.int j), u3, u4] = some (aF v) := by
   show ((xOp dIx (ab 0) (ab 2) [.sh L, .sh (.int k), .sh (.int j), u3, u4]).bind fun x => dIx x (.int 0)) = _
   rw [y]
   exact cQ (j := 0) (by rw [L3, h1]; rfl)
  unfold xSl
  rw [y2]
  rfl
 have a2 : xSl (xOp dIx (xOp dIx (ab 0) (ab 1)) (xC (.int 0))) aU (bP (xC (.int 3))) [.sh L, .sh (.int k), .sh (.int j), u3, u4] = some (aj w.1) := by
  have y : xOp dIx (ab 0) (ab 1) [.sh L, .sh (.int k), .sh (.int j), u3, u4] = some (av W) := hk
  have y2 : xOp dIx (xOp dIx (ab 0) (ab 1)) (xC (.int 0)) [.sh L, .sh (.int k), .sh (.int j), u3, u4] = some (aF w) := by
   show ((xOp dIx (ab 0) (ab 1) [.sh L, .sh (.int k), .sh (.int j), u3, u4]).bind fun x => dIx x (.int 0)) = _
   rw [y]
   exact cQ (j := 0) (by rw [L3, h2]; rfl)
  unfold xSl
  rw [y2]
  rfl
 unfold jK
 rw [aH (ρ' := [.sh L, .sh (.int k), .sh (.int j), u3, u4]) (by
  rw [cv]
  ·rfl
  ·have z : xOp (D3) (xSl (xOp dIx (xOp dIx (ab 0) (ab 2)) (xC (.int 0))) aU (bP (xC (.int 3)))) (xSl (xOp dIx (xOp dIx (ab 0) (ab 1)) (xC (.int 0))) aU (bP (xC (.int 3)))) [.sh L, .sh (.int k), .sh (.int j), u3, u4] = some (.bl true) := by
    show ((xSl (xOp dIx (xOp dIx (ab 0) (ab 2)) (xC (.int 0))) aU (bP (xC (.int 3))) [.sh L, .sh (.int k), .sh (.int j), u3, u4]).bind fun x => (xSl (xOp dIx (xOp dIx (ab 0) (ab 1)) (xC (.int 0))) aU (bP (xC (.int 3))) [.sh L, .sh (.int k), .sh (.int j), u3, u4]).bind fun y => D3 x y) = _
    rw [a1, a2]
    exact FM hx
   unfold gT xB
   rw [z]
   rfl)]
 have z : xIt (xOp dIx (ab 0) (ab 2)) [.sh L, .sh (.int k), .sh (.int j), u3, u4] = some (V.map aF) := by
  have z0 : xOp dIx (ab 0) (ab 2) [.sh L, .sh (.int k), .sh (.int j), u3, u4] = some (av V) := hj
  unfold xIt
  rw [z0]
  rfl
 unfold eQ
 rw [z]
 exact k1
theorem rL (p : Pic) (Hs : List Wk) (o : HOk p Hs) : e7 [.lst (Hs.map av)] = some (.bl true) := by
 have hlen := o.len
 have at' : ∀ k (hk : k < Hs.length), dIx (.lst (Hs.map av)) (.int (k : Int)) = some (av Hs[k]) := fun k hk => cQ (by rw [L3, Mf hk]; rfl)
 have hr := wS Hs.length (by lia)
 obtain ⟨ρ', k1, u1, u2, u3, u4, rfl⟩ := bL (g := af 1) (m := nc) (fun i : Nat => D.int (i : Int)) (fun _ ρ => ∃ u1 u2 u3 u4, ρ = [.sh (.lst (Hs.map av)), u1, u2, u3, u4]) (List.range Hs.length) [.sh (.lst (Hs.map av)), .un, .un, .un, .un] ⟨_, _, _, _, rfl⟩ (by
  rintro pre k post _ e ⟨u1, u2, u3, u4, rfl⟩
  have hk : k < Hs.length := MA.mp (by rw [e]; simp)
  have hr2 := wS k (by lia)
  obtain ⟨ρ2, k2, w2, w3, w4, rfl⟩ := bL (g := af 2) (m := jK) (fun i : Nat => D.int (i : Int)) (fun _ ρ => ∃ w2 w3 w4, ρ = [.sh (.lst (Hs.map av)), .sh (.int (k : Int)), w2, w3, w4]) (List.range k) [.sh (.lst (Hs.map av)), .sh (.int (k : Int)), u2, u3, u4] ⟨_, _, _, rfl⟩ (by
   rintro pre j post _ e ⟨w2, w3, w4, rfl⟩
   have hj : j < k := MA.mp (by rw [e]; simp)
   obtain ⟨⟨v, w, h1, h2, hx⟩, h3⟩ := MP.mp o.apart j k (by lia) hk hj
   obtain ⟨x3, x4, hu⟩ := zQ (.lst (Hs.map av)) k j Hs[j] Hs[k] h3 (at' k hk) (at' j (by lia)) h1 h2 hx w3 w4
   exact ⟨[.sh (.lst (Hs.map av)), .sh (.int (k : Int)), .sh (.int (j : Int)), w3, w4], _, rfl, .inl hu, _, _, _, rfl⟩)
  refine ⟨[.sh (.lst (Hs.map av)), .sh (.int (k : Int)), u2, u3, u4], [.sh (.lst (Hs.map av)), .sh (.int (k : Int)), w2, w3, w4], rfl, .inl ?_, _, _, _, _, rfl⟩
  ·have z : lf (ac (ab 1) aq) [.sh (.lst (Hs.map av)), .sh (.int (k : Int)), u2, u3, u4] = some ((List.range k).map fun i : Nat => D.int (i : Int)) := hr2
   unfold nc eQ
   rw [z]
   exact k2)
 have hX : nL [.sh (.lst (Hs.map av)), .un, .un, .un, .un] = some (.rt (.bl true)) := by
  unfold nL
  rw [aH (by
   have z0 : ac (xCB ik (ac (ab 0) aq)) aq [.sh (.lst (Hs.map av)), .un, .un, .un, .un] = some [.int (Hs.length : Int)] := by simp
   unfold eQ lf
   rw [z0]
   show ((rT [.int (Hs.length : Int)]).bind _) = _
   rw [hr]
   exact k1)]
  rfl
 unfold e7 oU fnO
 have hh : ([D.lst (Hs.map av)].map Sl.sh ++ List.replicate (5 - [D.lst (Hs.map av)].length) .un) = [.sh (.lst (Hs.map av)), .un, .un, .un, .un] := rfl
 rw [hh, hX]
 simp
theorem yM (s0 s1 o2 v5 : Sl) : ∀ (Ws : List Wk) (ts : List Tri), (∀ W ∈ Ws, W.length <= 160 /\ de [av W] = some (.bl true)) -> ts.length + (Ws.flatMap fun W => W.map (·.1)).length <= 100000 ->
  nT 2 4 3 jJ jQ (Ws.map aK) [s0, s1, o2, .sh (.lst (ts.map aj)), .un, v5] = some (.nx [s0, s1, o2, .sh (.lst ((ts ++ Ws.flatMap fun W => W.map (·.1)).map aj)), .un, v5])
 | [], ts, _, _ => by
  show some (Out.nx _) = _
  rw [List.flatMap_nil, Mv]
 | W :: Ws, ts, h, hl => by
  obtain ⟨hW, hw⟩ := h W LV
  rw [List.flatMap_cons, LZ, LR] at hl
  have hl1 : W.length <= LIM := cb (by lia)
  have hl2 : ts.length + W.length <= LIM := cb (by lia)
  have e1 : jJ [s0, s1, .un, .sh (.lst (ts.map aj)), .ow (aK W), v5] = some false := by
   have z : nE de (ac (ab 4) aq) [s0, s1, .un, .sh (.lst (ts.map aj)), .ow (aK W), v5] = some (.bl true) := by
    simp [hw, n5]
   unfold jJ gT dQ
   rw [z]
   rfl
  have e2 : jQ [s0, s1, .un, .sh (.lst (ts.map aj)), .ow (aK W), v5] = some (.lst ((ts ++ W.map (·.1)).map aj)) := by
   have z : b7 [none] (xIt (ab 4)) (af 0) eD (xSl (ab 0) aU (bP (xC (.int 3)))) [s0, s1, .un, .sh (.lst (ts.map aj)), .ow (aK W), v5] = some ((W.map (·.1)).map aj) := by
    have z1 : xIt (ab 4) [s0, s1, .un, .sh (.lst (ts.map aj)), .ow (aK W), v5] = some (W.map aF) := by simp [sG]
    unfold b7
    rw [z1]
    show (if (W.map aF).length <= LIM then _ else _) = _
    rw [LR, LO hl1]
    exact Gp W
   unfold jQ xOp xL
   rw [z]
   show cY (.lst (ts.map aj)) (.lst ((W.map (·.1)).map aj)) = _
   show (if (ts.map aj).length + ((W.map (·.1)).map aj).length <= LIM then _ else _) = _
   rw [LR, LR, LR, LO hl2, MG]
  have ih := yM s0 s1 o2 v5 Ws (ts ++ W.map (·.1)) (fun V hV => h V (LY _ hV)) (by rw [LZ, LR]; lia)
  rw [L1]
  unfold nT
  show ((jJ [s0, s1, .un, .sh (.lst (ts.map aj)), .ow (aK W), v5]).bind _) = _
  rw [e1]
  show ((jQ [s0, s1, .un, .sh (.lst (ts.map aj)), .ow (aK W), v5]).bind _) = _
  rw [e2]
  show nT 2 4 3 jJ jQ (Ws.map aK) [s0, s1, o2, .sh (.lst ((ts ++ W.map (·.1)).map aj)), .un, v5] = _
  rw [ih, List.flatMap_cons, Mj]
theorem xT : ∀ Ws : List Wk, qD (xL (s9 jm (ac (ab 0) aq))) (Ws.map aK) = some (Ws.map av)
 | [] => rfl
 | W :: Ws => by
  have z : xL (s9 jm (ac (ab 0) aq)) [.ow (aK W)] = some (av W) := by simp [jm]
  rw [L1]
  unfold qD
  rw [z, xT Ws]
  rfl
theorem Db : ∀ Ws : List Wk, O.ds (Ws.map aK) = Ws.map av
 | [] => by simp
 | W :: Ws => by
  rw [L1, CD, Db Ws, L1]
  congr 1
  simp
theorem BC {p : Pic} (Ws : List Wk) (h : ∀ W ∈ Ws, W.length <= 160 /\ ∃ s, WOk p s W) : okD 50 (.lst (Ws.map av)) = true := by
 rw [okD]
 refine kP Ws fun W hW => ?_
 obtain ⟨_, s, o⟩ := h W hW
 rw [okD]
 refine kP W fun w hw => ?_
 obtain ⟨k, hk⟩ := ME hw
 rcases o.pl k w hk with ⟨_, e⟩ | ⟨j, _, _, _, e, _⟩ <;> simp [okD, okDs, e]
theorem ES (ns : List Int) (h : ns.length <= 63) : F9 [.scr (ns.map D.int)] = some (.bl true) := by
 obtain ⟨p, h1, c, h2, h3⟩ := pH ns h
 obtain ⟨Ws, h6, o⟩ := Cd p c (by lia) h3
 have cg := sD c
 have hgn : (ao (bC p)).length <= 160 := by
  rw [mP]
  have := gD p
  lia
 have hg := uw p (by lia)
 obtain ⟨L, h4, hL2, hL3⟩ := oQ p c (by lia) (by lia)
 have wlen := o.len
 have wok : ∀ W ∈ Ws, W.length <= 160 /\ ∃ s, WOk (bC p) s W := fun W hW => by
  obtain ⟨a, s, b, _⟩ := o.wok W hW
  exact ⟨a, s, b⟩
 have wok2 : ∀ W ∈ Ws, W.length <= 160 /\ de [av W] = some (.bl true) := fun W hW => by
  obtain ⟨a, s, b, d⟩ := o.wok W hW
  exact ⟨a, qV (bC p) s W b d (by lia)⟩
 have hap := rL p Ws o
 obtain ⟨ms, hms⟩ : ∃ ms, ms = Ws.flatMap fun W => W.map (·.1) := ⟨_, rfl⟩
 have mnd : ms.Nodup := by rw [hms]; exact o.nd
 have mmem : ∀ t, t ∈ ms ↔ t ∈ L := fun t => by rw [hms, o.mem t, hL3 t]
 have mlen : ms.length <= 160 := by
  have := pR mnd (m := ao (bC p)) fun t ht => hL2.subset ((mmem t).mp ht)
  lia
 have hsort := E8 cg mnd mmem (List.Pairwise.sublist hL2 (oS cg)) (fun t ht => hL2.subset ht)
 have hb := wc ms (by lia)
 rw [hsort] at hb
 have hF := yM (.sh (.scr (ns.map D.int))) (.sh (aB p)) (.ow (.lst (Ws.map aK))) .un Ws [] wok2 (by rw [<- hms]; simp; lia)
 rw [<- hms, List.nil_append] at hF
 have hcp := xT Ws
 have hwl : Ws.length <= LIM := cb (by lia)
 have hall : (Ws.map aK).all C0 = true := by
  rw [List.all_eq_true]
  intro x hx
  obtain ⟨W, hW, rfl⟩ := L7.mp hx
  have := (wok W hW).1
  show decide (((W.map aF).map O.sh).length < LIM) = true
  rw [LR, LR]
  exact L6 (gE (by lia))
 have hmp : iE [aB p] = some (.lst (Ws.map av)) := by
  unfold iE
  rw [h6]
  show some (O.d (.lst (Ws.map aK))) = _
  rw [O.d, Db]
 have q1 : dEq true (.lst (L.map aj)) (.lst (L.map aj)) = some (.bl false) := sv true (E4 _)
 have q2 : dEq false (.lst (Ws.map av)) (.lst (Ws.map av)) = some (.bl true) := sv false (BC Ws wok)
 have hX : Bh [.sh (.scr (ns.map D.int)), .un, .un, .un, .un, .un] = some (.rt (.bl true)) := by
  unfold Bh
  rw [aH (ρ' := [.sh (.scr (ns.map D.int)), .sh (aB p), .un, .un, .un, .un]) (by simp [h1])]
  rw [aH (ρ' := [.sh (.scr (ns.map D.int)), .sh (aB p), .ow (.lst (Ws.map aK)), .un, .un, .un]) (by simp [h6])]
  rw [aH (ρ' := [.sh (.scr (ns.map D.int)), .sh (aB p), .ow (.lst (Ws.map aK)), .un, .un, .un]) (by
   rw [cv]
   ·rfl
   ·have z : xCB ox (ac (sK 2) (ac (xC (.ty "list")) aq)) [.sh (.scr (ns.map D.int)), .sh (aB p), .ow (.lst (Ws.map aK)), .un, .un, .un] = some (.bl true) := by simp
    unfold gT dQ
    rw [z]
    rfl)]
  rw [aH (ρ' := [.sh (.scr (ns.map D.int)), .sh (aB p), .ow (.lst (Ws.map aK)), .sh (.lst []), .un, .un]) (by simp)]
  rw [aH (ρ' := [.sh (.scr (ns.map D.int)), .sh (aB p), .ow (.lst (Ws.map aK)), .sh (.lst (ms.map aj)), .un, .un]) (by
   show (if (2 : Nat) ≠ 4 /\ (2 : Nat) ≠ 3 /\ (4 : Nat) ≠ 3 /\ 4 < 6 then nT 2 4 3 jJ jQ (Ws.map aK) [.sh (.scr (ns.map D.int)), .sh (aB p), .ow (.lst (Ws.map aK)), .sh (.lst []), .un, .un] else none) = _
   rw [LO (by decide)]
   exact hF)]
  rw [aH (ρ' := [.sh (.scr (ns.map D.int)), .sh (aB p), .ow (.lst (Ws.map aK)), .sh (.lst (ms.map aj)), .un, .un]) (by
   rw [cv]
   ·rfl
   ·have z1 : xB (xOp (dEq true) (xL (s9 oz (ac (ab 3) aq))) (bd dG (ac (aC 1) (ac (bd iI (ac (aC 1) aq)) aq)))) [.sh (.scr (ns.map D.int)), .sh (aB p), .ow (.lst (Ws.map aK)), .sh (.lst (ms.map aj)), .un, .un] = some false := by simp [hb, hg, h4, q1]
    have z2 : nE e7 (ac (sK 2) aq) [.sh (.scr (ns.map D.int)), .sh (aB p), .ow (.lst (Ws.map aK)), .sh (.lst (ms.map aj)), .un, .un] = some (.bl true) := by
     have y : ac (sK 2) aq [.sh (.scr (ns.map D.int)), .sh (aB p), .ow (.lst (Ws.map aK)), .sh (.lst (ms.map aj)), .un, .un] = some [.lst (Ws.map av)] := by
      show some [O.d (.lst (Ws.map aK))] = _
      rw [O.d, Db]
     unfold nE
     rw [y]
     show ((e7 [.lst (Ws.map av)]).bind _) = _
     rw [hap]
     rfl
    rw [lF z1]
    unfold gT dQ
    rw [z2]
    rfl)]
  rw [aH (ρ' := [.sh (.scr (ns.map D.int)), .sh (aB p), .ow (.lst (Ws.map aK)), .sh (.lst (ms.map aj)), .un, .sh (.lst (Ws.map av))]) (by
   have z : mh 2 (xL (s9 jm (ac (ab 0) aq))) [.sh (.scr (ns.map D.int)), .sh (aB p), .ow (.lst (Ws.map aK)), .sh (.lst (ms.map aj)), .un, .un] = some (Ws.map av) := by
    show (if (Ws.map aK).length <= LIM then qD _ (Ws.map aK) else none) = _
    rw [LR, LO hwl]
    exact hcp
   unfold cP
   show ((xL (mh 2 (xL (s9 jm (ac (ab 0) aq)))) [.sh (.scr (ns.map D.int)), .sh (aB p), .ow (.lst (Ws.map aK)), .sh (.lst (ms.map aj)), .un, .un]).bind _) = _
   have z2 : xL (mh 2 (xL (s9 jm (ac (ab 0) aq)))) [.sh (.scr (ns.map D.int)), .sh (aB p), .ow (.lst (Ws.map aK)), .sh (.lst (ms.map aj)), .un, .un] = some (.lst (Ws.map av)) := by
    show ((mh 2 (xL (s9 jm (ac (ab 0) aq))) [.sh (.scr (ns.map D.int)), .sh (aB p), .ow (.lst (Ws.map aK)), .sh (.lst (ms.map aj)), .un, .un]).map D.lst) = _
    rw [z]
    rfl
   rw [z2]
   rfl)]
  rw [aH (ρ' := [.sh (.scr (ns.map D.int)), .sh (aB p), .un, .sh (.lst (ms.map aj)), .un, .sh (.lst (Ws.map av))]) (by
   show (if (2 : Nat) ≠ 4 /\ 4 < 6 /\ (Ws.map aK).all C0 = true /\ (Ws.map aK).length < LIM then _ else none) = _
   rw [LO ⟨by decide, by decide, hall, by rw [LR]; exact gE (by lia)⟩]
   rfl)]
  simp [hmp, q2]
 unfold F9 zB fnO
 have hh : ([D.scr (ns.map D.int)].map Sl.sh ++ List.replicate (6 - [D.scr (ns.map D.int)].length) .un) = [.sh (.scr (ns.map D.int)), .un, .un, .un, .un, .un] := rfl
 rw [hh, hX]
 simp
end P
namespace Lw
open PySem L2 M P
noncomputable def top (i : Nat) : Stmt := PySem.Challenge.pw_shapethin_k46_holes_walked.main.body.getD i (.Pass ⟨0, 0, 0, 0⟩)
noncomputable abbrev dh : Stmt := top 1
noncomputable abbrev eE : Stmt := top 2
noncomputable abbrev cq : Stmt := top 4
noncomputable abbrev jk : Stmt := top 5
noncomputable abbrev bE : Stmt := top 6
noncomputable abbrev cD : Stmt := top 8
noncomputable abbrev eA : Stmt := top 11
noncomputable abbrev eK : Stmt := top 12
noncomputable abbrev c0 : Stmt := top 13
noncomputable abbrev bD : Stmt := top 15
noncomputable abbrev gI : Stmt := top 16
noncomputable abbrev jM : Stmt := top 17
noncomputable abbrev fS : Stmt := top 19
noncomputable abbrev gJ : Stmt := top 20
noncomputable abbrev pT : Stmt := top 21
noncomputable abbrev fX : Stmt := top 22
noncomputable abbrev lE : Stmt := top 23
noncomputable abbrev lu : Stmt := top 24
noncomputable abbrev ji : Stmt := top 25
noncomputable abbrev cM : Stmt := top 26
noncomputable abbrev fK : Stmt := top 27
noncomputable abbrev jj : Stmt := top 28
noncomputable abbrev kw : Stmt := top 29
structure Txt (K : W.Frag) (mg : Str -> Option Value) : Prop where
 any : mg "any" = none
 isinstance : mg "isinstance" = none
 len : mg "len" = none
 list : mg "list" = none
 max : mg "max" = none
 min : mg "min" = none
 range : mg "range" = none
 sorted : mg "sorted" = none
 tuple : mg "tuple" = none
 BY_FOUR : ∃ t : Tok, mg "BY_FOUR" = some (.int (0) t)
section
variable {P : Program} {w : World} {K : W.Frag} {mg : Str -> Option Value} {base : Heap}
theorem kN : FnScope ["pairs", "number", "low", "high", "middle"] ["pairs", "number"] (am dh) := ⟨rfl, rfl, rfl, by decide +kernel, rfl, by decide +kernel, by decide +kernel⟩
theorem qB : FnScope ["row"] ["row"] (am eE) := ⟨rfl, rfl, rfl, by decide +kernel, rfl, by decide +kernel, by decide +kernel⟩
theorem ke : FnScope ["picture", "stretches", "y", "row"] ["picture"] (am cq) := ⟨rfl, rfl, rfl, by decide +kernel, rfl, by decide +kernel, by decide +kernel⟩
theorem gR : FnScope ["rows"] ["rows"] (am bE) := ⟨rfl, rfl, rfl, by decide +kernel, rfl, by decide +kernel, by decide +kernel⟩
theorem qM : FnScope ["_law_script", "_law_k"] ["_law_script", "_law_k"] (am fS) := ⟨rfl, rfl, rfl, by decide +kernel, rfl, by decide +kernel, by decide +kernel⟩
theorem sf : FnScope ["_law_cell", "_law_most"] ["_law_cell", "_law_most"] (am gJ) := ⟨rfl, rfl, rfl, by decide +kernel, rfl, by decide +kernel, by decide +kernel⟩
theorem Bw : FnScope ["_law_bits", "_law_x", "_law_wide", "_law_row_here", "_law_k", "_law_size"] ["_law_bits", "_law_x", "_law_wide"] (am pT) := ⟨rfl, rfl, rfl, by decide +kernel, rfl, by decide +kernel, by decide +kernel⟩
theorem yd : FnScope ["_law_picture_here", "_law_gaps_here", "_law_y", "_law_row_here", "_law_k"] ["_law_picture_here"] (am lE) := ⟨rfl, rfl, rfl, by decide +kernel, rfl, by decide +kernel, by decide +kernel⟩
theorem xc : FnScope ["_law_picture_here", "_law_gap", "_law_shut", "_law_y", "_law_row_here"] ["_law_picture_here", "_law_gap"] (am lu) := ⟨rfl, rfl, rfl, by decide +kernel, rfl, by decide +kernel, by decide +kernel⟩
theorem vq : FnScope ["_law_one", "_law_other"] ["_law_one", "_law_other"] (am ji) := ⟨rfl, rfl, rfl, by decide +kernel, rfl, by decide +kernel, by decide +kernel⟩
theorem uZ : FnScope ["picture", "y", "begun"] ["picture", "y"] (am jk) := ⟨rfl, rfl, rfl, by decide +kernel, rfl, by decide +kernel, by decide +kernel⟩
theorem jp : FnScope ["pairs", "first", "last"] ["pairs", "first", "last"] (am cD) := ⟨rfl, rfl, rfl, by decide +kernel, rfl, by decide +kernel, by decide +kernel⟩
theorem gY : FnScope ["picture"] ["picture"] (am bD) := ⟨rfl, rfl, rfl, by decide +kernel, rfl, by decide +kernel, by decide +kernel⟩
theorem pY : FnScope ["_law_script", "_law_first", "_law_x", "_law_y", "_law_rows", "_law_k", "_law_bits", "_law_j", "_law_row_here"] ["_law_script"] (am fX) := ⟨rfl, rfl, rfl, by decide +kernel, rfl, by decide +kernel, by decide +kernel⟩
theorem p6 : FnScope ["_law_picture_here", "_law_gaps_here", "_law_opened", "_law_left", "_law_at", "_law_more"] ["_law_picture_here", "_law_gaps_here"] (am cM) := ⟨rfl, rfl, rfl, by decide +kernel, rfl, by decide +kernel, by decide +kernel⟩
theorem tD : FnScope ["_law_hole", "_law_k", "_law_place", "_law_j", "_law_ahead"] ["_law_hole"] (am fK) := ⟨rfl, rfl, rfl, by decide +kernel, rfl, by decide +kernel, by decide +kernel⟩
theorem uK : FnScope ["_law_found", "_law_k", "_law_j", "_law_one", "_law_other"] ["_law_found"] (am jj) := ⟨rfl, rfl, rfl, by decide +kernel, rfl, by decide +kernel, by decide +kernel⟩
theorem pW : FnScope ["picture", "stretch", "reach", "first", "last", "found", "y"] ["picture", "stretch", "reach"] (am eA) := ⟨rfl, rfl, rfl, by decide +kernel, rfl, by decide +kernel, by decide +kernel⟩
theorem tm : FnScope ["picture", "y", "a", "b", "row"] ["picture", "y", "a", "b"] (am gI) := ⟨rfl, rfl, rfl, by decide +kernel, rfl, by decide +kernel, by decide +kernel⟩
theorem oy : FnScope ["picture", "first", "reach", "walk", "walked", "place", "stretch"] ["picture", "first", "reach"] (am eK) := ⟨rfl, rfl, rfl, by decide +kernel, rfl, by decide +kernel, by decide +kernel⟩
theorem l4 : FnScope ["picture", "reach", "classes", "walked", "stretch"] ["picture", "reach"] (am c0) := ⟨rfl, rfl, rfl, by decide +kernel, rfl, by decide +kernel, by decide +kernel⟩
theorem yt : FnScope ["picture", "classes"] ["picture"] (am jM) := ⟨rfl, rfl, rfl, by decide +kernel, rfl, by decide +kernel, by decide +kernel⟩
theorem Ej : FnScope ["_law_script", "_law_picture_here", "_law_found", "_law_members", "_law_hole", "_law_kept"] ["_law_script"] (am kw) := ⟨rfl, rfl, rfl, by decide +kernel, rfl, by decide +kernel, by decide +kernel⟩
theorem yc {f : Addr} {fd : FuncData} (F : Fun K "_law_cell_at" "_law_cell_at" fS f fd) (T : Txt K mg) : FnOk P w K mg base CX0 1 f fd ["_law_script", "_law_k"] (iL K) := by
 refine F.ok qM (fun vs H Q E h => h.1) (fun cdv A outer s H vs Q E hr h => ?_)
 have nd := (qM).nd
 exact ⟨_, ai (dm (aP nX (pv 1) (bo cf (by rfl) T.len fE (ad (pv 0) ak)) (aY _)) (ap (a7 (aG aA (pv 0) (pv 1) (fun _ _ => rfl)))) bK) (ap (a7 ag)), yW h⟩
theorem Eo {f : Addr} {fd : FuncData} (F : Fun K "_law_gaps" "_law_gaps" lE f fd) (T : Txt K mg) : FnOk P w K mg base CX0 1 f fd ["_law_picture_here"] (oO K) := by
 refine F.ok yd (fun vs H Q E h => h.1) (fun cdv A outer s H vs Q E hr h => ?_)
 have nd := (yd).nd
 exact ⟨_, ai (aS (i := 1) nd rfl (.inl rfl) (gN ak)) (ai (c6 PassesOwn.never rfl (bZ (pv 0)) (jt rfl (bn (aD (i := 2) nd rfl (.inl rfl)) (bn (aD (i := 3) nd rfl (.inl rfl)) gu))) (ap (c6 PassesOwn.never rfl (u5 (by rfl) T.range (ad ag (ad (bo cf (by rfl) T.len fE (ad (pv 3) ak)) ak))) (aD (i := 4) nd rfl (.inl rfl)) (ap (f8 (ol PySem.F.plainAttrs_list PySem.F.slot_list_append PySem.F.type_list_append fQ (pv 1) (ad (c7 (ad (pv 2) (ad (aN bx (aG aA (aG aA (pv 3) (aN di (pv 4) ag) (fun _ _ => rfl)) ag (fun _ _ => rfl)) ag) (ad (aN di (aG aA (aG aA (pv 3) (pv 4) (fun _ _ => rfl)) ag (fun _ _ => rfl)) ag) ak)))) ak))))))) (ap (a7 (pv 1)))), C4 h⟩
theorem DL {f : Addr} {fd : FuncData} (F : Fun K "_law_open" "_law_open" lu f fd) (T : Txt K mg) : FnOk P w K mg base CX0 1 f fd ["_law_picture_here", "_law_gap"] (oG K) := by
 refine F.ok xc (fun vs H Q E h => h.1) (fun cdv A outer s H vs Q E hr h => ?_)
 have nd := (xc).nd
 exact ⟨_, ai (aS (i := 2) nd rfl (.inl rfl) ag) (ai (c6 PassesOwn.never rfl (bZ (pv 0)) (jt rfl (bn (aD (i := 3) nd rfl (.inl rfl)) (bn (aD (i := 4) nd rfl (.inl rfl)) gu))) (ap (dm (PW.pt (kD (aP CI (pv 3) (c7 (ad (aN di (aG aA (pv 1) ag (fun _ _ => rfl)) ag) (ad (aN bx (aG aA (pv 1) ag (fun _ _ => rfl)) ag) ak))) rfl) (kD (aP yp (aG aA (aG aA (pv 4) ag (fun _ _ => rfl)) ag (fun _ _ => rfl)) (aG aA (pv 1) ag (fun _ _ => rfl)) (aY _)) (ln (aP yp (aG aA (pv 1) ag (fun _ _ => rfl)) (aG aA (aG aA (pv 4) (uN oT ag) (fun _ _ => rfl)) ag (fun _ _ => rfl)) (aY _)))))) (ap (aS (i := 2) nd rfl (.inl rfl) (aN bx (pv 2) ag))) bK))) (ap (a7 (lv nX (pv 2) ag (aY _))))), DD h⟩
theorem FK {f : Addr} {fd : FuncData} (F : Fun K "_law_row" "_law_row" pT f fd) (T : Txt K mg) : FnOk P w K mg base CX0 1 f fd ["_law_bits", "_law_x", "_law_wide"] (rC K) := by
 refine F.ok Bw (fun vs H Q E h => h.1) (fun cdv A outer s H vs Q E hr h => ?_)
 have nd := (Bw).nd
 exact ⟨_, ai (aS (i := 3) nd rfl (.inl rfl) (gN ak)) (ai (c6 PassesOwn.never rfl (gG (by rfl) T.range (ad ag ak)) (aD (i := 4) nd rfl (.inl rfl)) (ai (aS (i := 5) nd rfl (.inl rfl) ag) (ai (dm (dc (pv 2) (fun _ => rfl)) (ap (aS (i := 5) nd rfl (.inl rfl) (aG aA (gN (ad ag (ad ag (ad ag (ad (aN zW ag ag) (ad ag (ad ag (ad ag (ad ag ak))))))))) (pv 4) (fun _ _ => rfl)))) bK) (ai (dm (PW.pt (nZ (aP (iX hr.units) (aN jx (pv 0) ag) ag (aY _)) (sL (aP (iX hr.units) (aN jx (aN iG (pv 0) ag) ag) ag (aY _))))) (ap (dm (PW.pt (kD (aP u0 (bo cf (by rfl) T.len fE (ad (pv 3) ak)) ag (aY _)) (ln (aP (iX hr.units) (aG aA (aG aA (pv 3) (uN oT ag) (fun _ _ => rfl)) ag (fun _ _ => rfl)) (aN di (pv 1) ag) (aY _))))) (ap (GW (c7 (ad (aG aA (aG aA (pv 3) (uN oT ag) (fun _ _ => rfl)) ag (fun _ _ => rfl)) (ad (aN di (aN bx (pv 1) (pv 5)) ag) ak))) (He (pv 3) (uN oT ag) DT))) (ap (f8 (ol PySem.F.plainAttrs_list PySem.F.slot_list_append PySem.F.type_list_append fQ (pv 3) (ad (c7 (ad (pv 1) (ad (aN di (aN bx (pv 1) (pv 5)) ag) ak))) ak)))))) bK) (ai (aS (i := 0) nd rfl (.inl rfl) (aN iG (pv 0) ag)) (ap (aS (i := 1) nd rfl (.inl rfl) (aN bx (pv 1) (pv 5))))))))) (ap (a7 (jq f9 (by rfl) T.tuple ld (ad (pv 3) ak))))), Fi h⟩
theorem AL {f : Addr} {fd : FuncData} (F : Fun K "_law_signed" "_law_signed" gJ f fd) (T : Txt K mg) : FnOk P w K mg base CX0 1 f fd ["_law_cell", "_law_most"] (jI K) := by
 refine F.ok sf (fun vs H Q E h => h.1) (fun cdv A outer s H vs Q E hr h => ?_)
 have nd := (sf).nd
 exact ⟨_, ai (dm (aP nX (pv 0) ag (aY _)) (ap (a7 (aN di ag (aN jx (aN di ag (pv 0)) (pv 1))))) bK) (ap (a7 (aN jx (pv 0) (pv 1)))), zt h⟩
theorem BX {f : Addr} {fd : FuncData} (F : Fun K "_law_touch" "_law_touch" ji f fd) (T : Txt K mg) : FnOk P w K mg base CX0 1 f fd ["_law_one", "_law_other"] (gL K) := by
 refine F.ok vq (fun vs H Q E h => h.1) (fun cdv A outer s H vs Q E hr h => ?_)
 have nd := (vq).nd
 exact ⟨_, ai (dm (PW.pt (kD (aP (wq hr.units) (aG aA (pv 0) ag (fun _ _ => rfl)) (aN bx (aG aA (pv 1) ag (fun _ _ => rfl)) ag) (aY _)) (ln (aP (wq hr.units) (aG aA (pv 1) ag (fun _ _ => rfl)) (aN bx (aG aA (pv 0) ag (fun _ _ => rfl)) ag) (aY _))))) (ap (a7 fv)) bK) (ap (a7 (HD (lv yp (aG aA (pv 0) ag (fun _ _ => rfl)) (aG aA (pv 1) ag (fun _ _ => rfl)) (aY _)) (HL (lv yp (aG aA (pv 1) ag (fun _ _ => rfl)) (aG aA (pv 0) ag (fun _ _ => rfl)) (aY _)))))), CS h⟩
theorem tU {f : Addr} {fd : FuncData} (F : Fun K "count_up_to" "count_up_to" dh f fd) (T : Txt K mg) : FnOk P w K mg base CX0 1 f fd ["pairs", "number"] (dt K) := by
 refine F.ok kN (fun vs H Q E h => h.1) (fun cdv A outer s H vs Q E hr h => ?_)
 have nd := (kN).nd
 exact ⟨_, ai (aS (i := 2) nd rfl (.inl rfl) ag) (ai (aS (i := 3) nd rfl (.inl rfl) (bo cf (by rfl) T.len fE (ad (pv 0) ak))) (ai (sX PassesOwn.never (aP nX (pv 2) (pv 3) (aY _)) (ai (aS (i := 4) nd rfl (.inl rfl) (aN iG (aN bx (pv 2) (pv 3)) ag)) (ap (dm (aP yp (aG aA (aG aA (pv 0) (pv 4) (fun _ _ => rfl)) ag (fun _ _ => rfl)) (pv 1) (aY _)) (ap (aS (i := 2) nd rfl (.inl rfl) (aN bx (pv 4) ag))) (ap (aS (i := 3) nd rfl (.inl rfl) (pv 4))))))) (ap (a7 (pv 2))))), t5 h⟩
theorem xF {f : Addr} {fd : FuncData} (F : Fun K "row_gaps" "row_gaps" eE f fd) (T : Txt K mg) : FnOk P w K mg base CX0 1 f fd ["row"] (iU K) := by
 refine F.ok qB (fun vs H Q E h => h.1) (fun cdv A outer s H vs Q E hr h => ?_)
 have nd := (qB).nd
 exact ⟨_, ap (a7 (jq f9 (by rfl) T.tuple ld (ad (eh (show CmpOk ["row"] (am eE) _ ["k", "row"] [none, some 0] from gW) (gG (by rfl) T.range (ad (aN di (bo cf (by rfl) T.len fE (ad (pv 0) ak)) ag) ak)) (fun _ => aD (i := 0) (show List.Nodup (["k", "row"] : List Str) from by decide +kernel) rfl (.inl rfl)) bw (fun _ => iJ) (fun _ => c7 (ad (aN bx (aG aA (aG aA (pv 1) (pv 0) (fun _ _ => rfl)) ag (fun _ _ => rfl)) ag) (ad (aN di (aG aA (aG aA (pv 1) (aN bx (pv 0) ag) (fun _ _ => rfl)) ag (fun _ _ => rfl)) ag) ak)))) ak))), zm h⟩
theorem l9 {f : Addr} {fd : FuncData} (F : Fun K "rows_with_cells" "rows_with_cells" bE f fd) (T : Txt K mg) : FnOk P w K mg base CX0 1 f fd ["rows"] (c8 K) := by
 refine F.ok gR (fun vs H Q E h => h.1) (fun cdv A outer s H vs Q E hr h => ?_)
 have nd := (gR).nd
 exact ⟨_, ap (a7 (jq f9 (by rfl) T.tuple ld (ad (eh (show CmpOk ["rows"] (am bE) _ ["y", "row"] [none, none] from gW) (bZ (pv 0)) (fun _ => jt rfl (bn (aD (i := 0) (show List.Nodup (["y", "row"] : List Str) from by decide +kernel) rfl (.inl rfl)) (bn (aD (i := 1) (show List.Nodup (["y", "row"] : List Str) from by decide +kernel) rfl (.inl rfl)) gu))) (pP (b5 bw (b5 bw lB bp) bp)) (fun _ => jD (aP (wq hr.units) (pv 1) (c7 ak) (aY _))) (fun _ => c7 (ad (pv 0) (ad (pv 1) ak)))) ak))), mm h⟩
theorem qW {f : Addr} {fd : FuncData} (F : Fun K "stretches_of" "stretches_of" cq f fd) (T : Txt K mg) : FnOk P w K mg base CX0 1 f fd ["picture"] (ee K) := by
 refine F.ok ke (fun vs H Q E h => h.1) (fun cdv A outer s H vs Q E hr h => ?_)
 have nd := (ke).nd
 exact ⟨_, ai (aS (i := 1) nd rfl (.inl rfl) (gN ak)) (ai (c6 PassesOwn.never rfl (bZ (pv 0)) (jt rfl (bn (aD (i := 2) nd rfl (.inr rfl)) (bn (aD (i := 3) nd rfl (.inl rfl)) gu))) (ap (f8 (ol PySem.F.plainAttrs_list PySem.F.slot_list_extend PySem.F.type_list_extend A8 (pv 1) (ad (eh (show CmpOk ["picture", "stretches", "y", "row"] (am cq) _ ["a", "b", "y"] [none, none, some 2] from gW) (bZ (pv 3)) (fun _ => jt rfl (bn (aD (i := 0) (show List.Nodup (["a", "b", "y"] : List Str) from by decide +kernel) rfl (.inl rfl)) (bn (aD (i := 1) (show List.Nodup (["a", "b", "y"] : List Str) from by decide +kernel) rfl (.inl rfl)) gu))) (pP (b5 bw (b5 bw lB bp) bp)) (fun _ => iJ) (fun _ => c7 (ad (pv 2) (ad (pv 0) (ad (pv 1) ak))))) ak))))) (ap (a7 (pv 1)))), qS h⟩
theorem BU {f : Addr} {fd : FuncData} (F : Fun K "_law_apart" "_law_apart" jj f fd) (T : Txt K mg) {b8 : Addr} {eN : FuncData} (d8 : FnOk P w K mg base CX0 1 b8 eN ["_law_one", "_law_other"] (gL K)) (aV : mg "_law_touch" = some (.ref b8)) (cT : W.keepIn K (.ref b8) = true) (dU : Binds K eN ["_law_one", "_law_other"] []) : FnOk P w K mg base CX0 2 f fd ["_law_found"] (lM K) := by
 refine F.ok uK (fun vs H Q E h => h.1) (fun cdv A outer s H vs Q E hr h => ?_)
 have nd := (uK).nd
 exact ⟨_, ai (c6 PassesOwn.never rfl (gG (by rfl) T.range (ad (bo cf (by rfl) T.len fE (ad (pv 0) ak)) ak)) (aD (i := 1) nd rfl (.inl rfl)) (ap (c6 PassesOwn.never rfl (gG (by rfl) T.range (ad (pv 1) ak)) (aD (i := 2) nd rfl (.inl rfl)) (ai (dm (k7 (aP (F4 hr.units) (gg xb (aG aA (aG aA (pv 0) (pv 2) (fun _ _ => rfl)) ag (fun _ _ => rfl)) (jC) (gB ag)) (gg xb (aG aA (aG aA (pv 0) (pv 1) (fun _ _ => rfl)) ag (fun _ _ => rfl)) (jC) (gB ag)) (aY _))) (ap (a7 fv)) bK) (ap (c6 PassesOwn.never rfl (bZ (aG aA (pv 0) (pv 2) (fun _ _ => rfl))) (aD (i := 3) nd rfl (.inl rfl)) (ap (c6 PassesOwn.never rfl (bZ (aG aA (pv 0) (pv 1) (fun _ _ => rfl))) (aD (i := 4) nd rfl (.inl rfl)) (ap (dm (dc (a8 d8 (hr.mono (by decide)) (by rfl) aV cT dU .nil cm (ad (pv 3) (ad (pv 4) ak))) (fun _ => rfl)) (ap (a7 fv)) bK)))))))))) (ap (a7 fv)), CO h⟩
theorem yj {f : Addr} {fd : FuncData} (F : Fun K "_law_picture" "_law_picture" fX f fd) (T : Txt K mg) {dD : Addr} {qg : FuncData} (l6 : FnOk P w K mg base CX0 1 dD qg ["_law_script", "_law_k"] (iL K)) (cZ : mg "_law_cell_at" = some (.ref dD)) (fM : W.keepIn K (.ref dD) = true) (md : Binds K qg ["_law_script", "_law_k"] []) {eJ : Addr} {rR : FuncData} (ll : FnOk P w K mg base CX0 1 eJ rR ["_law_cell", "_law_most"] (jI K)) (df : mg "_law_signed" = some (.ref eJ)) (fJ : W.keepIn K (.ref eJ) = true) (lA : Binds K rR ["_law_cell", "_law_most"] []) {kY : Addr} {Bc : FuncData} (An : FnOk P w K mg base CX0 1 kY Bc ["_law_bits", "_law_x", "_law_wide"] (rC K)) (nu : mg "_law_row" = some (.ref kY)) (pi : W.keepIn K (.ref kY) = true) (zI : Binds K Bc ["_law_bits", "_law_x", "_law_wide"] []) : FnOk P w K mg base CX0 2 f fd ["_law_script"] (iV K) := by
 refine F.ok pY (fun vs H Q E h => h.1) (fun cdv A outer s H vs Q E hr h => ?_)
 have nd := (pY).nd
 exact ⟨_, ai (aS (i := 1) nd rfl (.inl rfl) (a8 l6 (hr.mono (by decide)) (by rfl) cZ fM md .nil cm (ad (pv 0) (ad ag ak)))) (ai (aS (i := 2) nd rfl (.inl rfl) (a8 ll (hr.mono (by decide)) (by rfl) df fJ lA .nil cm (ad (aN iG (pv 1) ag) (ad (aG aA (gN (ad ag (ad (aN zW ag ag) ak))) (aN jx (aN iG (pv 1) ag) ag) (fun _ _ => rfl)) ak)))) (ai (aS (i := 3) nd rfl (.inl rfl) (a8 ll (hr.mono (by decide)) (by rfl) df fJ lA .nil cm (ad (aN iG (pv 1) ag) (ad (aG aA (gN (ad ag (ad (aN zW ag ag) ak))) (aN jx (aN iG (pv 1) ag) ag) (fun _ _ => rfl)) ak)))) (ai (aS (i := 4) nd rfl (.inl rfl) (gN ak)) (ai (c6 PassesOwn.never rfl (gG (by rfl) T.range (ad (bo (vF rfl) (by rfl) T.min Af (ad ag (ad (aN di (bo cf (by rfl) T.len fE (ad (pv 0) ak)) ag) ak))) ak)) (aD (i := 5) nd rfl (.inl rfl)) (ai (aS (i := 6) nd rfl (.inl rfl) (aN iG (aN jx (aN EK (aG aA (pv 0) (aN bx ag (pv 5)) (fun _ _ => rfl)) ag) ag) ag)) (ai (c6 PassesOwn.never rfl (Ck (by rfl) T.range (ad (aN bx ag (pv 5)) (ad (bo (vF rfl) (by rfl) T.min Af (ad (bo cf (by rfl) T.len fE (ad (pv 0) ak)) (ad ag ak))) (ad ag ak)))) (aD (i := 7) nd rfl (.inl rfl)) (ap (aS (i := 6) nd rfl (.inl rfl) (aN bx (pv 6) (aN jx (aN EK ag (aG aA (pv 0) (pv 7) (fun _ _ => rfl))) ag))))) (ai (aS (i := 8) nd rfl (.inl rfl) (a8 An (hr.mono (by decide)) (by rfl) nu pi zI .nil cm (ad (pv 6) (ad (pv 2) (ad (lv (iX hr.units) (aN jx (pv 1) ag) ag (aY _)) ak))))) (ap (dm (aP u0 (bo cf (by rfl) T.len fE (ad (pv 8) ak)) ag (aY _)) (ap (f8 (ol PySem.F.plainAttrs_list PySem.F.slot_list_append PySem.F.type_list_append fQ (pv 4) (ad (c7 (ad (aN bx (pv 3) (pv 5)) (ad (pv 8) ak))) ak)))) bK)))))) (ap (a7 (jq f9 (by rfl) T.tuple ld (ad (pv 4) ak)))))))), za h⟩
theorem zn {f : Addr} {fd : FuncData} (F : Fun K "_law_shut_in" "_law_shut_in" cM f fd) (T : Txt K mg) {iB : Addr} {yI : FuncData} (wD : FnOk P w K mg base CX0 1 iB yI ["_law_picture_here", "_law_gap"] (oG K)) (iz : mg "_law_open" = some (.ref iB)) (lD : W.keepIn K (.ref iB) = true) (vP : Binds K yI ["_law_picture_here", "_law_gap"] []) {b8 : Addr} {eN : FuncData} (d8 : FnOk P w K mg base CX0 1 b8 eN ["_law_one", "_law_other"] (gL K)) (aV : mg "_law_touch" = some (.ref b8)) (cT : W.keepIn K (.ref b8) = true) (dU : Binds K eN ["_law_one", "_law_other"] []) : FnOk P w K mg base CX0 2 f fd ["_law_picture_here", "_law_gaps_here"] (iM K) := by
 refine F.ok p6 (fun vs H Q E h => h.1) (fun cdv A outer s H vs Q E hr h => ?_)
 have nd := (p6).nd
 exact ⟨_, ai (aS (i := 2) nd rfl (.inr rfl) (eh (show CmpOk ["_law_picture_here", "_law_gaps_here", "_law_opened", "_law_left", "_law_at", "_law_more"] (am cM) _ ["_law_gap", "_law_picture_here"] [none, some 0] from gW) (bZ (pv 1)) (fun _ => aD (i := 0) (show List.Nodup (["_law_gap", "_law_picture_here"] : List Str) from by decide +kernel) rfl (.inl rfl)) bw (fun _ => jD (dc (a8 wD (hr.mono (by decide)) (by rfl) iz lD vP .nil cm (ad (pv 1) (ad (pv 0) ak))) (fun _ => rfl))) (fun _ => pv 0))) (ai (wF (i := 3) (hN := nd) (hi0 := rfl) (hx := Or.inl rfl) (ck := (show CmpOk ["_law_picture_here", "_law_gaps_here", "_law_opened", "_law_left", "_law_at", "_law_more"] (am cM) _ ["_law_gap", "_law_opened"] [none, some 2] from gW)) (hi := bZ (pv 1)) (hg := fun _ => aD (i := 0) (show List.Nodup (["_law_gap", "_law_opened"] : List Str) from by decide +kernel) rfl (.inl rfl)) (hs := bw) (ht := fun _ => jD (aP (va hr.units) (pv 0) (pv 1) rfl)) (he := fun _ => pv 0)) (ai (aS (i := 4) nd rfl (.inr rfl) ag) (ai (sX PassesOwn.never (aP nX (pv 4) (bo cf (by rfl) T.len fE (ad (pv 2) ak)) (aY _)) (ai (aS (i := 5) nd rfl (.inr rfl) (eh (show CmpOk ["_law_picture_here", "_law_gaps_here", "_law_opened", "_law_left", "_law_at", "_law_more"] (am cM) _ ["_law_gap", "_law_opened", "_law_at"] [none, some 2, some 4] from gW) (bZ (pv 3)) (fun _ => aD (i := 0) (show List.Nodup (["_law_gap", "_law_opened", "_law_at"] : List Str) from by decide +kernel) rfl (.inl rfl)) bw (fun _ => jD (dc (a8 d8 (hr.mono (by decide)) (by rfl) aV cT dU .nil cm (ad (aG aA (pv 1) (pv 2) (fun _ _ => rfl)) (ad (pv 0) ak))) (fun _ => rfl))) (fun _ => pv 0))) (ai (wF (i := 3) (hN := nd) (hi0 := rfl) (hx := Or.inl rfl) (ck := (show CmpOk ["_law_picture_here", "_law_gaps_here", "_law_opened", "_law_left", "_law_at", "_law_more"] (am cM) _ ["_law_gap", "_law_more"] [none, some 5] from gW)) (hi := bZ (pv 3)) (hg := fun _ => aD (i := 0) (show List.Nodup (["_law_gap", "_law_more"] : List Str) from by decide +kernel) rfl (.inl rfl)) (hs := bw) (ht := fun _ => jD (aP (va hr.units) (pv 0) (pv 1) rfl)) (he := fun _ => pv 0)) (ai (aS (i := 2) nd rfl (.inr rfl) (aN bx (pv 2) (pv 5))) (ap (aS (i := 4) nd rfl (.inr rfl) (aN bx (pv 4) ag))))))) (ap (a7 (pv 3)))))), xh h⟩
theorem Aw {f : Addr} {fd : FuncData} (F : Fun K "_law_walked" "_law_walked" fK f fd) (T : Txt K mg) {b8 : Addr} {eN : FuncData} (d8 : FnOk P w K mg base CX0 1 b8 eN ["_law_one", "_law_other"] (gL K)) (aV : mg "_law_touch" = some (.ref b8)) (cT : W.keepIn K (.ref b8) = true) (dU : Binds K eN ["_law_one", "_law_other"] []) : FnOk P w K mg base CX0 2 f fd ["_law_hole"] (jU K) := by
 refine F.ok tD (fun vs H Q E h => h.1) (fun cdv A outer s H vs Q E hr h => ?_)
 have nd := (tD).nd
 exact ⟨_, ai (dm (PW.pt (nZ (k7 (dc (bo pS (by rfl) T.isinstance i6 (ad (pv 0) (ad (wK (v := .ty "list") (by rfl) T.list wm rfl) ak))) (fun _ => rfl))) (nZ (aP (iX hr.units) (bo cf (by rfl) T.len fE (ad (pv 0) ak)) ag (aY _)) (sL (aP FH (aG aA (aG aA (pv 0) ag (fun _ _ => rfl)) ag (fun _ _ => rfl)) (z9) (aY _)))))) (ap (a7 fv)) bK) (ai (c6 PassesOwn.never rfl (u5 (by rfl) T.range (ad ag (ad (bo cf (by rfl) T.len fE (ad (pv 0) ak)) ak))) (aD (i := 1) nd rfl (.inl rfl)) (ai (aS (i := 2) nd rfl (.inl rfl) (aG aA (aG aA (pv 0) (pv 1) (fun _ _ => rfl)) ag (fun _ _ => rfl))) (ai (dm (PW.pt (nZ (k7 (dc (bo pS (by rfl) T.isinstance i6 (ad (aG aA (pv 0) (pv 1) (fun _ _ => rfl)) (ad (wK (v := .ty "tuple") (by rfl) T.tuple ld rfl) ak))) (fun _ => rfl))) (nZ (aP HP (pv 2) (z9) (aY _)) (nZ (aP nX (pv 2) ag (aY _)) (sL (aP Gs (pv 2) (pv 1) (aY _))))))) (ap (a7 fv)) bK) (ai (dm (k7 (dc (a8 d8 (hr.mono (by decide)) (by rfl) aV cT dU .nil cm (ad (aG aA (pv 0) (pv 1) (fun _ _ => rfl)) (ad (aG aA (pv 0) (pv 2) (fun _ _ => rfl)) ak))) (fun _ => rfl))) (ap (a7 fv)) bK) (ai (c6 PassesOwn.never rfl (gG (by rfl) T.range (ad (pv 2) ak)) (aD (i := 3) nd rfl (.inl rfl)) (ap (dm (dc (a8 d8 (hr.mono (by decide)) (by rfl) aV cT dU .nil cm (ad (aG aA (pv 0) (pv 1) (fun _ _ => rfl)) (ad (aG aA (pv 0) (pv 3) (fun _ _ => rfl)) ak))) (fun _ => rfl)) (ap (a7 fv)) bK))) (ai (aS (i := 4) nd rfl (.inl rfl) (aG aA (pv 0) (aN di (pv 1) ag) (fun _ _ => rfl))) (ai (dm (PW.pt (kD (aP u0 (pv 1) ag (aY _)) (ln (aP nX (pv 2) (aG aA (pv 4) ag (fun _ _ => rfl)) (aY _))))) (ap (a7 fv)) bK) (ap (dm (PW.pt (kD (aP u0 (pv 1) ag (aY _)) (kD (aP (iX hr.units) (pv 2) (aG aA (pv 4) ag (fun _ _ => rfl)) (aY _)) (ln (aP (Hv hr.units) (gg xb (aG aA (pv 0) (pv 1) (fun _ _ => rfl)) (jC) (gB ag)) (gg xb (pv 4) (jC) (gB ag)) (aY _)))))) (ap (a7 fv)) bK))))))))) (ap (a7 (lv (iX hr.units) (gg xb (aG aA (pv 0) ag (fun _ _ => rfl)) (jC) (gB ag)) (bo (BW rfl hr.units) (by rfl) T.min Af (ad (eh (show CmpOk ["_law_hole", "_law_k", "_law_place", "_law_j", "_law_ahead"] (am fK) _ ["_law_gap"] [none] from gW) (bZ (pv 0)) (fun _ => aD (i := 0) (show List.Nodup (["_law_gap"] : List Str) from by decide +kernel) rfl (.inl rfl)) bw (fun _ => iJ) (fun _ => gg xb (pv 0) (jC) (gB ag))) ak)) (aY _))))), zH h⟩
theorem pJ {f : Addr} {fd : FuncData} (F : Fun K "begun_between" "begun_between" cD f fd) (T : Txt K mg) {bh : Addr} {dJ : FuncData} (cL : FnOk P w K mg base CX0 1 bh dJ ["pairs", "number"] (dt K)) (ba : mg "count_up_to" = some (.ref bh)) (bA : W.keepIn K (.ref bh) = true) (cN : Binds K dJ ["pairs", "number"] []) : FnOk P w K mg base CX0 2 f fd ["pairs", "first", "last"] (dN K) := by
 refine F.ok jp (fun vs H Q E h => h.1) (fun cdv A outer s H vs Q E hr h => ?_)
 have nd := (jp).nd
 exact ⟨_, ap (a7 (gg xb (pv 0) (gB (bo (BG rfl) (by rfl) T.max GZ (ad ag (ad (aN di (a8 cL (hr.mono (by decide)) (by rfl) ba bA cN .nil cm (ad (pv 0) (ad (pv 1) ak))) ag) ak)))) (gB (a8 cL (hr.mono (by decide)) (by rfl) ba bA cN .nil cm (ad (pv 0) (ad (pv 2) ak)))))), o4 h⟩
theorem mn {f : Addr} {fd : FuncData} (F : Fun K "picture_of_gaps" "picture_of_gaps" bD f fd) (T : Txt K mg) {br : Addr} {g7 : FuncData} (e8 : FnOk P w K mg base CX0 1 br g7 ["rows"] (c8 K)) (bF : mg "rows_with_cells" = some (.ref br)) (bV : W.keepIn K (.ref br) = true) (e9 : Binds K g7 ["rows"] []) {dw : Addr} {p7 : FuncData} (me : FnOk P w K mg base CX0 1 dw p7 ["row"] (iU K)) (du : mg "row_gaps" = some (.ref dw)) (fV : W.keepIn K (.ref dw) = true) (mM : Binds K p7 ["row"] []) : FnOk P w K mg base CX0 2 f fd ["picture"] (c5 K) := by
 refine F.ok gY (fun vs H Q E h => h.1) (fun cdv A outer s H vs Q E hr h => ?_)
 have nd := (gY).nd
 exact ⟨_, ap (a7 (a8 e8 (hr.mono (by decide)) (by rfl) bF bV e9 .nil cm (ad (eh (show CmpOk ["picture"] (am bD) _ ["y", "row"] [none, none] from gW) (bZ (pv 0)) (fun _ => jt rfl (bn (aD (i := 0) (show List.Nodup (["y", "row"] : List Str) from by decide +kernel) rfl (.inl rfl)) (bn (aD (i := 1) (show List.Nodup (["y", "row"] : List Str) from by decide +kernel) rfl (.inl rfl)) gu))) (pP (b5 bw (b5 bw lB bp) bp)) (fun _ => iJ) (fun _ => c7 (ad (pv 0) (ad (a8 me (hr.mono (by decide)) (by rfl) du fV mM .nil cm (ad (pv 1) ak)) ak)))) ak))), mG h⟩
theorem B0 {f : Addr} {fd : FuncData} (F : Fun K "row_at" "row_at" jk f fd) (T : Txt K mg) {bh : Addr} {dJ : FuncData} (cL : FnOk P w K mg base CX0 1 bh dJ ["pairs", "number"] (dt K)) (ba : mg "count_up_to" = some (.ref bh)) (bA : W.keepIn K (.ref bh) = true) (cN : Binds K dJ ["pairs", "number"] []) : FnOk P w K mg base CX0 2 f fd ["picture", "y"] (jh K) := by
 refine F.ok uZ (fun vs H Q E h => h.1) (fun cdv A outer s H vs Q E hr h => ?_)
 have nd := (uZ).nd
 exact ⟨_, ai (aS (i := 2) nd rfl (.inl rfl) (a8 cL (hr.mono (by decide)) (by rfl) ba bA cN .nil cm (ad (pv 0) (ad (pv 1) ak)))) (ai (dm (PW.pt (kD (aP u0 (pv 2) ag (aY _)) (ln (aP (iX hr.units) (aG aA (aG aA (pv 0) (aN di (pv 2) ag) (fun _ _ => rfl)) ag (fun _ _ => rfl)) (pv 1) (aY _))))) (ap (a7 (aG aA (aG aA (pv 0) (aN di (pv 2) ag) (fun _ _ => rfl)) ag (fun _ _ => rfl)))) bK) (ap (a7 (c7 ak)))), Ct h⟩
theorem Ab {f : Addr} {fd : FuncData} (F : Fun K "is_open" "is_open" gI f fd) (T : Txt K mg) {c9 : Addr} {jr : FuncData} (ij : FnOk P w K mg base CX0 2 c9 jr ["picture", "y"] (jh K)) (bG : mg "row_at" = some (.ref c9)) (d9 : W.keepIn K (.ref c9) = true) (gX : Binds K jr ["picture", "y"] []) : FnOk P w K mg base CX0 3 f fd ["picture", "y", "a", "b"] (jS K) := by
 refine F.ok tm (fun vs H Q E h => h.1) (fun cdv A outer s H vs Q E hr h => ?_)
 have nd := (tm).nd
 exact ⟨_, ai (c6 PassesOwn.never rfl (bZ (c7 (ad (a8 ij (hr.mono (by decide)) (by rfl) bG d9 gX .nil cm (ad (pv 0) (ad (aN di (pv 1) ag) ak))) (ad (a8 ij (hr.mono (by decide)) (by rfl) bG d9 gX .nil cm (ad (pv 0) (ad (aN bx (pv 1) ag) ak))) ak)))) (aD (i := 4) nd rfl (.inl rfl)) (ap (dm (PW.pt (nZ (aP (iX hr.units) (pv 4) (c7 ak) (aY _)) (nZ (aP nX (pv 2) (aG aA (aG aA (pv 4) ag (fun _ _ => rfl)) ag (fun _ _ => rfl)) (aY _)) (sL (aP u0 (pv 3) (aG aA (aG aA (pv 4) (uN oT ag) (fun _ _ => rfl)) ag (fun _ _ => rfl)) (aY _)))))) (ap (a7 fv)) bK))) (ap (a7 fv)), zA h⟩
theorem xk {f : Addr} {fd : FuncData} (F : Fun K "touching" "touching" eA f fd) (T : Txt K mg) {bH : Addr} {jb : FuncData} (gk : FnOk P w K mg base CX0 2 bH jb ["pairs", "first", "last"] (dN K)) (bX : mg "begun_between" = some (.ref bH)) (cE : W.keepIn K (.ref bH) = true) (gi : Binds K jb ["pairs", "first", "last"] []) {c9 : Addr} {jr : FuncData} (ij : FnOk P w K mg base CX0 2 c9 jr ["picture", "y"] (jh K)) (bG : mg "row_at" = some (.ref c9)) (d9 : W.keepIn K (.ref c9) = true) (gX : Binds K jr ["picture", "y"] []) : FnOk P w K mg base CX0 3 f fd ["picture", "stretch", "reach"] (iC K) := by
 refine F.ok pW (fun vs H Q E h => h.1) (fun cdv A outer s H vs Q E hr h => ?_)
 have nd := (pW).nd
 exact ⟨_, ai (aS (i := 3) nd rfl (.inr rfl) (aN di (aG aA (pv 1) ag (fun _ _ => rfl)) (pv 2))) (ai (aS (i := 4) nd rfl (.inl rfl) (aN bx (aG aA (pv 1) ag (fun _ _ => rfl)) (pv 2))) (ai (aS (i := 5) nd rfl (.inl rfl) (gN ak)) (ai (c6 PassesOwn.never rfl (bZ (c7 (ad (aN di (aG aA (pv 1) ag (fun _ _ => rfl)) ag) (ad (aN bx (aG aA (pv 1) ag (fun _ _ => rfl)) ag) ak)))) (aD (i := 6) nd rfl (.inr rfl)) (ap (f8 (ol PySem.F.plainAttrs_list PySem.F.slot_list_extend PySem.F.type_list_extend A8 (pv 5) (ad (eh (show CmpOk ["picture", "stretch", "reach", "first", "last", "found", "y"] (am eA) _ ["a", "b", "y", "first"] [none, none, some 6, some 3] from gW) (bZ (a8 gk (hr.mono (by decide)) (by rfl) bX cE gi .nil cm (ad (a8 ij (hr.mono (by decide)) (by rfl) bG d9 gX .nil cm (ad (pv 0) (ad (pv 6) ak))) (ad (pv 3) (ad (pv 4) ak))))) (fun _ => jt rfl (bn (aD (i := 0) (show List.Nodup (["a", "b", "y", "first"] : List Str) from by decide +kernel) rfl (.inl rfl)) (bn (aD (i := 1) (show List.Nodup (["a", "b", "y", "first"] : List Str) from by decide +kernel) rfl (.inl rfl)) gu))) (pP (b5 bw (b5 bw lB bp) bp)) (fun _ => jD (aP Gs (pv 1) (pv 3) (aY _))) (fun _ => c7 (ad (pv 2) (ad (pv 0) (ad (pv 1) ak))))) ak))))) (ap (a7 (pv 5)))))), zk h⟩
theorem vW {f : Addr} {fd : FuncData} (F : Fun K "walk_from" "walk_from" eK f fd) (T : Txt K mg) {dB : Addr} {p8 : FuncData} (mw : FnOk P w K mg base CX0 3 dB p8 ["picture", "stretch", "reach"] (iC K)) (dA : mg "touching" = some (.ref dB)) (fD : W.keepIn K (.ref dB) = true) (m8 : Binds K p8 ["picture", "stretch", "reach"] []) : FnOk P w K mg base CX0 4 f fd ["picture", "first", "reach"] (gA K) := by
 refine F.ok oy (fun vs H Q E h => h.1) (fun cdv A outer s H vs Q E hr h => ?_)
 have nd := (oy).nd
 exact ⟨_, ai (aS (i := 3) nd rfl (.inl rfl) (gN (ad (aN bx (pv 1) (c7 (ad (z9) ak))) ak))) (ai (aS (i := 4) nd rfl (.inl rfl) (Du (HM hr.units) (pv 1) fv)) (ai (aS (i := 5) nd rfl (.inl rfl) ag) (ai (sX PassesOwn.never (aP nX (pv 5) (bo cf (by rfl) T.len fE (ad (pv 3) ak)) (aY _)) (ai (c6 PassesOwn.never rfl (bZ (a8 mw (hr.mono (by decide)) (by rfl) dA fD m8 .nil cm (ad (pv 0) (ad (aG aA (pv 3) (pv 5) (fun _ _ => rfl)) (ad (pv 2) ak))))) (aD (i := 6) nd rfl (.inl rfl)) (ap (dm (Em (uV (un1 hr.units) (pv 6) (pv 4))) (ai (FC (un1 hr.units) (pv 4) (pv 6) fv (by rfl)) (ap (f8 (ol PySem.F.plainAttrs_list PySem.F.slot_list_append PySem.F.type_list_append fQ (pv 3) (ad (aN bx (pv 6) (c7 (ad (pv 5) ak))) ak))))) bK))) (ap (Hi (i := 5) nd rfl (.inl rfl) ag GU)))) (ap (a7 (pv 3)))))), vU h⟩
theorem uG {f : Addr} {fd : FuncData} (F : Fun K "classes_of" "classes_of" c0 f fd) (T : Txt K mg) {bR : Addr} {kd : FuncData} (im : FnOk P w K mg base CX0 1 bR kd ["picture"] (ee K)) (ci : mg "stretches_of" = some (.ref bR)) (cS : W.keepIn K (.ref bR) = true) (ic : Binds K kd ["picture"] []) {cV : Addr} {oh : FuncData} (lg : FnOk P w K mg base CX0 4 cV oh ["picture", "first", "reach"] (gA K)) (iD : mg "walk_from" = some (.ref cV)) (eG : W.keepIn K (.ref cV) = true) (kU : Binds K oh ["picture", "first", "reach"] []) : FnOk P w K mg base CX0 5 f fd ["picture", "reach"] (fZ K) := by
 refine F.ok l4 (fun vs H Q E h => h.1) (fun cdv A outer s H vs Q E hr h => ?_)
 have nd := (l4).nd
 exact ⟨_, ai (aS (i := 2) nd rfl (.inl rfl) (gN ak)) (ai (aS (i := 3) nd rfl (.inl rfl) C7) (ai (c6 PassesOwn.never rfl (bZ (a8 im (hr.mono (by decide)) (by rfl) ci cS ic .nil cm (ad (pv 0) ak))) (aD (i := 4) nd rfl (.inl rfl)) (ap (dm (Em (uV (un1 hr.units) (pv 4) (pv 3))) (ai (f8 (ol PySem.F.plainAttrs_list PySem.F.slot_list_append PySem.F.type_list_append fQ (pv 2) (ad (a8 lg (hr.mono (by decide)) (by rfl) iD eG kU .nil cm (ad (pv 0) (ad (pv 4) (ad (pv 1) ak)))) ak))) (ap (f8 (ol PySem.F.plainAttrs_dict PySem.F.slot_dict_update PySem.F.type_dict_update (BE (FN hr.units) rfl) (pv 3) (ad (eh (show CmpOk ["picture", "reach", "classes", "walked", "stretch"] (am c0) _ ["y", "a", "b", "place"] [none, none, none, none] from gW) (bZ (aG aA (pv 2) (uN oT ag) (fun _ _ => rfl))) (fun _ => jt rfl (bn (aD (i := 0) (show List.Nodup (["y", "a", "b", "place"] : List Str) from by decide +kernel) rfl (.inl rfl)) (bn (aD (i := 1) (show List.Nodup (["y", "a", "b", "place"] : List Str) from by decide +kernel) rfl (.inl rfl)) (bn (aD (i := 2) (show List.Nodup (["y", "a", "b", "place"] : List Str) from by decide +kernel) rfl (.inl rfl)) (bn (aD (i := 3) (show List.Nodup (["y", "a", "b", "place"] : List Str) from by decide +kernel) rfl (.inl rfl)) gu))))) (pP (b5 bw (b5 bw (b5 bw (b5 bw lB bp) bp) bp) bp)) (fun _ => iJ) (fun _ => c7 (ad (c7 (ad (pv 0) (ad (pv 1) (ad (pv 2) ak)))) (ad fv ak)))) ak))))) bK))) (ap (a7 (pv 2))))), uE h⟩
theorem Ey {f : Addr} {fd : FuncData} (F : Fun K "holes" "holes" jM f fd) (T : Txt K mg) {cI : Addr} {lW : FuncData} (jz : FnOk P w K mg base CX0 5 cI lW ["picture", "reach"] (fZ K)) (gq : mg "classes_of" = some (.ref cI)) (dP : W.keepIn K (.ref cI) = true) (ju : Binds K lW ["picture", "reach"] []) {bu : Addr} {iu : FuncData} (eT : FnOk P w K mg base CX0 2 bu iu ["picture"] (c5 K)) (bv : mg "picture_of_gaps" = some (.ref bu)) (bW : W.keepIn K (.ref bu) = true) (eZ : Binds K iu ["picture"] []) {eI : Addr} {sE : FuncData} (o8 : FnOk P w K mg base CX0 3 eI sE ["picture", "y", "a", "b"] (jS K)) (bM : mg "is_open" = some (.ref eI)) (gM : W.keepIn K (.ref eI) = true) (pI : Binds K sE ["picture", "y", "a", "b"] []) : FnOk P w K mg base CX0 6 f fd ["picture"] (oE K) := by
 refine F.ok yt (fun vs H Q E h => h.1) (fun cdv A outer s H vs Q E hr h => ?_)
 have nd := (yt).nd
 exact ⟨_, ai (aS (i := 1) nd rfl (.inl rfl) (a8 jz (hr.mono (by decide)) (by rfl) gq dP ju .nil cm (ad (a8 eT (hr.mono (by decide)) (by rfl) bv bW eZ .nil cm (ad (pv 0) ak)) (ad (F6 (v := .int (0)) (by rfl) T.BY_FOUR.choose_spec ⟨_, rfl⟩) ak)))) (ap (a7 (eh (show CmpOk ["picture", "classes"] (am jM) _ ["gaps", "picture"] [none, some 0] from gW) (bZ (pv 1)) (fun _ => aD (i := 0) (show List.Nodup (["gaps", "picture"] : List Str) from by decide +kernel) rfl (.inl rfl)) bw (fun _ => jD (by exact k7 (dc (bo (BR rfl) (by rfl) T.any G7 (ad (eh (show CmpOk ["gaps", "picture"] ({ kind := .function, names := [(".0", .local), ("gaps", .local), ("any", .globalImplicit), ("picture", .cell)], isGenerator := false, isCoroutine := false } : Scope) _ ["y", "a", "b", "place", "picture"] [none, none, none, none, some 1] from gW) (bZ (pv 0)) (fun _ => jt rfl (bn (aD (i := 0) (show List.Nodup (["y", "a", "b", "place", "picture"] : List Str) from by decide +kernel) rfl (.inl rfl)) (bn (aD (i := 1) (show List.Nodup (["y", "a", "b", "place", "picture"] : List Str) from by decide +kernel) rfl (.inl rfl)) (bn (aD (i := 2) (show List.Nodup (["y", "a", "b", "place", "picture"] : List Str) from by decide +kernel) rfl (.inl rfl)) (bn (aD (i := 3) (show List.Nodup (["y", "a", "b", "place", "picture"] : List Str) from by decide +kernel) rfl (.inl rfl)) gu))))) (pP (b5 bw (b5 bw (b5 bw (b5 bw lB bp) bp) bp) bp)) (fun _ => iJ) (fun _ => a8 o8 (hr.mono (by decide)) (by rfl) bM gM pI .nil cm (ad (pv 4) (ad (pv 0) (ad (pv 1) (ad (pv 2) ak)))))) ak)) (fun _ => rfl)))) (fun _ => pv 0)))), C1 h⟩
theorem HN {f : Addr} {fd : FuncData} (F : Fun K "law" "law" kw f fd) (T : Txt K mg) {iO : Addr} {w9 : FuncData} (rm : FnOk P w K mg base CX0 6 iO w9 ["picture"] (oE K)) (iE : mg "holes" = some (.ref iO)) (jE : W.keepIn K (.ref iO) = true) (rG : Binds K w9 ["picture"] []) {dL : Addr} {qO : FuncData} (l8 : FnOk P w K mg base CX0 2 dL qO ["_law_script"] (iV K)) (eB : mg "_law_picture" = some (.ref dL)) (fO : W.keepIn K (.ref dL) = true) (my : Binds K qO ["_law_script"] []) {eP : Addr} {tJ : FuncData} (pF : FnOk P w K mg base CX0 2 eP tJ ["_law_hole"] (jU K)) (de : mg "_law_walked" = some (.ref eP)) (gK : W.keepIn K (.ref eP) = true) (pA : Binds K tJ ["_law_hole"] []) {dE : Addr} {qK : FuncData} (nw : FnOk P w K mg base CX0 2 dE qK ["_law_picture_here", "_law_gaps_here"] (iM K)) (dG : mg "_law_shut_in" = some (.ref dE)) (fR : W.keepIn K (.ref dE) = true) (mq : Binds K qK ["_law_picture_here", "_law_gaps_here"] []) {iA : Addr} {yq : FuncData} (wP : FnOk P w K mg base CX0 1 iA yq ["_law_picture_here"] (oO K)) (iI : mg "_law_gaps" = some (.ref iA)) (lG : W.keepIn K (.ref iA) = true) (wv : Binds K yq ["_law_picture_here"] []) {gf : Addr} {uS : FuncData} (t9 : FnOk P w K mg base CX0 2 gf uS ["_law_found"] (lM K)) (e7 : mg "_law_apart" = some (.ref gf)) (jc : W.keepIn K (.ref gf) = true) (tL : Binds K uS ["_law_found"] []) : FnOk P w K mg base CX0 7 f fd ["_law_script"] (sZ K) := by
 refine F.ok Ej (fun vs H Q E h => h.1) (fun cdv A outer s H vs Q E hr h => ?_)
 have nd := (Ej).nd
 exact ⟨_, ai (aS (i := 1) nd rfl (.inl rfl) (a8 l8 (hr.mono (by decide)) (by rfl) eB fO my .nil cm (ad (pv 0) ak))) (ai (aS (i := 2) nd rfl (.inl rfl) (a8 rm (hr.mono (by decide)) (by rfl) iE jE rG .nil cm (ad (pv 1) ak))) (ai (dm (k7 (dc (bo pS (by rfl) T.isinstance i6 (ad (pv 2) (ad (wK (v := .ty "list") (by rfl) T.list wm rfl) ak))) (fun _ => rfl))) (ap (a7 fv)) bK) (ai (aS (i := 3) nd rfl (.inl rfl) (gN ak)) (ai (c6 PassesOwn.never rfl (bZ (pv 2)) (aD (i := 4) nd rfl (.inl rfl)) (ai (dm (k7 (dc (a8 pF (hr.mono (by decide)) (by rfl) de gK pA .nil cm (ad (pv 4) ak)) (fun _ => rfl))) (ap (a7 fv)) bK) (ap (aS (i := 3) nd rfl (.inl rfl) (aN bx (pv 3) (eh (show CmpOk ["_law_script", "_law_picture_here", "_law_found", "_law_members", "_law_hole", "_law_kept"] (am kw) _ ["_law_gap"] [none] from gW) (bZ (pv 4)) (fun _ => aD (i := 0) (show List.Nodup (["_law_gap"] : List Str) from by decide +kernel) rfl (.inl rfl)) bw (fun _ => iJ) (fun _ => gg xb (pv 0) (jC) (gB ag)))))))) (ai (dm (PW.pt (nZ (aP (wq hr.units) (bo vR (by rfl) T.sorted Cu (ad (pv 3) ak)) (a8 nw (hr.mono (by decide)) (by rfl) dG fR mq .nil cm (ad (pv 1) (ad (a8 wP (hr.mono (by decide)) (by rfl) iI lG wv .nil cm (ad (pv 1) ak)) ak))) (aY _)) (sL (k7 (dc (a8 t9 (hr.mono (by decide)) (by rfl) e7 jc tL .nil cm (ad (pv 2) ak)) (fun _ => rfl)))))) (ap (a7 fv)) bK) (ai (wF (i := 5) (hN := nd) (hi0 := rfl) (hx := Or.inl rfl) (ck := (show CmpOk ["_law_script", "_law_picture_here", "_law_found", "_law_members", "_law_hole", "_law_kept"] (am kw) _ ["_law_hole"] [none] from gW)) (hi := bZ (pv 2)) (hg := fun _ => aD (i := 0) (show List.Nodup (["_law_hole"] : List Str) from by decide +kernel) rfl (.inl rfl)) (hs := bw) (ht := fun _ => iJ) (he := fun _ => jq wf (by rfl) T.list wm (ad (pv 0) ak))) (ai (c6 PassesOwn.never rfl (bZ (pv 2)) (aD (i := 4) nd rfl (.inl rfl)) (ap (f8 (GF PySem.F.plainAttrs_list PySem.F.slot_list_clear PySem.F.type_list_clear EF (pv 4))))) (ai (f8 (ol PySem.F.plainAttrs_list PySem.F.slot_list_append PySem.F.type_list_append fQ (pv 2) (ad ag ak))) (ap (a7 (lv (iX hr.units) (a8 rm (hr.mono (by decide)) (by rfl) iE jE rG .nil cm (ad (pv 1) ak)) (pv 5) (aY _)))))))))))), Hw h⟩
end
theorem usS {us : List Value} {n : Nat} (h : us.length = n + 1) : ∃ a v, us = a :: v /\ v.length = n := by
 cases us with
 | nil => cases h
 | cons a v => exact ⟨a, v, rfl, Nat.succ.inj h⟩
theorem us1 {us : List Value} (h : us.length = 1) : ∃ a0, us = [a0] := by
 obtain ⟨a0, v0, rfl, h0⟩ := usS h
 cases v0 with
 | nil => exact ⟨a0, rfl⟩
 | cons a v => cases h0
theorem us2 {us : List Value} (h : us.length = 2) : ∃ a0 a1, us = [a0, a1] := by
 obtain ⟨a0, v0, rfl, h0⟩ := usS h
 obtain ⟨a1, v1, rfl, h1⟩ := usS h0
 cases v1 with
 | nil => exact ⟨a0, a1, rfl⟩
 | cons a v => cases h1
theorem us3 {us : List Value} (h : us.length = 3) : ∃ a0 a1 a2, us = [a0, a1, a2] := by
 obtain ⟨a0, v0, rfl, h0⟩ := usS h
 obtain ⟨a1, v1, rfl, h1⟩ := usS h0
 obtain ⟨a2, v2, rfl, h2⟩ := usS h1
 cases v2 with
 | nil => exact ⟨a0, a1, a2, rfl⟩
 | cons a v => cases h2
theorem us4 {us : List Value} (h : us.length = 4) : ∃ a0 a1 a2 a3, us = [a0, a1, a2, a3] := by
 obtain ⟨a0, v0, rfl, h0⟩ := usS h
 obtain ⟨a1, v1, rfl, h1⟩ := usS h0
 obtain ⟨a2, v2, rfl, h2⟩ := usS h1
 obtain ⟨a3, v3, rfl, h3⟩ := usS h2
 cases v3 with
 | nil => exact ⟨a0, a1, a2, a3, rfl⟩
 | cons a v => cases h3
theorem GK {l : W.OpenLaw} {w : World} {K : W.Frag} {h : Heap} {mg : Str -> Option Value} {fa : Addr} (X : K.In h) (G : h.Ns mainGlobals mg) (hfa : mg "law" = some (.ref fa))
  {bh : Addr} {tM tq : Option Addr} {uh : Array (Option Value)} {sw su sH tZ kr ub : Value}
  {dw : Addr} {yu y9 : Option Addr} {xM : Array (Option Value)} {y7 yV xV xG p9 xJ : Value}
  {bR : Addr} {qX re : Option Addr} {q9 : Array (Option Value)} {rh qZ rk qR kg rg : Value}
  {c9 : Addr} {CK B4 : Option Addr} {BH : Array (Option Value)} {BO Cj BZ Cq uO Ci : Value}
  {br : Addr} {ma nk : Option Addr} {mT : Array (Option Value)} {m9 mW mj mX h9 mD : Value}
  {bH : Addr} {o7 pQ : Option Addr} {pM : Array (Option Value)} {o3 pe oV oY jg pf : Value}
  {dB : Addr} {xn wY : Option Addr} {xm : Array (Option Value)} {xa xu yJ xY qC yB : Value}
  {cV : Addr} {wV wB : Option Addr} {vT : Array (Option Value)} {wM vO vK wA nJ wj : Value}
  {cI : Addr} {uq uk : Option Addr} {uj : Array (Option Value)} {ux ut uu uy l3 uA : Value}
  {bu : Addr} {mf mz : Option Addr} {mZ : Array (Option Value)} {mR ni ny mU gS ml : Value}
  {eI : Addr} {Ae AH : Option Addr} {zC : Array (Option Value)} {zz zL AN Am t0 zK : Value}
  {iO : Addr} {E6 E5 : Option Addr} {E1 : Array (Option Value)} {EL DY Ef Dr yl DH : Value}
  {dD : Addr} {zc xA : Option Addr} {ze : Array (Option Value)} {xR xw xE xi qv x9 : Value}
  {eJ : Addr} {Ay Ah : Option Addr} {z8 : Array (Option Value)} {AO Aq zP zr rX zV : Value}
  {kY : Addr} {Fj Fb : Option Addr} {Ff : Array (Option Value)} {FP F3 FS Fd AQ FR : Value}
  {dL : Addr} {yF zg : Option Addr} {x6 : Array (Option Value)} {yx yY xW yX qq x8 : Value}
  {iA : Addr} {DI Ds : Option Addr} {E7 : Array (Option Value)} {E3 D1 EE C3 xP DR : Value}
  {iB : Addr} {ET Dg : Option Addr} {C2 : Array (Option Value)} {Dq DP DB Eb yb Ei : Value}
  {b8 : Addr} {CL Cv : Option Addr} {BN : Array (Option Value)} {Ce Cn BD Cf vt CB : Value}
  {dE : Addr} {zj yy : Option Addr} {yQ : Array (Option Value)} {zh x0 xq yT qA xy : Value}
  {eP : Addr} {zw AC : Option Addr} {zZ : Array (Option Value)} {AM zO Ap Ao sW zX : Value}
  {gf : Addr} {Cp Ch : Option Addr} {CU : Array (Option Value)} {BV CH Cl CJ vn BP : Value}
  {DE : Addr} {HI EQ : Option Addr} {GY : Array (Option Value)} {Hk EB Ea Ed As EC : Value}
  {t_BY_FOUR : Tok}
  (iZ : W.nsIn K mainGlobals "count_up_to" = some (some (.ref bh))) (i9 : K.lookup bh = some ⟨sw, tM, .func (W.fnOf "count_up_to" "count_up_to" (bf dh) (a9 dh) (am dh) .none su sH tZ tq kr ub), uh⟩) (iW : W.codeIn K kr "count_up_to" = true) (bA : W.keepIn K (.ref bh) = true)
  (mN : W.nsIn K mainGlobals "row_gaps" = some (some (.ref dw))) (nh : K.lookup dw = some ⟨y7, yu, .func (W.fnOf "row_gaps" "row_gaps" (bf eE) (a9 eE) (am eE) .none yV xV xG y9 p9 xJ), xM⟩) (mQ : W.codeIn K p9 "row_gaps" = true) (fV : W.keepIn K (.ref dw) = true)
  (g6 : W.nsIn K mainGlobals "stretches_of" = some (some (.ref bR))) (iq : K.lookup bR = some ⟨rh, qX, .func (W.fnOf "stretches_of" "stretches_of" (bf cq) (a9 cq) (am cq) .none qZ rk qR re kg rg), q9⟩) (hE : W.codeIn K kg "stretches_of" = true) (cS : W.keepIn K (.ref bR) = true)
  (sY : W.nsIn K mainGlobals "row_at" = some (some (.ref c9))) (sV : K.lookup c9 = some ⟨BO, CK, .func (W.fnOf "row_at" "row_at" (bf jk) (a9 jk) (am jk) .none Cj BZ Cq B4 uO Ci), BH⟩) (sN : W.codeIn K uO "row_at" = true) (d9 : W.keepIn K (.ref c9) = true)
  (fb : W.nsIn K mainGlobals "rows_with_cells" = some (some (.ref br))) (eU : K.lookup br = some ⟨m9, ma, .func (W.fnOf "rows_with_cells" "rows_with_cells" (bf bE) (a9 bE) (am bE) .none mW mj mX nk h9 mD), mT⟩) (eR : W.codeIn K h9 "rows_with_cells" = true) (bV : W.keepIn K (.ref br) = true)
  (gp : W.nsIn K mainGlobals "begun_between" = some (some (.ref bH))) (gm : K.lookup bH = some ⟨o3, o7, .func (W.fnOf "begun_between" "begun_between" (bf cD) (a9 cD) (am cD) .none pe oV oY pQ jg pf), pM⟩) (gn : W.codeIn K jg "begun_between" = true) (cE : W.keepIn K (.ref bH) = true)
  (nB : W.nsIn K mainGlobals "touching" = some (some (.ref dB))) (m6 : K.lookup dB = some ⟨xa, xn, .func (W.fnOf "touching" "touching" (bf eA) (a9 eA) (am eA) .none xu yJ xY wY qC yB), xm⟩) (mY : W.codeIn K qC "touching" = true) (fD : W.keepIn K (.ref dB) = true)
  (kL : W.nsIn K mainGlobals "walk_from" = some (some (.ref cV))) (k8 : K.lookup cV = some ⟨wM, wV, .func (W.fnOf "walk_from" "walk_from" (bf eK) (a9 eK) (am eK) .none vO vK wA wB nJ wj), vT⟩) (kn : W.codeIn K nJ "walk_from" = true) (eG : W.keepIn K (.ref cV) = true)
  (jZ : W.nsIn K mainGlobals "classes_of" = some (some (.ref cI))) (jX : K.lookup cI = some ⟨ux, uq, .func (W.fnOf "classes_of" "classes_of" (bf c0) (a9 c0) (am c0) .none ut uu uy uk l3 uA), uj⟩) (jT : W.codeIn K l3 "classes_of" = true) (dP : W.keepIn K (.ref cI) = true)
  (fe : W.nsIn K mainGlobals "picture_of_gaps" = some (some (.ref bu))) (eY : K.lookup bu = some ⟨mR, mf, .func (W.fnOf "picture_of_gaps" "picture_of_gaps" (bf bD) (a9 bD) (am bD) .none ni ny mU mz gS ml), mZ⟩) (fg : W.codeIn K gS "picture_of_gaps" = true) (bW : W.keepIn K (.ref bu) = true)
  (pd : W.nsIn K mainGlobals "is_open" = some (some (.ref eI))) (pk : K.lookup eI = some ⟨zz, Ae, .func (W.fnOf "is_open" "is_open" (bf gI) (a9 gI) (am gI) .none zL AN Am AH t0 zK), zC⟩) (pb : W.codeIn K t0 "is_open" = true) (gM : W.keepIn K (.ref eI) = true)
  (vZ : W.nsIn K mainGlobals "holes" = some (some (.ref iO))) (wO : K.lookup iO = some ⟨EL, E6, .func (W.fnOf "holes" "holes" (bf jM) (a9 jM) (am jM) .none DY Ef Dr E5 yl DH), E1⟩) (wt : W.codeIn K yl "holes" = true) (jE : W.keepIn K (.ref iO) = true)
  (nH : W.nsIn K mainGlobals "_law_cell_at" = some (some (.ref dD))) (l7 : K.lookup dD = some ⟨xR, zc, .func (W.fnOf "_law_cell_at" "_law_cell_at" (bf fS) (a9 fS) (am fS) .none xw xE xi xA qv x9), ze⟩) (nz : W.codeIn K qv "_law_cell_at" = true) (fM : W.keepIn K (.ref dD) = true)
  (pK : W.nsIn K mainGlobals "_law_signed" = some (some (.ref eJ))) (oW : K.lookup eJ = some ⟨AO, Ay, .func (W.fnOf "_law_signed" "_law_signed" (bf gJ) (a9 gJ) (am gJ) .none Aq zP zr Ah rX zV), z8⟩) (pz : W.codeIn K rX "_law_signed" = true) (fJ : W.keepIn K (.ref eJ) = true)
  (zS : W.nsIn K mainGlobals "_law_row" = some (some (.ref kY))) (Aa : K.lookup kY = some ⟨FP, Fj, .func (W.fnOf "_law_row" "_law_row" (bf pT) (a9 pT) (am pT) .none F3 FS Fd Fb AQ FR), Ff⟩) (Av : W.codeIn K AQ "_law_row" = true) (pi : W.keepIn K (.ref kY) = true)
  (mI : W.nsIn K mainGlobals "_law_picture" = some (some (.ref dL))) (nD : K.lookup dL = some ⟨yx, yF, .func (W.fnOf "_law_picture" "_law_picture" (bf fX) (a9 fX) (am fX) .none yY xW yX zg qq x8), x6⟩) (mF : W.codeIn K qq "_law_picture" = true) (fO : W.keepIn K (.ref dL) = true)
  (wg : W.nsIn K mainGlobals "_law_gaps" = some (some (.ref iA))) (vM : K.lookup iA = some ⟨E3, DI, .func (W.fnOf "_law_gaps" "_law_gaps" (bf lE) (a9 lE) (am lE) .none D1 EE C3 Ds xP DR), E7⟩) (wn : W.codeIn K xP "_law_gaps" = true) (lG : W.keepIn K (.ref iA) = true)
  (wo : W.nsIn K mainGlobals "_law_open" = some (some (.ref iB))) (wu : K.lookup iB = some ⟨Dq, ET, .func (W.fnOf "_law_open" "_law_open" (bf lu) (a9 lu) (am lu) .none DP DB Eb Dg yb Ei), C2⟩) (vS : W.codeIn K yb "_law_open" = true) (lD : W.keepIn K (.ref iB) = true)
  (sR : W.nsIn K mainGlobals "_law_touch" = some (some (.ref b8))) (r0 : K.lookup b8 = some ⟨Ce, CL, .func (W.fnOf "_law_touch" "_law_touch" (bf ji) (a9 ji) (am ji) .none Cn BD Cf Cv vt CB), BN⟩) (sg : W.codeIn K vt "_law_touch" = true) (cT : W.keepIn K (.ref b8) = true)
  (nF : W.nsIn K mainGlobals "_law_shut_in" = some (some (.ref dE))) (mo : K.lookup dE = some ⟨zh, zj, .func (W.fnOf "_law_shut_in" "_law_shut_in" (bf cM) (a9 cM) (am cM) .none x0 xq yT yy qA xy), yQ⟩) (mH : W.codeIn K qA "_law_shut_in" = true) (fR : W.keepIn K (.ref dE) = true)
  (pj : W.nsIn K mainGlobals "_law_walked" = some (some (.ref eP))) (pU : K.lookup eP = some ⟨AM, zw, .func (W.fnOf "_law_walked" "_law_walked" (bf fK) (a9 fK) (am fK) .none zO Ap Ao AC sW zX), zZ⟩) (pN : W.codeIn K sW "_law_walked" = true) (gK : W.keepIn K (.ref eP) = true)
  (sS : W.nsIn K mainGlobals "_law_apart" = some (some (.ref gf))) (tw : K.lookup gf = some ⟨BV, Cp, .func (W.fnOf "_law_apart" "_law_apart" (bf jj) (a9 jj) (am jj) .none CH Cl CJ Ch vn BP), CU⟩) (r9 : W.codeIn K vn "_law_apart" = true) (jc : W.keepIn K (.ref gf) = true)
  (EG : W.nsIn K mainGlobals "law" = some (some (.ref DE))) (ED : K.lookup DE = some ⟨Hk, HI, .func (W.fnOf "law" "law" (bf kw) (a9 kw) (am kw) .none EB Ea Ed EQ As EC), GY⟩) (De : W.codeIn K As "law" = true) (EI : W.keepIn K (.ref DE) = true)
  (z_any : W.nsIn K mainGlobals "any" = some none)
  (z_isinstance : W.nsIn K mainGlobals "isinstance" = some none)
  (z_len : W.nsIn K mainGlobals "len" = some none)
  (z_list : W.nsIn K mainGlobals "list" = some none)
  (z_max : W.nsIn K mainGlobals "max" = some none)
  (z_min : W.nsIn K mainGlobals "min" = some none)
  (z_range : W.nsIn K mainGlobals "range" = some none)
  (z_sorted : W.nsIn K mainGlobals "sorted" = some none)
  (z_tuple : W.nsIn K mainGlobals "tuple" = some none)
  (y_BY_FOUR : W.nsIn K mainGlobals "BY_FOUR" = some (some (.int (0) t_BY_FOUR)))
  : ∃ fd : FuncData, (∀ (s : Shared) (v : Value), BindsTo s fd ⟨[v], []⟩ [("_law_script", v)]) /\ ∀ base : Heap, K.In base -> base.Ns mainGlobals mg -> FnOk l.prog w K mg base CX0 7 fa fd ["_law_script"] (sZ K) := by
 have e := hfa.symm.trans (W.mg_of X G EG)
 cases e
 have T : Txt K mg := ⟨W.mg_none_of X G z_any, W.mg_none_of X G z_isinstance, W.mg_none_of X G z_len, W.mg_none_of X G z_list, W.mg_none_of X G z_max, W.mg_none_of X G z_min, W.mg_none_of X G z_range, W.mg_none_of X G z_sorted, W.mg_none_of X G z_tuple, ⟨_, W.mg_of X G y_BY_FOUR⟩⟩
 have lU := cj (st := dh) i9 iW bA
 have cN := (lU).binds (ps := ["pairs", "number"]) fun _ _ _ _ _ _ us hl => by obtain ⟨a0, a1, rfl⟩ := us2 hl; rfl
 have ba := W.mg_of X G iZ
 have tR := cj (st := eE) nh mQ fV
 have mM := (tR).binds (ps := ["row"]) fun _ _ _ _ _ _ us hl => by obtain ⟨a0, rfl⟩ := us1 hl; rfl
 have du := W.mg_of X G mN
 have kZ := cj (st := cq) iq hE cS
 have ic := (kZ).binds (ps := ["picture"]) fun _ _ _ _ _ _ us hl => by obtain ⟨a0, rfl⟩ := us1 hl; rfl
 have ci := W.mg_of X G g6
 have iQ := cj (st := bE) eU eR bV
 have e9 := (iQ).binds (ps := ["rows"]) fun _ _ _ _ _ _ us hl => by obtain ⟨a0, rfl⟩ := us1 hl; rfl
 have bF := W.mg_of X G fb
 have rO := cj (st := fS) l7 nz fM
 have md := (rO).binds (ps := ["_law_script", "_law_k"]) fun _ _ _ _ _ _ us hl => by obtain ⟨a0, a1, rfl⟩ := us2 hl; rfl
 have cZ := W.mg_of X G nH
 have uJ := cj (st := gJ) oW pz fJ
 have lA := (uJ).binds (ps := ["_law_cell", "_law_most"]) fun _ _ _ _ _ _ us hl => by obtain ⟨a0, a1, rfl⟩ := us2 hl; rfl
 have df := W.mg_of X G pK
 have C5 := cj (st := pT) Aa Av pi
 have zI := (C5).binds (ps := ["_law_bits", "_law_x", "_law_wide"]) fun _ _ _ _ _ _ us hl => by obtain ⟨a0, a1, a2, rfl⟩ := us3 hl; rfl
 have nu := W.mg_of X G zS
 have BA := cj (st := lE) vM wn lG
 have wv := (BA).binds (ps := ["_law_picture_here"]) fun _ _ _ _ _ _ us hl => by obtain ⟨a0, rfl⟩ := us1 hl; rfl
 have iI := W.mg_of X G wg
 have Bb := cj (st := lu) wu vS lD
 have vP := (Bb).binds (ps := ["_law_picture_here", "_law_gap"]) fun _ _ _ _ _ _ us hl => by obtain ⟨a0, a1, rfl⟩ := us2 hl; rfl
 have iz := W.mg_of X G wo
 have xH := cj (st := ji) r0 sg cT
 have dU := (xH).binds (ps := ["_law_one", "_law_other"]) fun _ _ _ _ _ _ us hl => by obtain ⟨a0, a1, rfl⟩ := us2 hl; rfl
 have aV := W.mg_of X G sR
 have xD := cj (st := jk) sV sN d9
 have gX := (xD).binds (ps := ["picture", "y"]) fun _ _ _ _ _ _ us hl => by obtain ⟨a0, a1, rfl⟩ := us2 hl; rfl
 have bG := W.mg_of X G sY
 have kh := cj (st := cD) gm gn cE
 have gi := (kh).binds (ps := ["pairs", "first", "last"]) fun _ _ _ _ _ _ us hl => by obtain ⟨a0, a1, a2, rfl⟩ := us3 hl; rfl
 have bX := W.mg_of X G gp
 have iK := cj (st := bD) eY fg bW
 have eZ := (iK).binds (ps := ["picture"]) fun _ _ _ _ _ _ us hl => by obtain ⟨a0, rfl⟩ := us1 hl; rfl
 have bv := W.mg_of X G fe
 have tu := cj (st := fX) nD mF fO
 have my := (tu).binds (ps := ["_law_script"]) fun _ _ _ _ _ _ us hl => by obtain ⟨a0, rfl⟩ := us1 hl; rfl
 have eB := W.mg_of X G mI
 have tQ := cj (st := cM) mo mH fR
 have mq := (tQ).binds (ps := ["_law_picture_here", "_law_gaps_here"]) fun _ _ _ _ _ _ us hl => by obtain ⟨a0, a1, rfl⟩ := us2 hl; rfl
 have dG := W.mg_of X G nF
 have u7 := cj (st := fK) pU pN gK
 have pA := (u7).binds (ps := ["_law_hole"]) fun _ _ _ _ _ _ us hl => by obtain ⟨a0, rfl⟩ := us1 hl; rfl
 have de := W.mg_of X G pj
 have yg := cj (st := jj) tw r9 jc
 have tL := (yg).binds (ps := ["_law_found"]) fun _ _ _ _ _ _ us hl => by obtain ⟨a0, rfl⟩ := us1 hl; rfl
 have e7 := W.mg_of X G sS
 have tF := cj (st := eA) m6 mY fD
 have m8 := (tF).binds (ps := ["picture", "stretch", "reach"]) fun _ _ _ _ _ _ us hl => by obtain ⟨a0, a1, a2, rfl⟩ := us3 hl; rfl
 have dA := W.mg_of X G nB
 have vG := cj (st := gI) pk pb gM
 have pI := (vG).binds (ps := ["picture", "y", "a", "b"]) fun _ _ _ _ _ _ us hl => by obtain ⟨a0, a1, a2, a3, rfl⟩ := us4 hl; rfl
 have bM := W.mg_of X G pd
 have qj := cj (st := eK) k8 kn eG
 have kU := (qj).binds (ps := ["picture", "first", "reach"]) fun _ _ _ _ _ _ us hl => by obtain ⟨a0, a1, a2, rfl⟩ := us3 hl; rfl
 have iD := W.mg_of X G kL
 have n9 := cj (st := c0) jX jT dP
 have ju := (n9).binds (ps := ["picture", "reach"]) fun _ _ _ _ _ _ us hl => by obtain ⟨a0, a1, rfl⟩ := us2 hl; rfl
 have gq := W.mg_of X G jZ
 have Bg := cj (st := jM) wO wt jE
 have rG := (Bg).binds (ps := ["picture"]) fun _ _ _ _ _ _ us hl => by obtain ⟨a0, rfl⟩ := us1 hl; rfl
 have iE := W.mg_of X G vZ
 have IR := cj (st := kw) ED De EI
 refine ⟨W.fnOf "law" "law" (bf kw) (a9 kw) (am kw) .none EB Ea Ed EQ As EC, fun s v => .of_eq rfl, fun base _ _ => ?_⟩
 have l6 : FnOk l.prog w K mg base CX0 1 dD _ ["_law_script", "_law_k"] (iL K) := yc rO T
 have wP : FnOk l.prog w K mg base CX0 1 iA _ ["_law_picture_here"] (oO K) := Eo BA T
 have wD : FnOk l.prog w K mg base CX0 1 iB _ ["_law_picture_here", "_law_gap"] (oG K) := DL Bb T
 have An : FnOk l.prog w K mg base CX0 1 kY _ ["_law_bits", "_law_x", "_law_wide"] (rC K) := FK C5 T
 have ll : FnOk l.prog w K mg base CX0 1 eJ _ ["_law_cell", "_law_most"] (jI K) := AL uJ T
 have d8 : FnOk l.prog w K mg base CX0 1 b8 _ ["_law_one", "_law_other"] (gL K) := BX xH T
 have cL : FnOk l.prog w K mg base CX0 1 bh _ ["pairs", "number"] (dt K) := tU lU T
 have me : FnOk l.prog w K mg base CX0 1 dw _ ["row"] (iU K) := xF tR T
 have e8 : FnOk l.prog w K mg base CX0 1 br _ ["rows"] (c8 K) := l9 iQ T
 have im : FnOk l.prog w K mg base CX0 1 bR _ ["picture"] (ee K) := qW kZ T
 have t9 : FnOk l.prog w K mg base CX0 2 gf _ ["_law_found"] (lM K) := BU yg T d8 aV cT dU
 have l8 : FnOk l.prog w K mg base CX0 2 dL _ ["_law_script"] (iV K) := yj tu T l6 cZ fM md ll df fJ lA An nu pi zI
 have nw : FnOk l.prog w K mg base CX0 2 dE _ ["_law_picture_here", "_law_gaps_here"] (iM K) := zn tQ T wD iz lD vP d8 aV cT dU
 have pF : FnOk l.prog w K mg base CX0 2 eP _ ["_law_hole"] (jU K) := Aw u7 T d8 aV cT dU
 have gk : FnOk l.prog w K mg base CX0 2 bH _ ["pairs", "first", "last"] (dN K) := pJ kh T cL ba bA cN
 have eT : FnOk l.prog w K mg base CX0 2 bu _ ["picture"] (c5 K) := mn iK T e8 bF bV e9 me du fV mM
 have ij : FnOk l.prog w K mg base CX0 2 c9 _ ["picture", "y"] (jh K) := B0 xD T cL ba bA cN
 have o8 : FnOk l.prog w K mg base CX0 3 eI _ ["picture", "y", "a", "b"] (jS K) := Ab vG T ij bG d9 gX
 have mw : FnOk l.prog w K mg base CX0 3 dB _ ["picture", "stretch", "reach"] (iC K) := xk tF T gk bX cE gi ij bG d9 gX
 have lg : FnOk l.prog w K mg base CX0 4 cV _ ["picture", "first", "reach"] (gA K) := vW qj T mw dA fD m8
 have jz : FnOk l.prog w K mg base CX0 5 cI _ ["picture", "reach"] (fZ K) := uG n9 T im ci cS ic lg iD eG kU
 have rm : FnOk l.prog w K mg base CX0 6 iO _ ["picture"] (oE K) := Ey Bg T jz gq dP ju eT bv bW eZ o8 bM gM pI
 exact HN IR T rm iE jE rG l8 eB fO my pF de gK pA nw dG fR mq wP iI lG wv t9 e7 jc tL
theorem walk {l : W.OpenLaw} {q : Program} {loose : List Str} {XP : (Str -> Option Value) -> Heap -> Prop} {YP : World -> Heap -> Prop} {d : DefRec} {K : Params -> W.Frag} (hn : l.most = some 63) (hdf : d.params.defaults = [])
  (hY : ∀ (w : World) (h : Heap), YP w h -> (K w.params).In h)
  (F : ∀ (w : World) (mg : Str -> Option Value) (fa : Addr) (h : Heap), (K w.params).In h -> h.Ns mainGlobals mg -> mg d.name = some (.ref fa) ->
   ∃ fd : FuncData, (∀ (s : Shared) (u : Value), BindsTo s fd ⟨[u], []⟩ [("_law_script", u)]) /\ ∀ base : Heap, (K w.params).In base -> base.Ns mainGlobals mg -> FnOk l.prog w (K w.params) mg base CX0 7 fa fd ["_law_script"] (sZ (K w.params))) :
  W.WalkO q loose XP YP l.row.toRowW d [] (fun f vs => PySem.call f vs) :=
 L2.FZ (n := 63) (k := 7) (x := "_law_script") (CX := fun _ => CX0) (sp := fun w => sZ (K w.params)) hn (by decide) hdf ⟨rfl, by decide, by decide⟩ hY F (fun _ H a ns hl _ hS => M.CA hS (ES ns hl)) fun _ _ _ _ _ z => z
end Lw
open PySem PySem.W PyProof.Rows
set_option maxRecDepth 100000 in
set_option maxHeartbeats 0 in
theorem PySem.Challenge.cw_shapethin_k46_holes_walked_holds : PySem.Challenge.rw_shapethin_k46_holes_walked.Holds := by
 w_on; o_law; k_head; (case hw => w_witness2)
 k_fill
 refine Lw.walk (l := PySem.Challenge.rw_shapethin_k46_holes_walked) rfl rfl (fun w h Y => W.kIn_of Y) ?F
 case F =>
  intro w mg fa h KX G hmg
  refine' Lw.GK KX G hmg ?iZ ?i9 ?iW ?bA ?mN ?nh ?mQ ?fV ?g6 ?iq ?hE ?cS ?sY ?sV ?sN ?d9 ?fb ?eU ?eR ?bV ?gp ?gm ?gn ?cE ?nB ?m6 ?mY ?fD ?kL ?k8 ?kn ?eG ?jZ ?jX ?jT ?dP ?fe ?eY ?fg ?bW ?pd ?pk ?pb ?gM ?vZ ?wO ?wt ?jE ?nH ?l7 ?nz ?fM ?pK ?oW ?pz ?fJ ?zS ?Aa ?Av ?pi ?mI ?nD ?mF ?fO ?wg ?vM ?wn ?lG ?wo ?wu ?vS ?lD ?sR ?r0 ?sg ?cT ?nF ?mo ?mH ?fR ?pj ?pU ?pN ?gK ?sS ?tw ?r9 ?jc ?EG ?ED ?De ?EI ?z_any ?z_isinstance ?z_len ?z_list ?z_max ?z_min ?z_range ?z_sorted ?z_tuple ?y_BY_FOUR
  (case iZ => k_is)
  (case i9 => k_is)
  (case iW => k_is)
  (case bA => k_is)
  (case mN => k_is)
  (case nh => k_is)
  (case mQ => k_is)
  (case fV => k_is)
  (case g6 => k_is)
  (case iq => k_is)
  (case hE => k_is)
  (case cS => k_is)
  (case sY => k_is)
  (case sV => k_is)
  (case sN => k_is)
  (case d9 => k_is)
  (case fb => k_is)
  (case eU => k_is)
  (case eR => k_is)
  (case bV => k_is)
  (case gp => k_is)
  (case gm => k_is)
  (case gn => k_is)
  (case cE => k_is)
  (case nB => k_is)
  (case m6 => k_is)
  (case mY => k_is)
  (case fD => k_is)
  (case kL => k_is)
  (case k8 => k_is)
  (case kn => k_is)
  (case eG => k_is)
  (case jZ => k_is)
  (case jX => k_is)
  (case jT => k_is)
  (case dP => k_is)
  (case fe => k_is)
  (case eY => k_is)
  (case fg => k_is)
  (case bW => k_is)
  (case pd => k_is)
  (case pk => k_is)
  (case pb => k_is)
  (case gM => k_is)
  (case vZ => k_is)
  (case wO => k_is)
  (case wt => k_is)
  (case jE => k_is)
  (case nH => k_is)
  (case l7 => k_is)
  (case nz => k_is)
  (case fM => k_is)
  (case pK => k_is)
  (case oW => k_is)
  (case pz => k_is)
  (case fJ => k_is)
  (case zS => k_is)
  (case Aa => k_is)
  (case Av => k_is)
  (case pi => k_is)
  (case mI => k_is)
  (case nD => k_is)
  (case mF => k_is)
  (case fO => k_is)
  (case wg => k_is)
  (case vM => k_is)
  (case wn => k_is)
  (case lG => k_is)
  (case wo => k_is)
  (case wu => k_is)
  (case vS => k_is)
  (case lD => k_is)
  (case sR => k_is)
  (case r0 => k_is)
  (case sg => k_is)
  (case cT => k_is)
  (case nF => k_is)
  (case mo => k_is)
  (case mH => k_is)
  (case fR => k_is)
  (case pj => k_is)
  (case pU => k_is)
  (case pN => k_is)
  (case gK => k_is)
  (case sS => k_is)
  (case tw => k_is)
  (case r9 => k_is)
  (case jc => k_is)
  (case EG => k_is)
  (case ED => k_is)
  (case De => k_is)
  (case EI => k_is)
  (case z_any => k_is)
  (case z_isinstance => k_is)
  (case z_len => k_is)
  (case z_list => k_is)
  (case z_max => k_is)
  (case z_min => k_is)
  (case z_range => k_is)
  (case z_sorted => k_is)
  (case z_tuple => k_is)
  (case y_BY_FOUR => k_is)

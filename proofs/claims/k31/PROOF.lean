import PyProof.Rows.All
import Wide.All
import OpenK.AllK
import Wide.FinOn
import Lean
import PyProof.EqAt
import PyProof.EqKinds
import PyProof.TupleCall
import PySem.Challenge.RW_shapethin_k31_forms_and_their_cells
set_option genSizeOf false
set_option bootstrap.genMatcherCode false
set_option compiler.extract_closed false
set_option Elab.async false
set_option linter.all false
set_option maxRecDepth 100000
def NF := @if_pos
def NG := @if_neg
def NH := @PySem.wpAny_bind
def NI := @List.mem_singleton
def NJ := @PySem.wpAny_pure
def NK := @Nat.le_refl
def NL := @List.mem_cons_self
def NM := @List.mem_append
def NN := @List.mem_cons_of_mem
def NO := @List.length_append
def NP := @List.mem_append_right
def NQ := @List.mem_cons
def NR := @List.mem_append_left
def NT := @List.length_map
def NU := @PySem.Heap.lt_size
def NV := @List.length_cons
def NW := @PySem.Heap.get?_push_of_some
def NY := @List.mem_map
def NZ := @List.size_toArray
def N0 := @Array.map_reverse
def N1 := @List.map_cons
def N5 := @Nat.ne_of_lt
def N6 := @Nat.le_trans
def N7 := @List.pairwise_append
def N8 := @List.lookup_cons
def N9 := @List.append_assoc
def Oa := @List.map_map
def Ob := @Nat.lt_of_lt_of_le
def Oc := @Option.some.inj
def Od := @PySem.Heap.get?_push_size
def Oe := @Ne.symm
def Og := @List.getElem?_eq_some_iff
def Oh := @List.getElem?_map
def Oi := @List.length_singleton
def Oj := @decide_eq_false
def Ol := @List.append_nil
def Om := @Nat.le_of_lt
def Oo := @List.nodup_cons
def Op := @of_decide_eq_false
def Oq := @List.getElem?_set_ne
def Os := @Bool.and_eq_true
def Ot := @PySem.wpAny_newObj_type
def Ou := @List.mem_filter
def Ov := @Nat.zero_le
def Ow := @Nat.lt_of_le_of_lt
def Ox := @Array.length_toList
def Oy := @List.length_set
def Oz := @Array.getElem?_toList
def OA := @List.getElem?_eq_getElem
def OB := @PySem.wpAny_holding
def OC := @Bool.false_ne_true
def OD := @List.getElem?_set_self
def OE := @List.getElem?_append_right
def OG := @List.pairwise_map
def OH := @of_decide_eq_true
def OI := @List.nodup_append
def OJ := @List.map_append
def OK := @List.getElem?_append_left
def OL := @List.drop_of_length_le
def OM := @List.zip_cons_cons
def OO := @List.mem_of_getElem?
def OP := @decide_eq_true
def OQ := @List.pairwise_iff_getElem
def OS := @List.getElem?_of_mem
def OT := @List.getD_eq_getElem?_getD
namespace L2
open PySem PySem.Spec PyProof.Rows
noncomputable abbrev Key := Sum Int Str
noncomputable def IQ : Key -> Value -> Bool
 | .inl k, v => Value.isInt k v
 | .inr x, v => Value.isStrOf x v
noncomputable def Ma (w : World) : Key -> Int
 | .inl k => hashInt k
 | .inr x => hashStr w x
theorem dg : ∀ {k : Key} {v : Value}, IQ k v = true -> (∃ i t, k = Sum.inl i /\ v = Value.int i t) \/ (∃ x t, k = Sum.inr x /\ v = Value.str x t)
 | .inl i, v, h => by
  obtain ⟨t, e⟩ := Value.isInt_shape (k := i) (v := v) h
  exact .inl ⟨i, t, rfl, e⟩
 | .inr x, v, h => by
  obtain ⟨t, e⟩ := Value.isStrOf_shape (x := x) (v := v) h
  exact .inr ⟨x, t, rfl, e⟩
theorem JV (a b : Int) : decide ((Sum.inl a : Key) = Sum.inl b) = (a == b) := by
 by_cases e : a = b
 ·subst e; simp
 ·have h : ¬ (Sum.inl a : Key) = Sum.inl b := fun q => e (Sum.inl.inj q)
  rw [Oj h]
  exact (beq_eq_false_iff_ne.mpr e).symm
theorem J5 (a b : Str) : decide ((Sum.inr a : Key) = Sum.inr b) = decide (a = b) := by
 by_cases e : a = b
 ·subst e; simp
 ·have h : ¬ (Sum.inr a : Key) = Sum.inr b := fun q => e (Sum.inr.inj q)
  rw [Oj h, Oj e]
theorem JT (a : Int) (b : Str) : decide ((Sum.inl a : Key) = Sum.inr b) = false := Oj (fun q => nomatch q)
theorem JG (a : Str) (b : Int) : decide ((Sum.inr a : Key) = Sum.inl b) = false := Oj (fun q => nomatch q)
noncomputable def zL (prog : Program) (w : World) : PySem.KeyKind prog w Key where
 is := IQ
 hash := Ma w
 inj := fun v a b ha hb => by
  rcases dg ha with ⟨i, t, rfl, rfl⟩ | ⟨x, t, rfl, rfl⟩
  ·rcases dg hb with ⟨j, u, rfl, e⟩ | ⟨y, u, rfl, e⟩
   ·injection e with e1 _; rw [e1]
   ·exact nomatch e
  ·rcases dg hb with ⟨j, u, rfl, e⟩ | ⟨y, u, rfl, e⟩
   ·exact nomatch e
   ·injection e with e1 _; rw [e1]
 byValue := fun k v h => by
  rcases dg h with ⟨i, t, rfl, rfl⟩ | ⟨x, t, rfl, rfl⟩ <;> rfl
 pyHash := fun hv h => by
  rcases dg hv with ⟨i, t, rfl, rfl⟩ | ⟨x, t, rfl, rfl⟩
  ·exact wpAny_pyHash_int h
  ·exact wpAny_pyHash_str h
 eqBool := fun hu hv h => by
  rcases dg hu with ⟨i, t, rfl, rfl⟩ | ⟨x, t, rfl, rfl⟩
  ·rcases dg hv with ⟨j, u, rfl, rfl⟩ | ⟨y, u, rfl, rfl⟩
   ·rw [JV] at h; exact wpAny_eqBool_int h
   ·rw [JT] at h; exact SeqAt.EqAt.int_str i t y u _ _ _ _ h
  ·rcases dg hv with ⟨j, u, rfl, rfl⟩ | ⟨y, u, rfl, rfl⟩
   ·rw [JG] at h; exact SeqAt.EqAt.str_int x t j u _ _ _ _ h
   ·rw [J5] at h; exact wpAny_eqBool_str h
 «strs» := fun k x t v h => by
  rcases dg h with ⟨i, u, rfl, e⟩ | ⟨y, u, rfl, e⟩
  ·exact nomatch e
  ·injection e with e1 _
   subst e1
   cases v <;> rfl
inductive V where
 | non | bl (b : Bool) | int (i : Int) | str (x : Str) | byt (b : Array UInt8) | flt (b : UInt64) | ref (a : Addr) | ty (n : String)
 deriving DecidableEq
noncomputable def RelV : V -> Value -> Prop
 | .non, u => u = Value.none
 | .bl b, u => u = Value.bool b
 | .int i, u => ∃ t, u = Value.int i t
 | .str x, u => ∃ t, u = Value.str x t
 | .byt b, u => ∃ t, u = Value.bytes b t
 | .flt b, u => ∃ t, u = Value.float b t
 | .ref a, u => u = Value.ref a
 | .ty n, u => u = Value.type n
noncomputable abbrev Vals : List V -> List Value -> Prop := Paired RelV
theorem Vals.length {xs : List V} {us : List Value} (r : Vals xs us) : xs.length = us.length := Paired.length r
theorem Vals.get : ∀ {xs : List V} {us : List Value} {i : Nat} {x : V}, Vals xs us -> xs[i]? = some x -> ∃ u, us[i]? = some u /\ RelV x u
 | _, _, _, _, .nil, e => by simp at e
 | _, _, 0, _, .cons r _, e => by simp at e; subst e; exact ⟨_, rfl, r⟩
 | _, _, i + 1, x, .cons _ t, e => by
  obtain ⟨u, h1, h2⟩ := Vals.get (i := i) (x := x) t (by simpa using e)
  exact ⟨u, by simpa using h1, h2⟩
theorem Vals.set {x : V} {u : Value} (r : RelV x u) : ∀ {xs : List V} {us : List Value} (i : Nat), Vals xs us -> Vals (xs.set i x) (us.set i u)
 | _, _, _, .nil => .nil
 | _, _, 0, .cons _ t => .cons r t
 | _, _, i + 1, .cons q t => .cons q (Vals.set r i t)
theorem Vals.append : ∀ {xs ys : List V} {us ws : List Value}, Vals xs us -> Vals ys ws -> Vals (xs ++ ys) (us ++ ws)
 | _, _, _, _, .nil, s => s
 | _, _, _, _, .cons r t, s => .cons r (Vals.append t s)
theorem Vals.take : ∀ {xs : List V} {us : List Value} (n : Nat), Vals xs us -> Vals (xs.take n) (us.take n)
 | _, _, 0, _ => .nil
 | _, _, _ + 1, .nil => .nil
 | _, _, n + 1, .cons r t => .cons r (Vals.take n t)
theorem Vals.drop : ∀ {xs : List V} {us : List Value} (n : Nat), Vals xs us -> Vals (xs.drop n) (us.drop n)
 | _, _, 0, r => r
 | _, _, _ + 1, .nil => .nil
 | _, _, n + 1, .cons _ t => Vals.drop n t
noncomputable def RelO : Option V -> Option Value -> Prop
 | some v, some u => RelV v u
 | none, none => True
 | _, _ => False
noncomputable def KV {κ : Type} : List (κ × V) -> List (κ × Value) -> Prop := Paired fun (p : κ × V) (q : κ × Value) => p.1 = q.1 /\ RelV p.2 q.2
noncomputable def kV : Key -> V
 | .inl i => .int i
 | .inr x => .str x
inductive HO where
  | lst (xs : List V)
  | tup (xs : List V)
  | dK (kvs : List (Key × V)) | dT (kvs : List (List Key × V))
  | set (S : Int -> Bool) (n : Nat)
  | ins (C dx : Addr) (fs : List (Str × V))
  | own (x : Addr)
  | xd (fs : List (Str × V))
  | met (f x : Addr)
  | rng (lo hi : Int)
  | frz (o : Obj) (u : HO)
  | tbl (ps : Array Value)
  | ext (φ : Heap -> Prop)
noncomputable abbrev Hp := Addr -> Option HO
noncomputable def upd (H : Hp) (a : Addr) (o : HO) : Hp := fun b => if b = a then some o else H b
theorem a8 {H : Hp} {a : Addr} {o : HO} : upd H a o a = some o := by unfold upd; rw [NF rfl]
theorem a6 {H : Hp} {a b : Addr} {o : HO} (h : b ≠ a) : upd H a o b = H b := by unfold upd; rw [NG h]
theorem bj {H : Hp} {a b : Addr} {o : HO} (h : H a = some o) (h' : H b = none) : a ≠ b := by
 intro e; subst e; rw [h] at h'; cases h'
section
variable (P : Program) (w : World)
noncomputable def ObjOk (H : Hp) (h : Heap) (a : Addr) : HO -> Prop
 | .lst xs => xs.length <= sizeLine /\ ∃ (its : List Value) (n : Nat), Vals xs its /\ h.get? a = some { cls := .type "list", data := .seq its.toArray n }
 | .tup xs => xs.length <= sizeLine /\ ∃ its : List Value, Vals xs its /\ IsTup h a its.toArray
 | .dK kvs => kvs.length <= sizeLine /\ (a == sysModules) = false /\ ∃ vs, KV kvs vs /\ h.DictOf (zL P w) a vs
 | .dT kvs => kvs.length <= sizeLine /\ (a == sysModules) = false /\ ∃ xs : List (List Key × Addr × Value),
   Paired (fun (p : List Key × V) (q : List Key × Addr × Value) => p.1 = q.1 /\ H q.2.1 = some (.tup (p.1.map kV)) /\ RelV p.2 q.2.2) kvs xs /\
   ∃ o es ep, h.get? a = some o /\ o.ExactDict /\ o.data = .dict es ep /\ es.toList = xs.map (entryOfKey (tupleKind (zL P w))) /\ (xs.map (·.1)).Nodup
 | .set S n => h.SetOf (intKind P w) a S n
 | .ins C dx fs => H dx = some (.own a) /\ fs.length <= 1000 /\ dx ≠ a /\ h.get? a = some (W.instObj C dx) /\
   ∃ mA, h.Ns1 dx mA /\ (∀ f, RelO (fs.lookup f) (mA f)) /\ PySem.Within mA (fs.map (·.1))
 | .own _ => ∃ o, h.get? a = some o
 | .xd fs => ∃ mA, h.Ns1 a mA /\ ∀ f, RelO (fs.lookup f) (mA f)
 | .rng lo hi => ∃ t u v, h.get? a = some { cls := .type "range", data := .fields #[.int lo t, .int hi u, .int 1 v] }
 | .frz o u => h.get? a = some o /\ ObjOk H h a u
 | .tbl ps => h.get? a = some { cls := .none, data := .fields ps }
 | .met f x => h.get? a = some (W.methodObj (.ref f) (.ref x))
 | .ext φ => φ h /\ (∃ o, h.get? a = some o) /\ ∀ h1 h2 : Heap, φ h1 -> (∀ o, h1.get? a = some o -> h2.get? a = some o) -> φ h2
def HOk (H : Hp) (h : Heap) : Prop := ∀ a o, H a = some o -> ObjOk P w H h a o
end
section
variable {P : Program} {w : World} {H H' : Hp} {h h' : Heap} {a : Addr} {o : HO}
theorem ObjOk.lt (x : ObjOk P w H h a o) : a < h.objs.size := by
 cases o with
 | lst xs => obtain ⟨_, _, _, _, e⟩ := x; exact NU e
 | tup xs => obtain ⟨_, _, _, p⟩ := x; exact p.lt
 | dK kvs => obtain ⟨_, _, _, _, o, _, _, e, _⟩ := x; exact NU e
 | dT kvs => obtain ⟨_, _, _, _, o, _, _, e, _⟩ := x; exact NU e
 | set S n => obtain ⟨o, _, _, _, e, _⟩ := x; exact NU e
 | ins C dx fs => obtain ⟨_, _, _, e, _⟩ := x; exact NU e
 | own y => obtain ⟨_, e⟩ := x; exact NU e
 | xd fs => obtain ⟨_, ⟨_, _, _, e, _⟩, _⟩ := x; exact NU e
 | rng lo hi => obtain ⟨_, _, _, e⟩ := x; exact NU e
 | frz ob u => obtain ⟨e, _⟩ := x; exact NU e
 | tbl ps => exact NU (show h.get? a = some _ from x)
 | met f y => exact NU (show h.get? a = some _ from x)
 | ext φ => obtain ⟨_, ⟨_, e⟩, _⟩ := x; exact NU e
theorem Paired.mapP {α β : Type} {F G : α -> β -> Prop} : ∀ {l₁ : List α} {l₂ : List β}, Paired F l₁ l₂ -> (∀ a b, F a b -> G a b) -> Paired G l₁ l₂
 | _, _, .nil, _ => .nil
 | _, _, .cons r t, f => .cons (f _ _ r) (Paired.mapP t f)
theorem ObjOk.stay (x : ObjOk P w H h a o) (k : ∀ b u, (b = a \/ H b = some (.own a)) -> h.get? b = some u -> h'.get? b = some u)
  (ho : ∀ b, H b = some (.own a) -> H' b = some (.own a)) (ht : ∀ b xs, H b = some (.tup xs) -> H' b = some (.tup xs)) : ObjOk P w H' h' a o := by
 induction o with
 | lst xs => obtain ⟨z, its, n, r, e⟩ := x; exact ⟨z, its, n, r, k _ _ (.inl rfl) e⟩
 | tup xs => obtain ⟨z, its, r, ob, e, c⟩ := x; exact ⟨z, its, r, ob, k _ _ (.inl rfl) e, c⟩
 | dK kvs => obtain ⟨z, y, vs, r, ob, es, ep, e, c⟩ := x; exact ⟨z, y, vs, r, ob, es, ep, k _ _ (.inl rfl) e, c⟩
 | dT kvs =>
  obtain ⟨z, y, xs, r, ob, es, ep, e, c⟩ := x
  exact ⟨z, y, xs, Paired.mapP r fun p q z => ⟨z.1, ht _ _ z.2.1, z.2.2⟩, ob, es, ep, k _ _ (.inl rfl) e, c⟩
 | set S n => obtain ⟨ob, es, ep, t, e, c⟩ := x; exact ⟨ob, es, ep, t, k _ _ (.inl rfl) e, c⟩
 | ins C dx fs =>
  obtain ⟨d, z, ne, e, mA, ⟨od, es, ep, e2, c⟩, r⟩ := x
  exact ⟨ho _ d, z, ne, k _ _ (.inl rfl) e, mA, ⟨od, es, ep, k _ _ (.inr d) e2, c⟩, r⟩
 | own y => obtain ⟨ob, e⟩ := x; exact ⟨ob, k _ _ (.inl rfl) e⟩
 | xd fs => obtain ⟨mA, ⟨od, es, ep, e, c⟩, r⟩ := x; exact ⟨mA, ⟨od, es, ep, k _ _ (.inl rfl) e, c⟩, r⟩
 | rng lo hi => obtain ⟨t, u, v, e⟩ := x; exact ⟨t, u, v, k _ _ (.inl rfl) e⟩
 | frz ob u ih => obtain ⟨e, q⟩ := x; exact ⟨k _ _ (.inl rfl) e, ih q⟩
 | tbl ps =>
  have e : h.get? a = some { cls := .none, data := .fields ps } := x
  show h'.get? a = some { cls := .none, data := .fields ps }
  exact k a _ (.inl rfl) e
 | met f y =>
  have e : h.get? a = some (W.methodObj (.ref f) (.ref y)) := x
  show h'.get? a = some (W.methodObj (.ref f) (.ref y))
  exact k a _ (.inl rfl) e
 | ext φ => obtain ⟨p, ⟨o, e⟩, st⟩ := x; exact ⟨st _ _ p fun o q => k _ _ (.inl rfl) q, ⟨o, k _ _ (.inl rfl) e⟩, st⟩
theorem HOk.lt (x : HOk P w H h) (e : H a = some o) : a < h.objs.size := (x a o e).lt
theorem HOk.fresh (x : HOk P w H h) (e : h.objs.size <= a) : H a = none := by
 cases q : H a with
 | none => rfl
 | some u => exact absurd (Ob (x.lt q) e) (Nat.lt_irrefl _)
theorem HOk.kept (x : HOk P w H h) (k : ∀ b u, h.get? b = some u -> h'.get? b = some u) : HOk P w H h' := fun a o e =>
 (x a o e).stay (fun b u _ q => k b u q) (fun _ q => q) fun _ _ q => q
theorem HOk.laid (x : HOk P w H h) (k : ∀ b u, h.get? b = some u -> h'.get? b = some u) (hp : h.objs.size <= a) (new : ObjOk P w (upd H a o) h' a o) : HOk P w (upd H a o) h' := fun b u e => by
 have hn := x.fresh hp
 by_cases hb : b = a
 ·subst hb; rw [a8] at e; cases e; exact new
 ·rw [a6 hb] at e
  exact (x b u e).stay (fun c v _ q => k c v q) (fun c q => by rw [a6 (bj q hn)]; exact q) fun c xs q => by rw [a6 (bj q hn)]; exact q
end
def Rd (H : Hp) (a : Addr) (u : HO) : Prop := H a = some u \/ ∃ o, H a = some (.frz o u)
theorem Rd.ok {P : Program} {w : World} {H : Hp} {h : Heap} {a : Addr} {u : HO} (r : Rd H a u) (x : HOk P w H h) : ObjOk P w H h a u := by
 rcases r with r | ⟨o, r⟩
 ·exact x a u r
 ·obtain ⟨_, q⟩ := x a _ r
  exact q
noncomputable def Mut : Option HO -> Prop
 | some (.lst _) => True
 | some (.dK _) => True
 | some (.dT _) => True
 | some (.set _ _) => True
 | some (.ins _ _ _) => True
 | some (.ext _) => True
 | _ => False
section
variable {P : Program} {w : World} {H : Hp} {h h' : Heap} {x e : Addr} {o' : HO}
theorem HOk.write (ok : HOk P w H h) (mu : Mut (H x)) (he : e = x \/ H e = some (.own x)) (k : ∀ b u, b ≠ e -> h.get? b = some u -> h'.get? b = some u) (heo : ∃ u, h'.get? e = some u)
  (new : ObjOk P w (upd H x o') h' x o') : HOk P w (upd H x o') h' := fun b u q => by
 have nown : ∀ c y, H c = some (.own y) -> c ≠ x := fun c y r z => by subst z; rw [r] at mu; exact mu
 have ntup : ∀ c xs, H c = some (.tup xs) -> c ≠ x := fun c xs r z => by subst z; rw [r] at mu; exact mu
 by_cases hb : b = x
 ·subst hb; rw [a8] at q; cases q; exact new
 ·rw [a6 hb] at q
  by_cases hbe : b = e
  ·have q' : H b = some (.own x) := by
    rcases he with z | z
    ·exact absurd (hbe.trans z) hb
    ·rw [hbe]; exact z
   rw [q] at q'; cases q'
   obtain ⟨v, hv⟩ := heo
   exact ⟨v, by rw [hbe]; exact hv⟩
  ·refine (ok b u q).stay (fun c v hc r => k c v ?_ r) (fun c r => by rw [a6 (nown c b r)]; exact r) fun c xs r => by rw [a6 (ntup c xs r)]; exact r
   rcases hc with rfl | hc
   ·exact hbe
   ·rintro rfl
    rcases he with z | z
    ·exact nown c b hc z
    ·rw [hc] at z; cases z; exact hb rfl
end
structure Un (fs ex : List Addr) (H H' : Hp) (h h' : Heap) : Prop where
 keep : ∀ b o, h.get? b = some o -> H b = none -> b ∉ fs -> b ∉ ex -> h'.get? b = some o
 slot : ∀ b o, h.get? b = some o -> H b = none -> b ∈ fs -> b ∉ ex -> ∃ sl, h'.get? b = some { o with slots := sl }
 free : ∀ b o, h.get? b = some o -> H b = none -> b ∉ ex -> H' b = none
 there : ∀ b o, h.get? b = some o -> b ∉ ex -> ∃ o', h'.get? b = some o'
 tups : ∀ b xs, H b = some (.tup xs) -> H' b = some (.tup xs)
 frzs : ∀ b o u, H b = some (.frz o u) -> H' b = some (.frz o u)
 tbls : ∀ b ps, H b = some (.tbl ps) -> ∃ more, H' b = some (.tbl (ps ++ more))
section
variable {fs fs' ex ex' : List Addr} {H H1 H2 : Hp} {h h1 h2 h' : Heap} {a x e : Addr} {o : HO}
theorem Un.any (u : Un fs ex H H1 h h1) {b : Addr} {ob : Obj} (q : h.get? b = some ob) (n : H b = none) (hx : b ∉ ex) : ∃ sl, h1.get? b = some { ob with slots := sl } := by
 by_cases hb : b ∈ fs
 ·exact u.slot b ob q n hb hx
 ·exact ⟨ob.slots, u.keep b ob q n hb hx⟩
theorem Un.trans (a : Un fs ex H H1 h h1) (b : Un fs ex H1 H2 h1 h2) : Un fs ex H H2 h h2 where
 keep := fun c ob q n hc hx => b.keep c ob (a.keep c ob q n hc hx) (a.free c ob q n hx) hc hx
 slot := fun c ob q n hc hx => by
  obtain ⟨sl, e1⟩ := a.slot c ob q n hc hx
  obtain ⟨sl', e2⟩ := b.slot c _ e1 (a.free c ob q n hx) hc hx
  exact ⟨sl', e2⟩
 free := fun c ob q n hx => by
  obtain ⟨o', e1⟩ := a.there c ob q hx
  exact b.free c o' e1 (a.free c ob q n hx) hx
 there := fun c ob q hx => by
  obtain ⟨o', e1⟩ := a.there c ob q hx
  exact b.there c o' e1 hx
 tups := fun c xs q => b.tups c xs (a.tups c xs q)
 frzs := fun c ob xs q => b.frzs c ob xs (a.frzs c ob xs q)
 tbls := fun c ps q => by
  obtain ⟨m1, e1⟩ := a.tbls c ps q
  obtain ⟨m2, e2⟩ := b.tbls c _ e1
  exact ⟨m1 ++ m2, by rw [e2, Array.append_assoc]⟩
theorem Un.kept (k : ∀ b u, h.get? b = some u -> h'.get? b = some u) : Un fs ex H H h h' :=
 ⟨fun b ob q _ _ _ => k b ob q, fun b ob q _ _ _ => ⟨ob.slots, k b ob q⟩, fun _ _ _ n _ => n, fun b ob q _ => ⟨ob, k b ob q⟩, fun _ _ q => q, fun _ _ _ q => q, fun _ ps q => ⟨#[], by rw [q]; simp⟩⟩
theorem Un.refl : Un fs ex H H h h := Un.kept fun _ _ q => q
theorem Un.laid (k : ∀ b u, h.get? b = some u -> h'.get? b = some u) (hp : h.objs.size <= a) (hn : H a = none) : Un fs ex H (upd H a o) h h' where
 keep := fun b u q _ _ _ => k b u q
 slot := fun b u q _ _ _ => ⟨u.slots, k b u q⟩
 free := fun b u q n _ => by rw [a6 (N5 (Ob (NU q) hp))]; exact n
 there := fun b u q _ => ⟨u, k b u q⟩
 tups := fun b xs q => by rw [a6 (bj q hn)]; exact q
 frzs := fun b u xs q => by rw [a6 (bj q hn)]; exact q
 tbls := fun b ps q => ⟨#[], by rw [a6 (bj q hn), q]; simp⟩
theorem Un.write (mu : Mut (H x)) (he : e = x \/ H e = some (.own x)) (k : ∀ b u, b ≠ e -> h.get? b = some u -> h'.get? b = some u) (heo : ∃ u, h'.get? e = some u) : Un fs ex H (upd H x o) h h' := by
 have hx : ∀ b, H b = none -> b ≠ x := fun b n z => by subst z; rw [n] at mu; exact mu
 have hb : ∀ b, H b = none -> b ≠ e := fun b n z => by
  subst z
  rcases he with r | r
  ·exact hx b n r
  ·rw [n] at r; cases r
 have hm : ∀ b u, H b = some u -> ¬ Mut (some u) -> b ≠ x := fun b u q nm z => by subst z; rw [q] at mu; exact nm mu
 refine ⟨fun b u q n _ _ => k b u (hb b n) q, fun b u q n _ _ => ⟨u.slots, k b u (hb b n) q⟩, fun b u q n _ => by rw [a6 (hx b n)]; exact n, fun b u q _ => ?_,
  fun b xs q => by rw [a6 (hm b _ q fun z => z)]; exact q, fun b u xs q => by rw [a6 (hm b _ q fun z => z)]; exact q, fun b ps q => ⟨#[], by rw [a6 (hm b _ q fun z => z), q]; simp⟩⟩
 by_cases hbe : b = e
 ·subst hbe; exact heo
 ·exact ⟨u, k b u hbe q⟩
end
noncomputable def trk (h : Heap) (H : Hp) : List Addr := (List.range h.objs.size).filter fun a => (H a).isSome
noncomputable def zD (h : Heap) (H : Hp) : Heap := W.hideAll h (trk h H)
theorem EY (h : Heap) (H : Hp) : (zD h H).objs.size = h.objs.size := W.hideAll_size _ _
theorem FU {h : Heap} {H : Hp} {b : Addr} {o : Obj} (e : h.get? b = some o) (n : H b = none) : (zD h H).get? b = some o :=
 W.hideAll_get _ e fun hm => by
  have q : (H b).isSome = true := (Ou.mp hm).2
  rw [n] at q; simp at q
theorem IE {h : Heap} {H : Hp} {b : Addr} {o : Obj} (e : (zD h H).get? b = some o) : h.get? b = some o /\ H b = none := by
 have e' : h.get? b = some o := W.of_hideAll (trk h H) e
 refine ⟨e', ?_⟩
 cases q : H b with
 | none => rfl
 | some x =>
  have hm : b ∈ trk h H := Ou.mpr ⟨List.mem_range.mpr (NU e'), by simp [q]⟩
  have z : (zD h H).get? b = none := W.hideAll_none (trk h H) hm
  rw [z] at e; cases e
noncomputable def HQ (g h : Heap) (L : Addr) : List (Addr × Obj) := (List.range h.objs.size).filterMap fun a => if a = L \/ (g.get? a).isSome = true then none else (h.get? a).map fun o => (a, o)
noncomputable def rest (g h : Heap) (L d : Addr) : List (Addr × Obj) := (HQ g h L).filter fun p => decide (p.1 ≠ d)
structure Mod (K : W.Frag) (mg : Str -> Option Value) (base : Heap) : Prop where
 kin : K.In base
 glob : base.Ns mainGlobals mg
 blt : ∃ mb, base.Ns builtinsNs mb /\ ∀ x : Str, x ≠ "__name__" -> mb x = bootBuiltins x
 nolimit : base.NoLimit
structure Cx where
 prog : Program
 w : World
 K : W.Frag
 mg : Str -> Option Value
 base : Heap
 A : Around
 N : List Str
 s₀ : Shared
 H₀ : Hp
 env : Env
 outer : List Env
 stack : List Env
 ex : List Addr
 fn : Str -> Bool
 calm : Bool
 pn : List (Addr × Obj)
 xe : Value -> Shared -> Prop
noncomputable def frs (l : List Env) : List Addr := l.filterMap (·.frame)
noncomputable abbrev Cx.fs (X : Cx) : List Addr := frs X.outer
def Vis (sc : Scope) (x : Str) : Prop := sc.names.lookup x = some .local \/ sc.names.lookup x = some .cell \/ sc.names.lookup x = some .free
def Loc (sc : Scope) (x : Str) : Prop := sc.names.lookup x = some .local \/ sc.names.lookup x = some .cell
def Mz (env : Env) (h : Heap) (m : Str -> Option Value) (x : Str) (u : Value) : Prop :=
 (env.kindOf x = some .local /\ m x = some u) \/ ((env.kindOf x = some .cell \/ env.kindOf x = some .free) /\ ∃ c, env.cells.lookup x = some c /\ h.IsCell c (some u))
structure Cx.Ok (X : Cx) : Prop where
 mod : Mod X.K X.mg X.base
 kind : X.env.scope.kind = .function
 glob : X.env.globals = mainGlobals
 blt : X.env.builtins = builtinsNs
 above : X.s₀.heap.objs.size <= X.env.locals
 inj : ∀ x y c, X.env.cells.lookup x = some c -> X.env.cells.lookup y = some c -> x = y
 has : ∀ x, (X.env.kindOf x = some .cell \/ X.env.kindOf x = some .free) -> ∃ c, X.env.cells.lookup x = some c
 cab : ∀ x c, X.fn x = true -> X.env.cells.lookup x = some c -> X.s₀.heap.objs.size <= c
 hd : X.calm = true -> X.A.handled = none
 frames : X.A.frames = some X.stack
 stk : X.stack = X.outer \/ (X.stack = X.env :: X.outer /\ X.env.frame = some X.env.locals)
 exf : ∀ b ∈ X.ex, b ≠ X.env.locals /\ ∀ x c, X.env.cells.lookup x = some c -> c ≠ b
 bs : ∀ b o, X.base.get? b = some o -> X.s₀.heap.get? b = some o /\ X.H₀ b = none
 bsz : X.base.objs.size <= X.s₀.heap.objs.size
 noex : ∀ b o, X.base.get? b = some o -> b ∉ X.ex
 exfs : ∀ b ∈ X.ex, b ∉ X.fs
 funs : X.s₀.heap.FunFrames X.base X.outer
 frf : ∀ b ∈ X.fs, X.H₀ b = none
structure Inv (X : Cx) (pins : List (Addr × Obj)) (σ : List (Option V)) (H : Hp) (s : Shared) : Prop where
 ok : X.Ok
 os : s.os = X.s₀.os
 bare : AllBare s.gens
 base : Un X.fs X.ex X.H₀ H X.s₀.heap s.heap
 loc : ∃ m, s.heap.Ns X.env.locals m /\ ∀ (i : Nat) (x : Str) (v : V), X.N[i]? = some x -> σ[i]? = some (some v) -> Vis X.env.scope x -> ∃ u, RelV v u /\ Mz X.env s.heap m x u
 cell : ∀ x c, X.env.cells.lookup x = some c -> ∃ v, s.heap.IsCell c v
 free : H X.env.locals = none
 freeC : ∀ x c, X.env.cells.lookup x = some c -> H c = none
 pin : ∀ p ∈ X.pn ++ pins, s.heap.get? p.1 = some p.2 /\ H p.1 = none /\ p.1 ≠ X.env.locals /\ p.1 ∉ X.fs /\ ∀ v, p.2.data ≠ .cell v
 hok : HOk X.prog X.w H s.heap
 len : σ.length = X.N.length
section
variable {X : Cx} {pins : List (Addr × Obj)} {σ : List (Option V)} {H H' : Hp} {s : Shared} {h' : Heap}
theorem Cx.Ok.nofr (ok : X.Ok) {b : Addr} {o : Obj} (e : X.base.get? b = some o) : b ∉ X.fs := fun hb => by
 have := (ok.funs.mem hb).1
 rw [e] at this; cases this
theorem Inv.bs (I : Inv X pins σ H s) : ∀ b o, X.base.get? b = some o -> s.heap.get? b = some o /\ H b = none := fun b o e =>
 ⟨I.base.keep b o (I.ok.bs b o e).1 (I.ok.bs b o e).2 (I.ok.nofr e) (I.ok.noex b o e), I.base.free b o (I.ok.bs b o e).1 (I.ok.bs b o e).2 (I.ok.noex b o e)⟩
theorem Inv.bk (I : Inv X pins σ H s) : ∀ b o, X.base.get? b = some o -> s.heap.get? b = some o := fun b o e => (I.bs b o e).1
theorem Inv.mod (I : Inv X pins σ H s) : Mod X.K X.mg X.base := I.ok.mod
theorem Inv.kIn (I : Inv X pins σ H s) : X.K.In s.heap := I.ok.mod.kin.keeps I.bk
theorem Inv.fr (I : Inv X pins σ H s) : ∃ m, Fr X.base X.env.locals s.heap m :=
 let ⟨m, hn, _⟩ := I.loc
 ⟨m, hn, I.bk, N6 I.ok.bsz I.ok.above⟩
theorem Inv.lt (I : Inv X pins σ H s) : X.env.locals < s.heap.objs.size := let ⟨_, hn, _⟩ := I.loc; hn.lt
theorem Inv.sz (I : Inv X pins σ H s) : X.s₀.heap.objs.size <= s.heap.objs.size := N6 I.ok.above (Om I.lt)
theorem Inv.nofs (I : Inv X pins σ H s) {a : Addr} (h : s.heap.objs.size <= a) : a ∉ X.fs := fun hb => by
 obtain ⟨_, o, ho, _⟩ := I.ok.funs.mem hb
 exact absurd (Ob (NU ho) (N6 I.sz h)) (Nat.lt_irrefl _)
theorem Inv.cne (I : Inv X pins σ H s) : ∀ x c, X.env.cells.lookup x = some c -> c ≠ X.env.locals := fun x c e z => by
 obtain ⟨v, o, ho, hd⟩ := I.cell x c e
 obtain ⟨m, ⟨o', es, ep, ho', hd', _⟩, _⟩ := I.loc
 rw [z, ho'] at ho; cases ho; rw [hd'] at hd; cases hd
theorem Inv.funs (I : Inv X pins σ H s) : s.heap.FunFrames X.base X.outer := by
 have all : ∀ (l : List Env), (∀ b ∈ frs l, b ∈ X.fs) -> X.s₀.heap.FunFrames X.base l -> s.heap.FunFrames X.base l := by
  intro l
  induction l with
  | nil => intro _ _; trivial
  | cons env r ih =>
   intro hs hl
   obtain ⟨hk, ⟨L, o, hf, hn, ho, hd⟩, hr⟩ := hl
   have hL : L ∈ X.fs := hs L (by unfold frs; rw [List.filterMap_cons, hf]; exact NL)
   obtain ⟨sl, e⟩ := I.base.slot L o ho (I.ok.frf L hL) hL fun z => I.ok.exfs L z hL
   exact ⟨hk, ⟨L, _, hf, hn, e, hd⟩, ih (fun b hb => hs b (by unfold frs; rw [List.filterMap_cons, hf]; exact NN _ hb)) hr⟩
 exact all X.outer (fun _ hb => hb) I.ok.funs
theorem Inv.stack (I : Inv X pins σ H s) : s.heap.FunFrames X.base X.stack := by
 rcases I.ok.stk with e | ⟨e, hf⟩
 ·rw [e]; exact I.funs
 ·rw [e]
  obtain ⟨m, hn, _⟩ := I.loc
  refine .cons (by rw [I.ok.kind]; decide) hf hn ?_ I.funs
  exact Heap.get?_none_of_le (N6 I.ok.bsz I.ok.above)
theorem Inv.stkSub (I : Inv X pins σ H s) : ∀ b ∈ frs X.stack, b ∈ X.env.locals :: X.fs := fun b hb => by
 rcases I.ok.stk with e | ⟨e, hf⟩
 ·rw [e] at hb; exact NN _ hb
 ·rw [e] at hb
  unfold frs at hb
  rw [List.filterMap_cons, hf] at hb
  exact hb
theorem Inv.stkFree (I : Inv X pins σ H s) : ∀ b ∈ frs X.stack, H b = none := fun b hb => by
 rcases NQ.mp (I.stkSub b hb) with e | hb
 ·rw [e]; exact I.free
 ·obtain ⟨_, o, ho, _⟩ := I.ok.funs.mem hb
  exact I.base.free b o ho (I.ok.frf b hb) fun z => I.ok.exfs b z hb
theorem Inv.step {g' : Array GenState} {t' : Nat} {d' : Drawn} {ch : List Addr} (I : Inv X pins σ H s)
  (hch : ∀ b ∈ ch, (b ∈ X.ex \/ X.s₀.heap.objs.size <= b) /\ b ≠ X.env.locals /\ (∀ x c, X.env.cells.lookup x = some c -> c ≠ b) /\ ∀ p ∈ X.pn ++ pins, p.1 ≠ b)
  (keep : ∀ b o, b ≠ X.env.locals -> b ∉ X.fs -> b ∉ ch -> s.heap.get? b = some o -> H b = none -> h'.get? b = some o)
  (slot : ∀ b o, b ≠ X.env.locals -> b ∈ X.fs -> b ∉ ch -> s.heap.get? b = some o -> H b = none -> ∃ sl, h'.get? b = some { o with slots := sl }) (free : ∀ b o, b ∉ ch -> s.heap.get? b = some o -> H b = none -> H' b = none)
  (there : ∀ b o, b ∉ ch -> s.heap.get? b = some o -> ∃ o', h'.get? b = some o')
  (tups : ∀ b xs, H b = some (.tup xs) -> H' b = some (.tup xs)) (frzs : ∀ b o u, H b = some (.frz o u) -> H' b = some (.frz o u)) (tbls : ∀ b ps, H b = some (.tbl ps) -> ∃ more, H' b = some (.tbl (ps ++ more)))
  (ns : ∀ m, s.heap.Ns X.env.locals m -> h'.Ns X.env.locals m) (hok : HOk X.prog X.w H' h') (hg : AllBare g') :
  Inv X pins σ H' { s with heap := h', gens := g', drawn := d', toks := t' } := by
 have neL : ∀ b o, X.s₀.heap.get? b = some o -> b ≠ X.env.locals := fun b o e => N5 (Ob (NU e) I.ok.above)
 have neC : ∀ b o, X.s₀.heap.get? b = some o -> b ∉ X.ex -> b ∉ ch := fun b o e hx hb => by
  rcases (hch b hb).1 with z | z
  ·exact hx z
  ·exact absurd (Ob (NU e) z) (Nat.lt_irrefl _)
 have cellK : ∀ x c, X.env.cells.lookup x = some c -> ∀ v, s.heap.IsCell c v -> h'.IsCell c v := fun x c e v hpt0 => by
  obtain ⟨o, ho, hd⟩ := hpt0
  have nch : c ∉ ch := fun z => (hch c z).2.2.1 x c e rfl
  by_cases hc : c ∈ X.fs
  ·obtain ⟨sl, q⟩ := slot c o (I.cne x c e) hc nch ho (I.freeC x c e)
   exact ⟨_, q, hd⟩
  ·exact ⟨o, keep c o (I.cne x c e) hc nch ho (I.freeC x c e), hd⟩
 refine ⟨I.ok, I.os, hg, ⟨fun b o e n hb hx => ?_, fun b o e n hb hx => ?_, fun b o e n hx => ?_, fun b o e hx => ?_, fun b xs e => tups b xs (I.base.tups b xs e), fun b o xs e => frzs b o xs (I.base.frzs b o xs e), fun b ps e => ?_⟩, ?_, fun x c e => ?_, ?_, fun x c e => ?_, fun p hp => ?_, hok, I.len⟩
 ·exact keep b o (neL b o e) hb (neC b o e hx) (I.base.keep b o e n hb hx) (I.base.free b o e n hx)
 ·obtain ⟨sl, e1⟩ := I.base.slot b o e n hb hx
  obtain ⟨sl', e2⟩ := slot b _ (neL b o e) hb (neC b o e hx) e1 (I.base.free b o e n hx)
  exact ⟨sl', e2⟩
 ·obtain ⟨o', e1⟩ := I.base.there b o e hx
  exact free b o' (neC b o e hx) e1 (I.base.free b o e n hx)
 ·obtain ⟨o', e1⟩ := I.base.there b o e hx
  exact there b o' (neC b o e hx) e1
 ·obtain ⟨m1, e1⟩ := I.base.tbls b ps e
  obtain ⟨m2, e2⟩ := tbls b _ e1
  exact ⟨m1 ++ m2, by rw [e2, Array.append_assoc]⟩
 ·obtain ⟨m, hn, hl⟩ := I.loc
  refine ⟨m, ns m hn, fun i x v e1 e2 e3 => ?_⟩
  obtain ⟨u, r, l⟩ := hl i x v e1 e2 e3
  refine ⟨u, r, ?_⟩
  rcases l with l | ⟨k, c, e, z⟩
  ·exact .inl l
  ·exact .inr ⟨k, c, e, cellK x c e _ z⟩
 ·obtain ⟨v, z⟩ := I.cell x c e
  exact ⟨v, cellK x c e v z⟩
 ·obtain ⟨m, ⟨o, _, _, ho, _⟩, _⟩ := I.loc
  exact free _ o (fun z => (hch _ z).2.1 rfl) ho I.free
 ·obtain ⟨v, o, ho, hd⟩ := I.cell x c e
  exact free c o (fun z => (hch c z).2.2.1 x c e rfl) ho (I.freeC x c e)
 ·obtain ⟨e, n, ne, nf, d⟩ := I.pin p hp
  have nch : p.1 ∉ ch := fun z => (hch p.1 z).2.2.2 p hp rfl
  exact ⟨keep p.1 p.2 ne nf nch e n, free p.1 p.2 nch e n, ne, nf, d⟩
theorem Inv.un {t' : Nat} (I : Inv X pins σ H s) (u : Un X.fs [] H H' s.heap h') (hok : HOk X.prog X.w H' h') : Inv X pins σ H' { s with heap := h', toks := t' } := by
 obtain ⟨m, ⟨o, es, ep, ho, r⟩, _⟩ := id I.loc
 obtain ⟨sl, hL⟩ := u.any ho I.free (by simp)
 exact I.step (g' := s.gens) (d' := s.drawn) (ch := []) (fun _ z => nomatch z) (fun b o _ hb _ e n => u.keep b o e n hb (by simp)) (fun b o _ hb _ e n => u.slot b o e n hb (by simp)) (fun b o _ e n => u.free b o e n (by simp)) (fun b o _ e => u.there b o e (by simp)) u.tups u.frzs u.tbls (fun m' hm => by
  obtain ⟨o', es', ep', ho', r'⟩ := hm
  rw [ho] at ho'; cases ho'
  exact ⟨_, es', ep', hL, r'⟩) hok I.bare
theorem Inv.call {g' : Array GenState} {t' : Nat} {d' : Drawn} {ch : List Addr} (I : Inv X pins σ H s) (u : Un (frs X.stack) ch H H' s.heap h') (hok : HOk X.prog X.w H' h') (hg : AllBare g')
  (hch : ∀ b ∈ ch, (b ∈ X.ex \/ X.s₀.heap.objs.size <= b) /\ b ≠ X.env.locals /\ (∀ x c, X.env.cells.lookup x = some c -> c ≠ b) /\ ∀ p ∈ X.pn ++ pins, p.1 ≠ b) :
  Inv X pins σ H' { s with heap := h', gens := g', drawn := d', toks := t' } := by
 obtain ⟨m, ⟨o, es, ep, ho, r⟩, _⟩ := id I.loc
 obtain ⟨sl, hL⟩ := u.any ho I.free fun z => (hch _ z).2.1 rfl
 exact I.step (ch := ch) hch (fun b o hL hb hc e n => u.keep b o e n (fun z => (NQ.mp (I.stkSub b z)).elim hL hb) hc) (fun b o _ _ hc e n => u.any e n hc) (fun b o hc e n => u.free b o e n hc) (fun b o hc e => u.there b o e hc) u.tups u.frzs u.tbls (fun m' hm => by
  obtain ⟨o', es', ep', ho', r'⟩ := hm
  rw [ho] at ho'; cases ho'
  exact ⟨_, es', ep', hL, r'⟩) hok hg
theorem Inv.turned {t' : Nat} {it : Addr} (I : Inv X pins σ H s) (k : ∀ b o, b ≠ it -> s.heap.get? b = some o -> h'.get? b = some o) (hn : H it = none) (hL : it ≠ X.env.locals)
  (h1 : it ∈ X.ex \/ X.s₀.heap.objs.size <= it) (h2 : ∀ x c, X.env.cells.lookup x = some c -> c ≠ it) (h3 : ∀ p ∈ X.pn ++ pins, p.1 ≠ it) : Inv X pins σ H { s with heap := h', toks := t' } := by
 have nit : ∀ b u, H b = some u -> b ≠ it := fun b u e z => by rw [z, hn] at e; cases e
 refine I.step (g' := s.gens) (d' := s.drawn) (ch := [it]) (fun b hb => ?_) (fun b o _ _ hc e _ => k b o (fun z => hc (by simp [z])) e) (fun b o _ _ hc e _ => ⟨o.slots, k b o (fun z => hc (by simp [z])) e⟩) (fun _ _ _ _ n => n)
  (fun b o hc e => ⟨o, k b o (fun z => hc (by simp [z])) e⟩) (fun _ _ e => e) (fun _ _ _ e => e) (fun b ps e => ⟨#[], by rw [e]; simp⟩) (fun m hm => ?_) (fun b u e => ?_) I.bare
 ·have e : b = it := by simpa using hb
  subst e
  exact ⟨h1, hL, h2, h3⟩
 ·obtain ⟨o, es, ep, ho, r⟩ := hm
  exact ⟨o, es, ep, k _ o (Oe hL) ho, r⟩
 ·refine (I.hok b u e).stay (fun c v hc q => k c v ?_ q) (fun _ q => q) fun _ _ q => q
  rcases hc with z | z
  ·rw [z]; exact nit b u e
  ·exact nit c _ z
theorem Inv.tok (I : Inv X pins σ H s) (t : Nat) : Inv X pins σ H { s with toks := t } := I.un (h' := s.heap) (t' := t) Un.refl I.hok
theorem Inv.kept {t' : Nat} (I : Inv X pins σ H s) (k : ∀ b u, s.heap.get? b = some u -> h'.get? b = some u) : Inv X pins σ H { s with heap := h', toks := t' } := I.un (Un.kept k) (I.hok.kept k)
theorem Inv.laid {a : Addr} {o : HO} {t' : Nat} (I : Inv X pins σ H s) (k : ∀ b u, s.heap.get? b = some u -> h'.get? b = some u) (hp : s.heap.objs.size <= a) (new : ObjOk X.prog X.w (upd H a o) h' a o) :
  Inv X pins σ (upd H a o) { s with heap := h', toks := t' } := I.un (Un.laid k hp (I.hok.fresh hp)) (I.hok.laid k hp new)
theorem Inv.write {x e : Addr} {o : HO} {t' : Nat} (I : Inv X pins σ H s) (mu : Mut (H x)) (he : e = x \/ H e = some (.own x)) (k : ∀ b u, b ≠ e -> s.heap.get? b = some u -> h'.get? b = some u) (heo : ∃ u, h'.get? e = some u)
  (new : ObjOk X.prog X.w (upd H x o) h' x o) : Inv X pins σ (upd H x o) { s with heap := h', toks := t' } := I.un (Un.write mu he k heo) (I.hok.write mu he k heo new)
theorem Inv.weak {σ' : List (Option V)} (I : Inv X pins σ H s) (hl : σ'.length = σ.length) (w : ∀ (i : Nat) v, σ'[i]? = some (some v) -> σ[i]? = some (some v)) : Inv X pins σ' H s :=
 ⟨I.ok, I.os, I.bare, I.base, let ⟨m, hn, hl'⟩ := I.loc; ⟨m, hn, fun i x v e1 e2 e3 => hl' i x v e1 (w i v e2) e3⟩, I.cell, I.free, I.freeC, I.pin, I.hok, hl.trans I.len⟩
theorem Inv.pins_of {pins' : List (Addr × Obj)} (I : Inv X pins σ H s) (h : ∀ p ∈ pins', s.heap.get? p.1 = some p.2 /\ H p.1 = none /\ p.1 ≠ X.env.locals /\ p.1 ∉ X.fs /\ ∀ v, p.2.data ≠ .cell v) : Inv X pins' σ H s :=
 ⟨I.ok, I.os, I.bare, I.base, I.loc, I.cell, I.free, I.freeC, fun p hp => (NM.mp hp).elim (fun z => I.pin p (NR _ z)) (h p), I.hok, I.len⟩
theorem Bx {N : List Str} (hN : N.Nodup) {i j : Nat} {x : Str} (a : N[i]? = some x) (b : N[j]? = some x) : i = j := by
 obtain ⟨h1, e1⟩ := Og.mp a
 obtain ⟨h2, e2⟩ := Og.mp b
 exact (List.getElem_inj hN).mp (e1.trans e2.symm)
theorem DD {M : Model} {A : Around} {E : Value -> Shared -> Prop} {i : Nat} {x : Str} {v : V} {u : Value} {Q : Unit -> Shared -> Prop} (I : Inv X pins σ H s) (hN : X.N.Nodup) (hi : X.N[i]? = some x) (hx : Loc X.env.scope x) (r : RelV v u)
  (h : ∀ s', Inv X pins (σ.set i (some v)) H s' -> (∃ a, Heap.SameBut a s.heap s'.heap /\ (a = X.env.locals \/ X.env.cells.lookup x = some a)) -> Q () s') (hf : X.fn x = true \/ X.env.scope.names.lookup x = some .local := by first | exact .inl rfl | exact .inr rfl | assumption) : wpAny M A (storeName X.env x u) Q E s := by
 obtain ⟨m, hn, hl⟩ := id I.loc
 have hcls : (X.env.scope.kind == .class || (X.env.scope.kind == .module && X.env.locals != X.env.globals)) = false := by rw [I.ok.kind]; rfl
 have hiσ : i < σ.length := by rw [I.len]; exact (Og.mp hi).1
 have cne := I.cne
 have tracked : ∀ {a : Addr} {h' : Heap}, (∃ o, s.heap.get? a = some o /\ H a = none) -> Heap.SameBut a s.heap h' -> HOk X.prog X.w H h' := fun {a h'} ha hs b ob e => by
  obtain ⟨_, _, hfree⟩ := ha
  refine (I.hok b ob e).stay (fun c w' hc q => (hs.2 c ?_).trans q) (fun _ q => q) fun _ _ q => q
  rintro rfl
  rcases hc with rfl | hc
  ·rw [hfree] at e; cases e
  ·rw [hfree] at hc; cases hc
 rcases hx with hk | hk
 ·refine wpAny_storeName_local hk hn (fun h' hn' hs => ?_) hcls
  obtain ⟨oL, _, _, hoL, _⟩ := id hn
  refine h _ ⟨I.ok, I.os, I.bare, ⟨fun b o e n hb hx => ?_, fun b o e n hb hx => ?_, I.base.free, fun b o e hx => ?_, I.base.tups, I.base.frzs, I.base.tbls⟩, ⟨_, hn', fun j y v' e1 e2 e3 => ?_⟩, fun y c e => ?_, I.free, I.freeC, fun p hp => ?_, tracked ⟨oL, hoL, I.free⟩ hs, by simpa using I.len⟩ ⟨_, hs, .inl rfl⟩
  ·exact (hs.2 b (N5 (Ob (NU e) I.ok.above))).trans (I.base.keep b o e n hb hx)
  ·obtain ⟨sl, e1⟩ := I.base.slot b o e n hb hx
   exact ⟨sl, (hs.2 b (N5 (Ob (NU e) I.ok.above))).trans e1⟩
  ·obtain ⟨o', e1⟩ := I.base.there b o e hx
   exact ⟨o', (hs.2 b (N5 (Ob (NU e) I.ok.above))).trans e1⟩
  ·by_cases hj : j = i
   ·subst hj
    rw [hi] at e1; cases e1
    rw [OD hiσ] at e2
    cases e2
    exact ⟨u, r, .inl ⟨hk, by simp⟩⟩
   ·rw [Oq (Oe hj)] at e2
    obtain ⟨u', r', q⟩ := hl j y v' e1 e2 e3
    refine ⟨u', r', ?_⟩
    rcases q with ⟨k, e⟩ | ⟨k, c, e, z⟩
    ·refine .inl ⟨k, ?_⟩
     have : y ≠ x := fun e => hj (Bx hN e1 (e ▸ hi))
     simp [this, e]
    ·exact .inr ⟨k, c, e, z.sameBut hs (cne y c e)⟩
  ·obtain ⟨w', z⟩ := I.cell y c e
   exact ⟨w', z.sameBut hs (cne y c e)⟩
  ·obtain ⟨e, n, ne, nf, d⟩ := I.pin p hp
   exact ⟨(hs.2 p.1 ne).trans e, n, ne, nf, d⟩
 ·have hfn : X.fn x = true := by
   rcases hf with z | z
   ·exact z
   ·rw [z] at hk; cases hk
  obtain ⟨c, hc⟩ := I.ok.has x (.inl hk)
  obtain ⟨w', z⟩ := I.cell x c hc
  refine wpAny_storeName_cell I.ok.kind hk hc z (fun h' hc' hs => ?_)
  obtain ⟨oc, hoc, hocd⟩ := id z
  refine h { s with heap := h' } ⟨I.ok, I.os, I.bare, ⟨fun b o e n hb hx => ?_, fun b o e n hb hx => ?_, I.base.free, fun b o e hx => ?_, I.base.tups, I.base.frzs, I.base.tbls⟩, ⟨m, hn.sameBut hs (Oe (cne x c hc)), fun j y v' e1 e2 e3 => ?_⟩, fun y c' e => ?_, I.free, I.freeC, fun p hp => ?_, tracked ⟨oc, hoc, I.freeC x c hc⟩ hs, by simpa using I.len⟩ ⟨c, hs, .inr hc⟩
  ·exact (hs.2 b (N5 (Ob (NU e) (I.ok.cab x c hfn hc)))).trans (I.base.keep b o e n hb hx)
  ·obtain ⟨sl, e1⟩ := I.base.slot b o e n hb hx
   exact ⟨sl, (hs.2 b (N5 (Ob (NU e) (I.ok.cab x c hfn hc)))).trans e1⟩
  ·obtain ⟨o', e1⟩ := I.base.there b o e hx
   exact ⟨o', (hs.2 b (N5 (Ob (NU e) (I.ok.cab x c hfn hc)))).trans e1⟩
  ·by_cases hj : j = i
   ·subst hj
    rw [hi] at e1; cases e1
    rw [OD hiσ] at e2
    cases e2
    exact ⟨u, r, .inr ⟨.inl hk, c, hc, hc'⟩⟩
   ·rw [Oq (Oe hj)] at e2
    obtain ⟨u', r', q⟩ := hl j y v' e1 e2 e3
    refine ⟨u', r', ?_⟩
    rcases q with q | ⟨k, c', e, z'⟩
    ·exact .inl q
    ·refine .inr ⟨k, c', e, z'.sameBut hs ?_⟩
     rintro rfl
     exact hj (Bx hN e1 (I.ok.inj _ _ _ e hc ▸ hi))
  ·by_cases hcc : c' = c
   ·subst hcc; exact ⟨_, hc'⟩
   ·obtain ⟨w2, z2⟩ := I.cell y c' e
    exact ⟨w2, z2.sameBut hs hcc⟩
  ·obtain ⟨e, n, ne, nf, d⟩ := I.pin p hp
   refine ⟨(hs.2 p.1 ?_).trans e, n, ne, nf, d⟩
   intro q
   rw [q, hoc] at e
   have q' : oc = p.2 := Oc e
   exact d w' (by rw [<- q']; exact hocd)
theorem vQ {M : Model} {A : Around} {E : Value -> Shared -> Prop} {i : Nat} {x : Str} {v : V} {u : Value} {Q : Unit -> Shared -> Prop} (I : Inv X pins σ H s) (hN : X.N.Nodup) (hi : X.N[i]? = some x) (hx : Loc X.env.scope x) (r : RelV v u)
  (h : ∀ s', Inv X pins (σ.set i (some v)) H s' -> Q () s') (hf : X.fn x = true \/ X.env.scope.names.lookup x = some .local := by first | exact .inl rfl | exact .inr rfl | assumption) : wpAny M A (storeName X.env x u) Q E s :=
 DD I hN hi hx r (fun s' I' _ => h s' I') hf
theorem Inv.call' {s' : Shared} {ch : List Addr} (I : Inv X pins σ H s) (ho : s'.os = s.os) (u : Un (frs X.stack) ch H H' s.heap s'.heap) (hok : HOk X.prog X.w H' s'.heap) (hg : AllBare s'.gens)
  (hch : ∀ b ∈ ch, (b ∈ X.ex \/ X.s₀.heap.objs.size <= b) /\ b ≠ X.env.locals /\ (∀ x c, X.env.cells.lookup x = some c -> c ≠ b) /\ ∀ p ∈ X.pn ++ pins, p.1 ≠ b) : Inv X pins σ H' s' := by
 obtain ⟨h', g', d', t', o'⟩ := s'
 have e : o' = s.os := ho
 subst e
 exact I.call (g' := g') (t' := t') (d' := d') u hok hg hch
end
noncomputable abbrev XK := Value -> Option Addr -> Hp -> Prop
noncomputable abbrev St := List (Option V)
noncomputable abbrev VK := V -> Hp -> Prop
noncomputable abbrev TE := St -> Hp -> VK -> Prop
noncomputable abbrev TT := St -> Hp -> (Bool -> Hp -> Prop) -> Prop
noncomputable abbrev TA := St -> Hp -> (List V -> Hp -> Prop) -> Prop
structure Ends where
 nx : St -> Hp -> Prop
 rt : VK
 bk : St -> Hp -> Prop := fun _ _ => False
 ct : St -> Hp -> Prop := fun _ _ => False
noncomputable abbrev TS := Ends -> St -> Hp -> Prop
def EP (X : Cx) (pins : List (Addr × Obj)) (σ : St) (Q : VK) (u : Value) (s' : Shared) : Prop := ∃ v H', Inv X pins σ H' s' /\ RelV v u /\ Q v H'
def TP (X : Cx) (pins : List (Addr × Obj)) (σ : St) (Q : Bool -> Hp -> Prop) (b : Bool) (s' : Shared) : Prop := ∃ H', Inv X pins σ H' s' /\ Q b H'
def AP (X : Cx) (pins : List (Addr × Obj)) (σ : St) (Q : List V -> Hp -> Prop) (us : List Value) (s' : Shared) : Prop := ∃ vs H', Inv X pins σ H' s' /\ Vals vs us /\ Q vs H'
def SP (X : Cx) (pins : List (Addr × Obj)) (D : Ends) (f : Flow) (s' : Shared) : Prop :=
 match f with
 | .next => ∃ σ' H', Inv X pins σ' H' s' /\ D.nx σ' H'
 | .brk => ∃ σ' H', Inv X pins σ' H' s' /\ D.bk σ' H'
 | .cont => ∃ σ' H', Inv X pins σ' H' s' /\ D.ct σ' H'
 | .ret u => ∃ v σ' H', Inv X pins σ' H' s' /\ RelV v u /\ D.rt v H'
def PE (X : Cx) (e : Expr) (t : TE) : Prop :=
 ∀ (pins : List (Addr × Obj)) (s : Shared) (σ : St) (H : Hp) (Q : VK), Inv X pins σ H s -> t σ H Q -> wpAny (model X.prog X.w) X.A (eval e X.env) (EP X pins σ Q) X.xe s
def PT (X : Cx) (e : Expr) (t : TT) : Prop :=
 ∀ (pins : List (Addr × Obj)) (s : Shared) (σ : St) (H : Hp) (Q : Bool -> Hp -> Prop), Inv X pins σ H s -> t σ H Q -> wpAny (model X.prog X.w) X.A (isTrue e X.env (eval e X.env)) (TP X pins σ Q) X.xe s
def PW (X : Cx) (e : Expr) (t : TT) : Prop :=
 ∀ (whole : Sem Value) (pins : List (Addr × Obj)) (s : Shared) (σ : St) (H : Hp) (Q : Bool -> Hp -> Prop), Inv X pins σ H s -> t σ H Q -> wpAny (model X.prog X.w) X.A (isTrue e X.env whole) (TP X pins σ Q) X.xe s
theorem PW.pt {X : Cx} {e : Expr} {t : TT} (h : PW X e t) : PT X e t := h _
def PA (X : Cx) (es : List Expr) (t : TA) : Prop :=
 ∀ (pos : Pos) (pins : List (Addr × Obj)) (s : Shared) (σ : St) (H : Hp) (Q : List V -> Hp -> Prop), Inv X pins σ H s -> t σ H Q -> wpAny (model X.prog X.w) X.A (spliced (backTo pos (starEach es X.env))) (AP X pins σ Q) X.xe s
def PS (X : Cx) (st : Stmt) (t : TS) : Prop :=
 ∀ (pins : List (Addr × Obj)) (s : Shared) (σ : St) (H : Hp) (D : Ends), Inv X pins σ H s -> t D σ H -> wpAny (model X.prog X.w) X.A (exec st X.env) (SP X pins D) X.xe s
def PSs (X : Cx) (st : List Stmt) (t : TS) : Prop :=
 ∀ (pins : List (Addr × Obj)) (s : Shared) (σ : St) (H : Hp) (D : Ends), Inv X pins σ H s -> t D σ H -> wpAny (model X.prog X.w) X.A (execs st X.env) (SP X pins D) X.xe s
theorem thn {α : Type} {t : Sem α} {Q Q' : α -> Shared -> Prop} {M : Model} {A : Around} {E : Value -> Shared -> Prop} {s : Shared} (h : wpAny M A t Q E s) (hQ : ∀ a s, Q a s -> Q' a s) : wpAny M A t Q' E s := wpAny_mono h hQ fun _ _ x => x
section
variable {X : Cx}
noncomputable def ut (i : Nat) : TE := fun σ H Q => ∃ v, σ[i]? = some (some v) /\ Q v H
noncomputable def tC (v : V) : TE := fun _ H Q => Q v H
theorem JF {i : Nat} {x : Str} {pos : Pos} (hN : X.N[i]? = some x) (hv : Vis X.env.scope x) (hd : (x == ("__debug__" : Str)) = false := by decide) (hcd : (x == ("__classdict__" : Str)) = false := by decide) : PE X (.Name x pos) (ut i) := by
 intro pins s σ H Q I h
 obtain ⟨v, e, h⟩ := h
 obtain ⟨m, hn, hl⟩ := I.loc
 obtain ⟨u, r, l⟩ := hl i x v hN e hv
 have fin : EP X pins σ Q u s := ⟨v, H, I, r, h⟩
 rcases l with ⟨hk, hm⟩ | ⟨hk, c, hc, hcell⟩
 ·exact wpAny_Name (wpAny_loadName_local I.ok.kind hk hn hm fin) hd
 ·rcases hk with hk | hk
  ·exact wpAny_Name (wpAny_loadName_cell I.ok.kind hk hc hcell fin) hd
  ·exact wpAny_Name (wpAny_loadName_free I.ok.kind hk hc hcell fin hcd) hd
theorem ah {i j pos} : PE X (.Constant (.int i) j pos) (tC (.int i)) := fun _ _ _ H _ I h => wpAny_Constant_int ⟨.int i, H, I.tok _, ⟨_, rfl⟩, h⟩
theorem Bv {b j pos} : PE X (.Constant (.bool b) j pos) (tC (.bl b)) := fun _ _ _ H _ I h => Constant_bool ⟨.bl b, H, I, rfl, h⟩
def Gl (X : Cx) (x : Str) : Prop := X.env.kindOf x = some .globalImplicit
theorem zd {E : Value -> Shared -> Prop} {pins : List (Addr × Obj)} {s : Shared} {σ : St} {H : Hp} {x : Str} {u : Value} {pos : Pos} {Q : Value -> Shared -> Prop} (I : Inv X pins σ H s) (hg : Gl X x) (hm : X.mg x = some u) (h : Q u s)
  (hd : (x == ("__debug__" : Str)) = false := by decide) : wpAny (model X.prog X.w) X.A (eval (.Name x pos) X.env) Q E s :=
 Calls.Name_function_global I.ok.kind hg (Calls.loadGlobal_global (by rw [I.ok.glob]; exact I.mod.glob.keeps I.bk) hm h) hd
theorem sQ {E : Value -> Shared -> Prop} {pins : List (Addr × Obj)} {s : Shared} {σ : St} {H : Hp} {x : Str} {u : Value} {pos : Pos} {Q : Value -> Shared -> Prop} (I : Inv X pins σ H s) (hg : Gl X x) (hm : X.mg x = none) (hv : bootBuiltins x = some u) (h : Q u s)
  (hn : x ≠ "__name__" := by decide) (hd : (x == ("__debug__" : Str)) = false := by decide) : wpAny (model X.prog X.w) X.A (eval (.Name x pos) X.env) Q E s := by
 obtain ⟨mb, h1, h2⟩ := I.mod.blt
 exact Calls.Name_function_global I.ok.kind hg (Calls.loadGlobal_builtin (by rw [I.ok.glob]; exact I.mod.glob.keeps I.bk) hm (by rw [I.ok.blt]; exact h1.keeps I.bk) ((h2 x hn).trans hv) h) hd
theorem zt {x : Str} {v : V} {u : Value} {pos : Pos} (hg : Gl X x) (hm : X.mg x = some u) (r : RelV v u) (hd : (x == ("__debug__" : Str)) = false := by decide) : PE X (.Name x pos) (tC v) :=
 fun _ _ _ H _ I h => zd I hg hm ⟨v, H, I, r, h⟩ hd
theorem u6 {x : Str} {v : V} {u : Value} {pos : Pos} (hg : Gl X x) (hm : X.mg x = none) (hv : bootBuiltins x = some u) (r : RelV v u) (hn : x ≠ "__name__" := by decide) (hd : (x == ("__debug__" : Str)) = false := by decide) : PE X (.Name x pos) (tC v) :=
 fun _ _ _ H _ I h => sQ I hg hm hv ⟨v, H, I, r, h⟩ hn hd
variable {a b : Expr} {ta tb : TE} {pos : Pos}
noncomputable def tB (t : TE) : TT := fun σ H Q => t σ H fun x H1 => ∃ c, x = .bl c /\ Q c H1
variable {tA tB' : TT} {rest : List Expr}
noncomputable def Lu (t u : TT) : TT := fun σ H Q => t σ H fun c H1 => if c = true then u σ H1 Q else Q false H1
noncomputable def tOr (t u : TT) : TT := fun σ H Q => t σ H fun c H1 => if c = true then Q true H1 else u σ H1 Q
noncomputable def KO (t : TT) : TT := fun σ H Q => t σ H fun c H1 => Q (!c) H1
theorem ve (ha : PT X a tA) : PW X (.BoolOp .And [a] pos) tA := by
 intro wh pins s σ H Q I h
 refine isTrue_and (thn (ha pins s σ H Q I h) fun c s1 e => ?_)
 cases c with
 | true => exact isTrue_and_nil e
 | false => exact e
theorem zc (ha : PT X a tA) : PW X (.BoolOp .Or [a] pos) tA := by
 intro wh pins s σ H Q I h
 refine isTrue_or (thn (ha pins s σ H Q I h) fun c s1 e => ?_)
 cases c with
 | false => exact isTrue_or_nil e
 | true => exact e
theorem we (ha : PT X a tA) (hb : PW X (.BoolOp .And (b :: rest) pos) tB') : PW X (.BoolOp .And (a :: b :: rest) pos) (Lu tA tB') := by
 intro wh pins s σ H Q I h
 refine isTrue_and (thn (ha pins s σ H _ I h) fun c s1 hpt9 => ?_)
 obtain ⟨H1, I1, q1⟩ := hpt9
 cases c with
 | true => exact hb wh pins s1 σ H1 Q I1 q1
 | false => exact ⟨H1, I1, q1⟩
theorem xR (ha : PT X a tA) (hb : PW X (.BoolOp .Or (b :: rest) pos) tB') : PW X (.BoolOp .Or (a :: b :: rest) pos) (tOr tA tB') := by
 intro wh pins s σ H Q I h
 refine isTrue_or (thn (ha pins s σ H _ I h) fun c s1 hpt9 => ?_)
 obtain ⟨H1, I1, q1⟩ := hpt9
 cases c with
 | true => exact ⟨H1, I1, q1⟩
 | false => exact hb wh pins s1 σ H1 Q I1 q1
theorem kT (ha : PT X a tA) : PT X (.UnaryOp .Not a pos) (KO tA) := by
 intro pins s σ H Q I h
 exact isTrue_not (ha pins s σ H (fun c H1 => Q (!c) H1) I h)
noncomputable def Jd (ta tb : TE) : TE := fun σ H Q => ta σ H fun x H1 => ∃ c, x = .bl c /\ if c = true then tb σ H1 Q else Q (.bl false) H1
theorem Kc {op} {t : TE} (h : PE X a t) : PE X (.BoolOp op [a] pos) t := fun pins s σ H Q I hw => BoolOp_one (h pins s σ H Q I hw)
theorem Jp (ha : PE X a ta) (hb : PE X (.BoolOp .And (b :: rest) pos) tb) : PE X (.BoolOp .And (a :: b :: rest) pos) (Jd ta tb) := by
 intro pins s σ H Q I h
 refine BoolOp_and (thn (ha pins s σ H _ I h) fun v s1 hpt9 => ?_)
 obtain ⟨x, H1, I1, r1, q1⟩ := hpt9
 obtain ⟨c, rfl, q1⟩ := q1
 cases r1
 refine wpAny_truthy_bool ?_
 cases c with
 | true => exact hb pins s1 σ H1 Q I1 q1
 | false => exact ⟨.bl false, H1, I1, rfl, q1⟩
end
def SqL (K : W.Frag) (H : Hp) (a : Addr) (xs : List V) : Prop :=
 Rd H a (.lst xs) \/
  ∃ (o : Obj) (its : Array Value) (n : Nat), K.lookup a = some o /\ o.cls = .type "list" /\ o.dict = none /\ o.data = .seq its n /\ its.size <= sizeLine /\ Vals xs its.toList
def SqT (K : W.Frag) (H : Hp) (a : Addr) (xs : List V) : Prop :=
 Rd H a (.tup xs) \/
  ∃ (o : Obj) (its : Array Value) (n : Nat), K.lookup a = some o /\ o.cls = .type "tuple" /\ o.data = .seq its n /\ its.size <= sizeLine /\ Vals xs its.toList
noncomputable def Mb : Value -> Option V
 | .none => some .non
 | .bool b => some (.bl b)
 | .int i _ => some (.int i)
 | .str x _ => some (.str x)
 | .bytes b _ => some (.byt b)
 | .float b _ => some (.flt b)
 | .ref a => some (.ref a)
 | .type n => some (.ty n)
 | _ => none
theorem RelV.abs {x : V} {u : Value} (r : RelV x u) : Mb u = some x := by
 cases x with
 | non => cases r; rfl
 | bl _ => cases r; rfl
 | int _ => obtain ⟨t, rfl⟩ := r; rfl
 | str _ => obtain ⟨t, rfl⟩ := r; rfl
 | byt _ => obtain ⟨t, rfl⟩ := r; rfl
 | flt _ => obtain ⟨t, rfl⟩ := r; rfl
 | ref _ => cases r; rfl
 | ty _ => cases r; rfl
theorem RelV.inj {x y : V} {u : Value} (r : RelV x u) (q : RelV y u) : x = y := Oc (r.abs.symm.trans q.abs)
theorem Vals.inj {xs ys : List V} {us : List Value} (h : Vals xs us) (k : Vals ys us) : xs = ys := by
 induction h generalizing ys with
 | nil => cases k; rfl
 | cons r t ih =>
  cases k with
  | cons r' t' => rw [r.inj r', ih t']
section
variable {X : Cx} {pins : List (Addr × Obj)} {σ : St} {H : Hp} {s : Shared} {a : Addr} {xs ys : List V}
theorem SqL.of {K : W.Frag} (h : H a = some (.lst xs)) : SqL K H a xs := .inl (.inl h)
theorem SqT.of {K : W.Frag} (h : H a = some (.tup xs)) : SqT K H a xs := .inl (.inl h)
theorem Inv.list (I : Inv X pins σ H s) (h : SqL X.K H a xs) : ∃ its : List Value, Vals xs its /\ PlainL s.heap a its.toArray /\ xs.length <= sizeLine := by
 rcases h with h | ⟨o, its, n, hk, hc, hd, hs, hz, r⟩
 ·obtain ⟨z, its, n, r, e⟩ := h.ok I.hok
  exact ⟨its, r, ⟨_, n, e, rfl, rfl, rfl⟩, z⟩
 ·refine ⟨its.toList, r, ⟨o, n, I.kIn a o hk, hc, hd, by simpa using hs⟩, ?_⟩
  have e := r.length
  simp only [Ox] at e
  lia
theorem Inv.tuple (I : Inv X pins σ H s) (h : SqT X.K H a xs) : ∃ its : List Value, Vals xs its /\ IsTup s.heap a its.toArray /\ xs.length <= sizeLine := by
 rcases h with h | ⟨o, its, n, hk, hc, hs, hz, r⟩
 ·obtain ⟨z, its, r, p⟩ := h.ok I.hok
  exact ⟨its, r, p, z⟩
 ·refine ⟨its.toList, r, ⟨o, I.kIn a o hk, hc, n, by simpa using hs⟩, ?_⟩
  have e := r.length
  simp only [Ox] at e
  lia
theorem Inv.list_inj (I : Inv X pins σ H s) (h : SqL X.K H a xs) (h' : SqL X.K H a ys) : xs = ys := by
 obtain ⟨its, r, ⟨o, n, e, _, _, d⟩, _⟩ := I.list h
 obtain ⟨its', r', ⟨o', n', e', _, _, d'⟩, _⟩ := I.list h'
 rw [e] at e'; cases e'
 rw [d] at d'
 injection d' with d1 _
 have : its = its' := by simpa using congrArg Array.toList d1
 subst this
 exact r.inj r'
theorem Inv.tuple_inj (I : Inv X pins σ H s) (h : SqT X.K H a xs) (h' : SqT X.K H a ys) : xs = ys := by
 obtain ⟨its, r, ⟨o, e, _, n, d⟩, _⟩ := I.tuple h
 obtain ⟨its', r', ⟨o', e', _, n', d'⟩, _⟩ := I.tuple h'
 rw [e] at e'; cases e'
 rw [d] at d'
 injection d' with d1 _
 have : its = its' := by simpa using congrArg Array.toList d1
 subst this
 exact r.inj r'
end
noncomputable abbrev Cx.wish (X : Cx) (E : Value -> Shared -> Prop) : Cx := { X with xe := E }
noncomputable abbrev Cx.nox (X : Cx) : Cx := X.wish fun _ _ => False
theorem Cx.Ok.wish {X : Cx} (ok : X.Ok) (E : Value -> Shared -> Prop) : (X.wish E).Ok :=
 ⟨ok.mod, ok.kind, ok.glob, ok.blt, ok.above, ok.inj, ok.has, ok.cab, ok.hd, ok.frames, ok.stk, ok.exf, ok.bs, ok.bsz, ok.noex, ok.exfs, ok.funs, ok.frf⟩
theorem Cx.Ok.unwish {X : Cx} {E : Value -> Shared -> Prop} (ok : (X.wish E).Ok) : X.Ok :=
 ⟨ok.mod, ok.kind, ok.glob, ok.blt, ok.above, ok.inj, ok.has, ok.cab, ok.hd, ok.frames, ok.stk, ok.exf, ok.bs, ok.bsz, ok.noex, ok.exfs, ok.funs, ok.frf⟩
section
variable {X : Cx} {pins : List (Addr × Obj)} {σ : St} {H : Hp} {s : Shared} {E : Value -> Shared -> Prop}
theorem Inv.wish (I : Inv X pins σ H s) (E : Value -> Shared -> Prop) : Inv (X.wish E) pins σ H s := ⟨I.ok.wish E, I.os, I.bare, I.base, I.loc, I.cell, I.free, I.freeC, I.pin, I.hok, I.len⟩
theorem Inv.unwish (I : Inv (X.wish E) pins σ H s) : Inv X pins σ H s := ⟨I.ok.unwish, I.os, I.bare, I.base, I.loc, I.cell, I.free, I.freeC, I.pin, I.hok, I.len⟩
theorem SP.unwish {D : Ends} {f : Flow} {s' : Shared} (h : SP (X.wish E) pins D f s') : SP X pins D f s' := by
 cases f with
 | next => obtain ⟨σ', H', I, q⟩ := h; exact ⟨σ', H', I.unwish, q⟩
 | brk => obtain ⟨σ', H', I, q⟩ := h; exact ⟨σ', H', I.unwish, q⟩
 | cont => obtain ⟨σ', H', I, q⟩ := h; exact ⟨σ', H', I.unwish, q⟩
 | ret u => obtain ⟨v, σ', H', I, r, q⟩ := h; exact ⟨v, σ', H', I.unwish, r, q⟩
theorem PSs.nox {st : List Stmt} {t : TS} (h : PSs X.nox st t) : PSs X st t := fun pins s σ H D I hw =>
 wpAny_mono (h pins s σ H D (I.wish _) hw) (fun _ _ q => q.unwish) fun _ _ z => False.elim z
end
section
variable {X : Cx} {st : Stmt} {rest : List Stmt} {t u : TS} {e : Expr} {te : TE} {pos : Pos}
noncomputable def Fj : TS := fun D σ H => D.nx σ H
noncomputable def J4 (t u : TS) : TS := fun D σ H => t { D with nx := u D } σ H
theorem eK : PSs X [] Fj := fun _ _ σ H _ I h => wpAny_execs_nil ⟨σ, H, I, h⟩
theorem aw (h1 : PS X st t) (h2 : PSs X rest u) : PSs X (st :: rest) (J4 t u) := by
 intro pins s σ H D I h
 refine wpAny_execs_cons (thn (h1 pins s σ H { D with nx := u D } I h) fun f s1 q => ?_)
 cases f with
 | next =>
  obtain ⟨σ', H', I', q⟩ := q
  exact h2 pins s1 σ' H' D I' q
 | ret v => exact q
 | brk => exact q
 | cont => exact q
theorem aA (h1 : PS X st t) : PSs X [st] t := by
 intro pins s σ H D I h
 refine wpAny_execs_cons (thn (h1 pins s σ H D I h) fun f s1 q => ?_)
 cases f with
 | next => exact wpAny_execs_nil q
 | ret v => exact q
 | brk => exact q
 | cont => exact q
theorem Inv.quiet {pins : List (Addr × Obj)} {σ : St} {H : Hp} {s : Shared} (I : Inv X pins σ H s) : interactive X.env = false := by simp [interactive, I.ok.kind]
noncomputable def yO (te : TE) : TS := fun D σ H => te σ H fun _ H1 => D.nx σ H1
theorem eM (he : PE X e te) (hs : swapsWith e none pos.line X.env = pure false := by rfl) : PS X (.Expr e pos) (yO te) := by
 intro pins s σ H D I h
 exact wpAny_Expr_any (thn (he pins s σ H _ I h) fun v s1 ⟨x, H1, I1, r1, q1⟩ => ⟨σ, H1, I1, q1⟩) I.quiet hs
noncomputable def J7 (te : TE) : TS := fun D σ H => te σ H D.rt
theorem bT (he : PE X e te) : PS X (.Return (some e) pos) (J7 te) := by
 intro pins s σ H D I h
 exact wpAny_Return_some (thn (he pins s σ H _ I h) fun v s1 ⟨x, H1, I1, r1, q1⟩ => ⟨x, σ, H1, I1, r1, q1⟩)
noncomputable def Ke (c : TT) (t u : TS) : TS := fun D σ H => c σ H fun b H1 => if b = true then t D σ H1 else u D σ H1
theorem gU {c : Expr} {a b : List Stmt} {tc : TT} (hc : PT X c tc) (ha : PSs X a t) (hb : PSs X b u) : PS X (.If c a b pos) (Ke tc t u) := by
 intro pins s σ H D I h
 refine wpAny_If (thn (hc pins s σ H _ I h) fun d s1 hpt9 => ?_)
 obtain ⟨H1, I1, q1⟩ := hpt9
 cases d with
 | true => exact ha pins s1 σ H1 D I1 q1
 | false => exact hb pins s1 σ H1 D I1 q1
noncomputable def E8 : TS := fun _ _ _ => False
theorem sE {sts : List Stmt} : PSs X sts E8 := fun _ _ _ _ _ _ h => h.elim
end
noncomputable abbrev TG := V -> St -> Hp -> (St -> Hp -> Prop) -> Prop
noncomputable abbrev TGs := List V -> St -> Hp -> (St -> Hp -> Prop) -> Prop
def PG (X : Cx) (target : Expr) (t : TG) : Prop :=
 ∀ (pins : List (Addr × Obj)) (s : Shared) (σ : St) (H : Hp) (v : V) (u : Value) (Q : St -> Hp -> Prop), Inv X pins σ H s -> RelV v u -> t v σ H Q ->
  wpAny (model X.prog X.w) X.A (assign target X.env u) (fun _ s' => ∃ σ' H', Inv X pins σ' H' s' /\ Q σ' H') X.xe s
def PGs (X : Cx) (ts : List Expr) (t : TGs) : Prop :=
 ∀ (pins : List (Addr × Obj)) (s : Shared) (σ : St) (H : Hp) (vs : List V) (us : List Value) (Q : St -> Hp -> Prop), Inv X pins σ H s -> Vals vs us -> t vs σ H Q ->
  wpAny (model X.prog X.w) X.A (assignInOrder ((assignEach ts X.env).map (·.2)) us) (fun _ s' => ∃ σ' H', Inv X pins σ' H' s' /\ Q σ' H') X.xe s
noncomputable abbrev Jy := V -> V -> V -> Hp -> (Hp -> Prop) -> Prop
def Lp (X : Cx) (t : Jy) : Prop :=
 ∀ (pins : List (Addr × Obj)) (s : Shared) (σ : St) (H : Hp) (o i v : V) (ov iv u : Value) (Q : Hp -> Prop), Inv X pins σ H s -> RelV o ov -> RelV i iv -> RelV v u -> t o i v H Q ->
  wpAny (model X.prog X.w) X.A (setItem ov iv u) (fun _ s' => ∃ H', Inv X pins σ H' s' /\ Q H') X.xe s
noncomputable abbrev TIp := V -> V -> Hp -> VK -> Prop
def PIp (X : Cx) (op : Operator) (t : TIp) : Prop :=
 ∀ (pins : List (Addr × Obj)) (s : Shared) (σ : St) (H : Hp) (x y : V) (v u : Value) (Q : VK), Inv X pins σ H s -> RelV x v -> RelV y u -> t x y H Q ->
  wpAny (model X.prog X.w) X.A (inplaceOp op v u) (EP X pins σ Q) X.xe s
section
variable {X : Cx} {pos : Pos}
noncomputable def nK (i : Nat) : TG := fun v σ H Q => Q (σ.set i (some v)) H
theorem aB {i : Nat} {x : Str} (hN : X.N.Nodup) (hi : X.N[i]? = some x) (hx : Loc X.env.scope x) (hf : X.fn x = true \/ X.env.scope.names.lookup x = some .local := by first | exact .inl rfl | exact .inr rfl | assumption) : PG X (.Name x pos) (nK i) := by
 intro pins s σ H v u Q I r h
 exact wpAny_assign_Name (vQ I hN hi hx r (fun s' I' => ⟨_, H, I', h⟩) hf)
noncomputable def JD : TGs := fun vs σ H Q => vs = [] /\ Q σ H
noncomputable def G3 (t : TG) (u : TGs) : TGs := fun vs σ H Q => ∃ v r, vs = v :: r /\ t v σ H fun σ' H' => u r σ' H' Q
theorem dA : PGs X [] JD := by
 intro pins s σ H vs us Q I r h
 obtain ⟨e, h⟩ := h
 subst e
 cases r
 exact assignInOrder_nil ⟨σ, H, I, h⟩
theorem aD {e : Expr} {es : List Expr} {t : TG} {u : TGs} (h1 : PG X e t) (h2 : PGs X es u)
  (hs : (assignEach (e :: es) X.env).map (·.2) = assign e X.env :: (assignEach es X.env).map (·.2) := by rfl) : PGs X (e :: es) (G3 t u) := by
 intro pins s σ H vs us Q I r h
 obtain ⟨v, vr, e1, h⟩ := h
 subst e1
 cases r with
 | cons r rr =>
  rw [hs]
  refine assignInOrder_cons (thn (h1 pins s σ H _ _ _ I r h) fun _ s1 hpt9 => ?_)
  obtain ⟨σ1, H1, I1, q1⟩ := hpt9
  exact h2 pins s1 σ1 H1 _ _ Q I1 rr q1
noncomputable def JN (K : W.Frag) (n : Nat) (t : TGs) : TG := fun v σ H Q => ∃ a xs, v = .ref a /\ SqT K H a xs /\ xs.length = n /\ t xs σ H Q
theorem fk {es : List Expr} {k : Nat} {t : TGs} {n : Nat} (hc : X.calm = true) (h : PGs X es t)
  (hn : (assignEach es X.env).length = n := by rfl) (hst : (assignEach es X.env).findIdx? (·.1) = none := by rfl) : PG X (.Tuple es k pos) (JN X.K n t) := by
 intro pins s σ H v u Q I r hw
 obtain ⟨a, xs, e1, hq, hl, hw⟩ := hw
 subst e1
 cases r
 obtain ⟨its, rv, ht, hz⟩ := I.tuple hq
 refine assign_Tuple_tuple (I.ok.hd hc) ht (by simp [hn, <- hl, rv.length]) hst fun h' hx => ?_
 have I1 : Inv X pins σ H { s with heap := h' } := I.kept (t' := s.toks) fun b o e => hx b o (N5 (NU e)) e
 exact h pins _ σ H xs _ Q I1 (by simpa using rv) hw
noncomputable def KS (to ti : TE) (t : Jy) : TG := fun v σ H Q => to σ H fun o H1 => ti σ H1 fun i H2 => t o i v H2 fun H3 => Q σ H3
theorem Fs {o i : Expr} {to ti : TE} {t : Jy} (ho : PE X o to) (hi : PE X i ti) (hs : Lp X t)
  (ha : ∀ v, assign (.Subscript o i pos) X.env v = (do
   let ov ← holding [v] (eval o X.env)
   let iv ← holding [v, ov] (eval i X.env)
   standAt pos
   holding [v, ov, iv] (setItem ov iv v)
   release [v, ov, iv] []) := by intro _; rfl) : PG X (.Subscript o i pos) (KS to ti t) := by
 intro pins s σ H v u Q I r h
 rw [ha]
 refine NH (OB (thn (ho pins s σ H _ I h) fun ov s1 hpt9 => ?_))
 obtain ⟨x, H1, I1, r1, q1⟩ := hpt9
 refine NH (OB (thn (hi pins s1 σ H1 _ I1 q1) fun iv s2 hpt9 => ?_))
 obtain ⟨y, H2, I2, r2, q2⟩ := hpt9
 refine NH (wpAny_standAt (NH (OB (thn (hs pins s2 σ H2 x y v ov iv u _ I2 r1 r2 r q2) fun _ s3 hpt9 => ?_))))
 obtain ⟨H3, I3, q3⟩ := hpt9
 exact wpAny_release ⟨σ, H3, I3, q3⟩
noncomputable def A6 (te : TE) (g : TG) : TS := fun D σ H => te σ H fun x H1 => g x σ H1 D.nx
theorem FK {tg e : Expr} {te : TE} {g : TG} (he : PE X e te) (hg : PG X tg g) (hs : swapsWithSole [tg] e pos.line X.env = pure false := by rfl) (hw : swappedStores [tg] e X.env = pure none := by rfl)
  (h1 : (assignEach [tg] X.env).map (·.2) = [assign tg X.env] := by rfl) : PS X (.Assign [tg] e pos) (A6 te g) := by
 intro pins s σ H D I h
 refine wpAny_Assign_stores (thn (he pins s σ H _ I h) fun v s1 hpt9 => ?_) hs hw
 obtain ⟨x, H1, I1, r1, q1⟩ := hpt9
 rw [h1]
 exact thn (hg pins s1 σ H1 x v _ I1 r1 q1) fun _ s2 q => q
theorem bv {i : Nat} {x : Str} {e : Expr} {te : TE} {pos' : Pos} (hN : X.N.Nodup) (hi : X.N[i]? = some x) (hx : Loc X.env.scope x) (he : PE X e te) (hs : swapsWith e (some (.Name x pos')) pos.line X.env = pure false := by rfl) (hf : X.fn x = true \/ X.env.scope.names.lookup x = some .local := by first | exact .inl rfl | exact .inr rfl | assumption) :
  PS X (.Assign [.Name x pos'] e pos) (A6 te (nK i)) := by
 intro pins s σ H D I h
 refine wpAny_Assign_Name (thn (he pins s σ H _ I h) fun v s1 hpt9 => ?_) hs
 obtain ⟨y, H1, I1, r1, q1⟩ := hpt9
 exact vQ I1 hN hi hx r1 (fun s2 I2 => ⟨_, H1, I2, q1⟩) hf
noncomputable def KP (i : Nat) (te : TE) (ti : TIp) : TS := fun D σ H => ∃ x, σ[i]? = some (some x) /\ te σ H fun y H1 => ti x y H1 fun z H2 => D.nx (σ.set i (some z)) H2
theorem J9 {i : Nat} {x : Str} {e : Expr} {te : TE} {op : Operator} {ti : TIp} {pos' : Pos} (hN : X.N.Nodup) (hi : X.N[i]? = some x) (hx : Loc X.env.scope x) (he : PE X e te) (ho : PIp X op ti) (hf : X.fn x = true \/ X.env.scope.names.lookup x = some .local := by first | exact .inl rfl | exact .inr rfl | assumption) :
  PS X (.AugAssign (.Name x pos') op e pos) (KP i te ti) := by
 intro pins s σ H D I h
 obtain ⟨v, e1, h⟩ := h
 obtain ⟨m, hn, hl⟩ := I.loc
 have vis : Vis X.env.scope x := by rcases hx with k | k; exact .inl k; exact .inr (.inl k)
 obtain ⟨u, r, l⟩ := hl i x v hi e1 vis
 refine wpAny_AugAssign_Name ?_
 have go : wpAny (model X.prog X.w) X.A (eval e X.env) (fun w s₂ => wpAny (model X.prog X.w) X.A (inplaceOp op u w) (fun r s₃ => wpAny (model X.prog X.w) X.A (storeName X.env x r) (fun _ => SP X pins D .next) X.xe s₃) X.xe s₂) X.xe s := by
  refine thn (he pins s σ H _ I h) fun w s1 hpt9 => ?_
  obtain ⟨y, H1, I1, r1, q1⟩ := hpt9
  refine thn (ho pins s1 σ H1 v y u w _ I1 r r1 q1) fun z s2 hpt9 => ?_
  obtain ⟨zv, H2, I2, r2, q2⟩ := hpt9
  exact vQ I2 hN hi hx r2 (fun s3 I3 => ⟨_, H2, I3, q2⟩) hf
 rcases l with ⟨hk, hm⟩ | ⟨hk, c, hc, hcell⟩
 ·exact wpAny_loadName_local I.ok.kind hk hn hm go
 ·rcases hk with hk | hk
  ·exact wpAny_loadName_cell I.ok.kind hk hc hcell go
  ·rcases hx with k | k
   ·have : X.env.scope.names.lookup x = some .free := hk
    rw [k] at this; cases this
   ·have : X.env.scope.names.lookup x = some .free := hk
    rw [k] at this; cases this
noncomputable def ipI (f : Int -> Int -> Int) : TIp := fun x y H Q => ∃ i j, x = .int i /\ y = .int j /\ Q (.int (f i j)) H
theorem Kh : PIp X .Add (ipI fun i j => i + j) := by
 intro pins s σ H x y v u Q I r1 r2 h
 obtain ⟨i, j, e1, e2, q⟩ := h
 subst e1; subst e2
 obtain ⟨t, rfl⟩ := r1
 obtain ⟨t', rfl⟩ := r2
 exact iadd_int ⟨.int _, H, I.tok _, ⟨_, rfl⟩, q⟩
end
section
variable {X : Cx} {pos : Pos}
noncomputable def GJ (c : TT) (tb : TS) : TS := fun D σ H => ∃ W : Nat -> St -> Hp -> Prop, (∃ m, W m σ H) /\ ∀ m σ H, W m σ H ->
 c σ H fun b H1 => if b = true then ∃ N : St -> Hp -> Prop, (∀ σ' H', N σ' H' -> ∃ m', m' < m /\ W m' σ' H') /\ tb { D with nx := N, ct := N, bk := D.nx } σ H1 else D.nx σ H1
theorem G1 {c : Expr} {body : List Stmt} {tc : TT} {tb : TS} (hp : PassesOwn (model X.prog X.w) X.A X.env X.xe) (hc : PT X c tc) (hb : PSs X body tb) : PS X (.While c body [] pos) (GJ tc tb) := by
 intro pins s σ H D I h
 obtain ⟨W, ⟨m0, w0⟩, turn⟩ := h
 refine wpAny_While (codeAny_whileLoop (fun n s' => ∃ σ' H', Inv X pins σ' H' s' /\ W n σ' H') ?_ m0 ⟨σ, H, I, w0⟩)
 rintro n s1 ⟨σ1, H1, I1, w1⟩
 refine wpAny_passesOwn hp (thn (hc pins s1 σ1 H1 _ I1 (turn n σ1 H1 w1)) fun b s2 hpt9 => ?_)
 obtain ⟨H2, I2, q2⟩ := hpt9
 cases b with
 | true =>
  obtain ⟨N, hN, q2⟩ := q2
  rw [NF rfl]
  refine wpAny_passesOwn hp (thn (hb pins s2 σ1 H2 _ I2 q2) fun f s3 q3 => ?_)
  cases f with
  | next =>
   obtain ⟨σ3, H3, I3, n3⟩ := q3
   obtain ⟨m', hm, w3⟩ := hN σ3 H3 n3
   exact ⟨m', hm, σ3, H3, I3, w3⟩
  | cont =>
   obtain ⟨σ3, H3, I3, n3⟩ := q3
   obtain ⟨m', hm, w3⟩ := hN σ3 H3 n3
   exact ⟨m', hm, σ3, H3, I3, w3⟩
  | brk => exact q3
  | ret v => exact q3
 | false =>
  rw [NG OC]
  exact wpAny_execs_nil ⟨σ1, H2, I2, q2⟩
end
structure It where
 go : Nat -> Hp -> Prop
 yld : Nat -> Hp -> V -> Hp -> Prop
 stop : Nat -> Hp -> Prop
def sf (X : Cx) (pins : List (Addr × Obj)) (H : Hp) (b : Addr) : Prop :=
 H b = none /\ b ≠ X.env.locals /\ b ∉ X.fs /\ (b ∈ X.ex \/ X.s₀.heap.objs.size <= b) /\ (∀ x c, X.env.cells.lookup x = some c -> c ≠ b) /\ ∀ p ∈ X.pn ++ pins, p.1 ≠ b
theorem Inv.fpOk {X : Cx} {pins : List (Addr × Obj)} {σ : St} {H H' : Hp} {s : Shared} {b : Addr} (I : Inv X pins σ H s) (hb : s.heap.objs.size <= b) (hn : H' b = none) : sf X pins H' b := by
 refine ⟨hn, Nat.ne_of_gt (Ob I.lt hb), I.nofs hb, .inr (N6 I.sz hb), fun x c e z => ?_, fun p hp z => ?_⟩
 ·obtain ⟨v, q⟩ := I.cell x c e
  exact absurd (Ob q.lt (by rw [z]; exact hb)) (Nat.lt_irrefl _)
 ·exact absurd (Ob (NU (I.pin p hp).1) (by rw [z]; exact hb)) (Nat.lt_irrefl _)
structure Turn (P : Program) (w : World) (K : W.Frag) (tg : Expr) (J : It) (fp : List Addr) (it : Addr) (tn : Nat -> Heap -> Prop) : Prop where
 mem : it ∈ fp
 obj : ∀ i h, tn i h -> ∀ b ∈ fp, ∃ o, h.get? b = some o /\ ∀ v, o.data ≠ .cell v
 keep : ∀ i h h', tn i h -> (∀ b ∈ fp, ∀ o, h.get? b = some o -> h'.get? b = some o) -> tn i h'
 item : ∀ (X : Cx), X.prog = P -> X.w = w -> X.K = K -> X.calm = true -> ∀ (i : Nat) (pins : List (Addr × Obj)) (s : Shared) (σ : St) (H : Hp) (E : Value -> Shared -> Prop), Inv X pins σ H s -> (∀ b ∈ fp, sf X pins H b) -> tn i s.heap -> J.go i H ->
  wpAny (model P w) X.A (pyNext (.ref it)) (fun r s1 => ∃ u, r = some u /\
   wpAny (model P w) X.A (letOwnedTupleGo tg (.ref it) u) (fun _ s2 => ∃ x H', Inv X pins σ H' s2 /\ RelV x u /\ J.yld i H x H' /\ tn (i + 1) s2.heap /\ ∀ b ∈ fp, H' b = none) E s1) E s
 done : ∀ (X : Cx), X.prog = P -> X.w = w -> X.K = K -> X.calm = true -> ∀ (i : Nat) (pins : List (Addr × Obj)) (s : Shared) (σ : St) (H : Hp) (E : Value -> Shared -> Prop), Inv X pins σ H s -> (∀ b ∈ fp, sf X pins H b) -> tn i s.heap -> J.stop i H ->
  wpAny (model P w) X.A (pyNext (.ref it)) (fun r s1 => r = none /\ Inv X pins σ H s1) E s
 self : ∀ (A : Around) (i : Nat) (s : Shared) (Q : Value -> Shared -> Prop) (E : Value -> Shared -> Prop), tn i s.heap -> Q (.ref it) s -> wpAny (model P w) A (pyIter (.ref it)) Q E s
noncomputable abbrev TI := St -> Hp -> (It -> Hp -> Prop) -> Prop
def PIE (X : Cx) (pins : List (Addr × Obj)) (σ : St) (tg : Expr) (R : It -> Hp -> Prop) (itv : Value) (s2 : Shared) : Prop :=
 ∃ (it : Addr) (fp : List Addr) (tn : Nat -> Heap -> Prop) (J : It) (H' : Hp), itv = .ref it /\ Inv X pins σ H' s2 /\ Turn X.prog X.w X.K tg J fp it tn /\ tn 0 s2.heap /\ (∀ b ∈ fp, sf X pins H' b) /\ R J H'
def PI (X : Cx) (tg iter : Expr) (wi : TI) : Prop :=
 ∀ (pins : List (Addr × Obj)) (s : Shared) (σ : St) (H : Hp) (R : It -> Hp -> Prop), Inv X pins σ H s -> wi σ H R ->
  wpAny (model X.prog X.w) X.A (eval iter X.env) (fun v s1 => wpAny (model X.prog X.w) X.A (pyIter v) (PIE X pins σ tg R) X.xe s1) X.xe s
theorem CS {M : Model} {A : Around} {E : Value -> Shared -> Prop} {s : Shared} {tg : Expr} {it : Addr} {u : Value} {o : Obj} {n : String} {vs : Array Value} {Q : Unit -> Shared -> Prop} (ho : s.heap.get? it = some o) (hc : o.cls = .type n) (hd : o.data = .fields vs)
  (hn : ["enumerate", "zip", "dict_itemiterator", "dict_reverseitemiterator", "odict_iterator", "itertools.zip_longest", "itertools.pairwise"].contains n = false) (hQ : Q () s) : wpAny M A (letOwnedTupleGo tg (.ref it) u) Q E s := by
 unfold letOwnedTupleGo
 cases tg <;> first
  | exact NJ hQ
  | (cases u <;> first
    | exact NJ hQ
    | (refine NH (wpAny_load ho ?_)
       rw [hc, hd]
       show wpAny M A (if (["enumerate", "zip", "dict_itemiterator", "dict_reverseitemiterator", "odict_iterator", "itertools.zip_longest", "itertools.pairwise"].contains n && vs[0]? == some (rawInt _)) = true then _ else _) Q E s
       rw [NG (by intro h; rw [hn, Bool.false_and] at h; cases h)]
       exact NJ hQ))
noncomputable def Itl (K : W.Frag) (a : Addr) : It :=
 ⟨fun i H => ∃ xs x, SqL K H a xs /\ xs[i]? = some x, fun i H x H' => H' = H /\ ∀ xs, SqL K H a xs -> xs[i]? = some x, fun i H => ∃ xs, SqL K H a xs /\ xs.length <= i⟩
noncomputable def Itt (K : W.Frag) (a : Addr) : It :=
 ⟨fun i H => ∃ xs x, SqT K H a xs /\ xs[i]? = some x, fun i H x H' => H' = H /\ ∀ xs, SqT K H a xs -> xs[i]? = some x, fun i H => ∃ xs, SqT K H a xs /\ xs.length <= i⟩
noncomputable def Itr (lo : Int) (n : Nat) : It := ⟨fun i _ => i < n, fun i H x H' => H' = H /\ x = .int (lo + i), fun i _ => n <= i⟩
theorem DT {P : Program} {w : World} {K : W.Frag} {tg : Expr} (a it : Addr) : Turn P w K tg (Itl K a) [it] it (fun i h => h.IsListIter it a i) where
 mem := by simp
 obj := fun i h st b hb => by
  have e : b = it := by simpa using hb
  subst e
  obtain ⟨o, e, c, d⟩ := st
  exact ⟨o, e, fun v z => by rw [d] at z; cases z⟩
 keep := fun i h h' st k => st.at fun o e => k it (by simp) o e
 item := by
  intro X hP hw hK hc i pins s σ H E I hf st hg
  subst hP hw hK
  obtain ⟨xs, x, hq, hx⟩ := hg
  obtain ⟨its, rv, p, hz⟩ := I.list hq
  obtain ⟨u, hu, ru⟩ := rv.get hx
  obtain ⟨f0, f1, f2, f3, f4, f5⟩ := hf it (by simp)
  refine wpAny_pyNext_list_item st p.isList (x := u) (by simpa using hu) fun h' st' sb => ?_
  have I1 : Inv X pins σ H { s with heap := h' } := I.turned (t' := s.toks) (fun b o hb e => (sb.2 b hb).trans e) f0 f1 f3 f4 f5
  obtain ⟨o, e, c, d⟩ := id st'
  exact ⟨u, rfl, CS (s := { s with heap := h' }) e c d (by decide) ⟨x, H, I1, ru, ⟨rfl, fun ys hy => by rw [I.list_inj hy hq]; exact hx⟩, st', fun b hb => (hf b hb).1⟩⟩
 done := by
  intro X hP hw hK hc i pins s σ H E I hf st hg
  subst hP hw hK
  obtain ⟨xs, hq, hx⟩ := hg
  obtain ⟨its, rv, p, hz⟩ := I.list hq
  obtain ⟨f0, f1, f2, f3, f4, f5⟩ := hf it (by simp)
  have hl := rv.length
  exact wpAny_pyNext_list_end (I.ok.hd hc) st p.isList (by simp; lia) fun h' eb => ⟨rfl, I.turned (t' := s.toks) (fun b o hb e => eb b o hb e) f0 f1 f3 f4 f5⟩
 self := fun _ _ _ _ _ st h => wpAny_pyIter_listiter st h
theorem Cw {P : Program} {w : World} {K : W.Frag} {tg : Expr} (a it : Addr) : Turn P w K tg (Itt K a) [it] it (fun i h => h.IsTupleIter it a i) where
 mem := by simp
 obj := fun i h st b hb => by
  have e : b = it := by simpa using hb
  subst e
  obtain ⟨o, e, c, d⟩ := st
  exact ⟨o, e, fun v z => by rw [d] at z; cases z⟩
 keep := fun i h h' st k => st.at fun o e => k it (by simp) o e
 item := by
  intro X hP hw hK hc i pins s σ H E I hf st hg
  subst hP hw hK
  obtain ⟨xs, x, hq, hx⟩ := hg
  obtain ⟨its, rv, p, hz⟩ := I.tuple hq
  obtain ⟨u, hu, ru⟩ := rv.get hx
  obtain ⟨f0, f1, f2, f3, f4, f5⟩ := hf it (by simp)
  refine wpAny_pyNext_tuple_item st (show s.heap.IsTuple a its.toArray from p) (x := u) (by simpa using hu) fun h' st' sb => ?_
  have I1 : Inv X pins σ H { s with heap := h' } := I.turned (t' := s.toks) (fun b o hb e => (sb.2 b hb).trans e) f0 f1 f3 f4 f5
  obtain ⟨o, e, c, d⟩ := id st'
  exact ⟨u, rfl, CS (s := { s with heap := h' }) e c d (by decide) ⟨x, H, I1, ru, ⟨rfl, fun ys hy => by rw [I.tuple_inj hy hq]; exact hx⟩, st', fun b hb => (hf b hb).1⟩⟩
 done := by
  intro X hP hw hK hc i pins s σ H E I hf st hg
  subst hP hw hK
  obtain ⟨xs, hq, hx⟩ := hg
  obtain ⟨its, rv, p, hz⟩ := I.tuple hq
  obtain ⟨f0, f1, f2, f3, f4, f5⟩ := hf it (by simp)
  have hl := rv.length
  exact wpAny_pyNext_tuple_end (I.ok.hd hc) st (show s.heap.IsTuple a its.toArray from p) (by simp; lia) fun h' eb => ⟨rfl, I.turned (t' := s.toks) (fun b o hb e => eb b o hb e) f0 f1 f3 f4 f5⟩
 self := fun _ _ _ _ _ st h => wpAny_pyIter_tupleiter st h
theorem BP {P : Program} {w : World} {K : PySem.W.Frag} {tg : Expr} (it : Addr) (lo : Int) (n : Nat) : Turn P w K tg (Itr lo n) [it] it (fun i h => IsRangeIter h it (lo + (i : Nat) * 1) ((n : Int) - (i : Nat)) 1) where
 mem := by simp
 obj := fun i h st b hb => by
  have e : b = it := by simpa using hb
  subst e
  exact ⟨_, st, fun v z => by
   have z' : Data.fields _ = Data.cell v := z
   cases z'⟩
 keep := fun i h h' st k => k it (by simp) _ st
 item := by
  intro X hP hw hK hc i pins s σ H E I hf st hg
  subst hP hw hK
  obtain ⟨f0, f1, f2, f3, f4, f5⟩ := hf it (by simp)
  have W := Walks.range (prog := X.prog) (w := X.w) (I.ok.hd hc) it lo 1 n
  refine W.item i s _ _ hg st fun v h' tk hv st' kk => ?_
  obtain ⟨t, rfl⟩ := hv
  have I1 : Inv X pins σ H { s with heap := h', toks := tk } := I.turned (fun b o hb e => kk b o (by simpa using hb) e) f0 f1 f3 f4 f5
  refine ⟨_, rfl, CS (s := { s with heap := h', toks := tk }) (n := "range_iterator") st' rfl rfl (by decide) ⟨.int (lo + i), H, I1, ⟨t, ?_⟩, ⟨rfl, rfl⟩, st', fun b hb => (hf b hb).1⟩⟩
  rw [Int.mul_one]
 done := by
  intro X hP hw hK hc i pins s σ H E I hf st hg
  subst hP hw hK
  obtain ⟨f0, f1, f2, f3, f4, f5⟩ := hf it (by simp)
  exact wpAny_pyNext_range_end (I.ok.hd hc) st (by have : n <= i := hg; lia) fun h' eb => ⟨rfl, I.turned (t' := s.toks) (fun b o hb e => eb b o hb e) f0 f1 f3 f4 f5⟩
 self := fun _ _ _ _ _ st h => wpAny_pyIter_rangeiter st h
section
variable {X : Cx} {tg : Expr}
theorem A5 {pins : List (Addr × Obj)} {σ : St} {H : Hp} {s : Shared} {R : It -> Hp -> Prop} {E : Value -> Shared -> Prop} {lo hi : Int} {t u v : Tok} {tk : Nat} (I : Inv X pins σ H s) (h1 : -(2 ^ 62) <= lo) (h2 : lo < 2 ^ 62) (h3 : -(2 ^ 62) <= hi) (h4 : hi < 2 ^ 62)
  (q : R (Itr lo (hi - lo).toNat) H) : wpAny (model X.prog X.w) X.A (pyIter (.ref s.heap.objs.size)) (PIE X pins σ tg R) E { s with heap := s.heap.push { cls := .type "range", data := .fields #[.int lo t, .int hi u, .int 1 v] }, toks := tk } := by
 refine wpAny_pyIter_range (IsRange.new ..) (small_one h1 h2 h3 h4) ?_
 have I1 : Inv X pins σ H { s with heap := s.heap.push { cls := .type "range", data := .fields #[.int lo t, .int hi u, .int 1 v] }, toks := tk } := I.kept fun b o e => NW _ e
 refine ⟨(s.heap.push { cls := .type "range", data := .fields #[.int lo t, .int hi u, .int 1 v] }).objs.size, [(s.heap.push { cls := .type "range", data := .fields #[.int lo t, .int hi u, .int 1 v] }).objs.size], _, _, H, rfl,
  I1.kept (t' := tk) fun b o e => NW _ e, BP _ lo (hi - lo).toNat, ?_, fun b hb => ?_, q⟩
 ·have e1 : lo + ((0 : Nat) : Int) * 1 = lo := by simp
  have e2 : (((hi - lo).toNat : Nat) : Int) - ((0 : Nat) : Int) = Builtin.Range.rangeSize lo hi 1 := by rw [rangeSize_one]; split <;> lia
  show IsRangeIter _ _ (lo + ((0 : Nat) : Int) * 1) ((((hi - lo).toNat : Nat) : Int) - ((0 : Nat) : Int)) 1
  rw [e1, e2]
  exact Od _ rfl
 ·have e : b = (s.heap.push { cls := .type "range", data := .fields #[.int lo t, .int hi u, .int 1 v] }).objs.size := by simpa using hb
  subst e
  exact I1.fpOk (NK _) (I1.hok.fresh (NK _))
noncomputable def IW (ta : TA) : TI := fun σ H R => ta σ H fun vs H1 => ∃ j : Int, vs = [.int j] /\ -(2 ^ 62) <= j /\ j < 2 ^ 62 /\ R (Itr 0 j.toNat) H1
noncomputable def II (ta : TA) : TI := fun σ H R => ta σ H fun vs H1 => ∃ i j : Int, vs = [.int i, .int j] /\ (-(2 ^ 62) <= i /\ i < 2 ^ 62 /\ -(2 ^ 62) <= j /\ j < 2 ^ 62) /\ R (Itr i (j - i).toNat) H1
theorem x4 {a : Expr} {ta : TA} {p pos : Pos} (hg : Gl X "range") (hm : X.mg "range" = none) (ha : PA X [a] ta) (hs : starEach [a] X.env = [(false, eval a X.env)] := by rfl) : PI X tg (.Call (.Name "range" p) [a] [] pos) (IW ta) := by
 intro pins s σ H R I h
 refine Call_ (sQ I hg hm boot_range (PyProof.Rows.callWith_type1 (thn (ha pos pins s σ H _ I h) fun us s1 hpt9 => ?_) hs rfl))
 obtain ⟨vs, H1, I1, r1, q1⟩ := hpt9
 obtain ⟨j, e, q1, q2, q⟩ := q1
 subst e
 cases r1 with
 | cons r rr =>
  cases rr
  obtain ⟨t, rfl⟩ := r
  exact call_range_1 (A5 I1 (by lia) (by lia) q1 q2 (by simpa using q))
theorem yv {a b : Expr} {ta : TA} {p pos : Pos} (hg : Gl X "range") (hm : X.mg "range" = none) (ha : PA X [a, b] ta) (hs : starEach [a, b] X.env = [(false, eval a X.env), (false, eval b X.env)] := by rfl) (hs2 : starEach [b] X.env = [(false, eval b X.env)] := by rfl) :
  PI X tg (.Call (.Name "range" p) [a, b] [] pos) (II ta) := by
 intro pins s σ H R I h
 refine Call_ (sQ I hg hm boot_range (PyProof.Rows.callWith_type1 (thn (ha pos pins s σ H _ I h) fun us s1 hpt9 => ?_) (by rw [hs, hs2]) (by rw [hs2]; rfl)))
 obtain ⟨vs, H1, I1, r1, q1⟩ := hpt9
 obtain ⟨i, j, e, ⟨q1, q2, q3, q4⟩, q⟩ := q1
 subst e
 cases r1 with
 | cons r rr =>
  cases rr with
  | cons r' rr =>
   cases rr
   obtain ⟨t, rfl⟩ := r
   obtain ⟨t', rfl⟩ := r'
   exact call_range_2 (A5 I1 q1 q2 q3 q4 q)
noncomputable def KD (wi : TI) (g : TG) (tb : TS) : TS := fun D σ H => wi σ H fun J H1 => ∃ W : Nat -> Nat -> St -> Hp -> Prop, (∃ m, W 0 m σ H1) /\ ∀ i m σ H, W i m σ H ->
 (J.stop i H /\ D.nx σ H) \/ (J.go i H /\ ∃ N : St -> Hp -> Prop, (∀ σ' H', N σ' H' -> ∃ m', m' < m /\ W (i + 1) m' σ' H') /\ ∀ x H', J.yld i H x H' -> g x σ H' fun σ2 H2 => tb { D with nx := N, ct := N, bk := D.nx } σ2 H2)
noncomputable def sP (fp : List Addr) (h : Heap) : List (Addr × Obj) := fp.filterMap fun b => (h.get? b).map fun o => (b, o)
theorem iq {fp : List Addr} {h : Heap} {b : Addr} {o : Obj} (hb : b ∈ fp) (e : h.get? b = some o) : (b, o) ∈ sP fp h := List.mem_filterMap.mpr ⟨b, hb, by rw [e]; rfl⟩
theorem Ez {fp : List Addr} {h : Heap} {p : Addr × Obj} (hp : p ∈ sP fp h) : p.1 ∈ fp /\ h.get? p.1 = some p.2 := by
 obtain ⟨b, hb, e⟩ := List.mem_filterMap.mp hp
 cases q : h.get? b with
 | none => rw [q] at e; cases e
 | some o =>
  rw [q] at e
  have e' : (b, o) = p := Oc e
  subst e'
  exact ⟨hb, q⟩
theorem Inv.pinned {pins : List (Addr × Obj)} {σ : St} {H : Hp} {s : Shared} {fp : List Addr} (I : Inv X pins σ H s) (hf : ∀ b ∈ fp, sf X pins H b) (ho : ∀ b ∈ fp, ∃ o, s.heap.get? b = some o /\ ∀ v, o.data ≠ .cell v) : Inv X (pins ++ sP fp s.heap) σ H s :=
 I.pins_of fun p hp => (NM.mp hp).elim (fun z => I.pin p (NP _ z)) fun z => by
  obtain ⟨hb, e⟩ := Ez z
  obtain ⟨f0, f1, f2, _⟩ := hf p.1 hb
  obtain ⟨o, e', d⟩ := ho p.1 hb
  rw [e] at e'; cases e'
  exact ⟨e, f0, f1, f2, d⟩
theorem Inv.unpinned {pins pl : List (Addr × Obj)} {σ : St} {H : Hp} {s : Shared} (I : Inv X (pins ++ pl) σ H s) : Inv X pins σ H s := I.pins_of fun p hp => I.pin p (NP _ (NR _ hp))
theorem kq {iter : Expr} {body : List Stmt} {wi : TI} {g : TG} {tb : TS} {pos : Pos} (hp : PassesOwn (model X.prog X.w) X.A X.env X.xe) (hc : X.calm = true) (hi : PI X tg iter wi) (hg : PG X tg g) (hb : PSs X body tb)
  (hs : ∀ x, foldedSetIterable iter X.env x = pure x := by intro _; rfl) : PS X (.For tg iter body [] pos) (KD wi g tb) := by
 intro pins s σ H D I h
 refine wpAny_For (thn (hi pins s σ H _ I h) fun v s1 h1 => thn h1 fun itv s2 h2 => ?_) hs
 obtain ⟨it, fp, tn, J, H2, e, I2, T, st2, f2, W, ⟨m0, w0⟩, turn⟩ := h2
 subst e
 -- what stays true of the iterator's objects through the loop
 have stat : ∀ {H' : Hp}, (∀ b ∈ fp, H' b = none) -> ∀ b ∈ fp, sf X pins H' b := fun hn b hb => ⟨hn b hb, (f2 b hb).2⟩
 refine codeAny_forLoop_any (fun n s' => ∃ i σ' H', Inv X pins σ' H' s' /\ tn i s'.heap /\ (∀ b ∈ fp, H' b = none) /\ W i n σ' H') ?_ m0 ⟨0, σ, H2, I2, st2, fun b hb => (f2 b hb).1, w0⟩
 rintro n s3 ⟨i, σ3, H3, I3, st3, fr3, w3⟩
 rcases turn i n σ3 H3 w3 with ⟨stop, qn⟩ | ⟨go, N, hN, step⟩
 ·refine wpAny_passesOwn hp (thn (T.done X rfl rfl rfl hc i pins s3 σ3 H3 X.xe I3 (stat fr3) st3 stop) fun r s4 ⟨hr, I4⟩ => ?_)
  subst hr
  exact wpAny_execs_nil ⟨σ3, H3, I4, qn⟩
 ·refine wpAny_passesOwn hp (thn (T.item X rfl rfl rfl hc i pins s3 σ3 H3 X.xe I3 (stat fr3) st3 go) fun r s4 ⟨u, hr, h4⟩ => ?_)
  subst hr
  refine wpAny_passesOwn hp (thn h4 fun _ s5 hpt9 => ?_)
  obtain ⟨x, H5, I5, r5, y5, st5, fr5⟩ := hpt9
  have I5' := I5.pinned (stat fr5) (T.obj _ _ st5)
  refine wpAny_passesOwn hp (thn (hg _ s5 σ3 H5 x u _ I5' r5 (step x H5 y5)) fun _ s6 hpt9 => ?_)
  obtain ⟨σ6, H6, I6, q6⟩ := hpt9
  refine wpAny_passesOwn hp (thn (hb _ s6 σ6 H6 _ I6 q6) fun f s7 q7 => ?_)
  have again : ∀ {σ7 : St} {H7 : Hp}, Inv X (pins ++ sP fp s5.heap) σ7 H7 s7 -> N σ7 H7 -> ∃ m, m < n /\ ∃ i σ' H', Inv X pins σ' H' s7 /\ tn i s7.heap /\ (∀ b ∈ fp, H' b = none) /\ W i m σ' H' := fun {σ7 H7} I7 n7 => by
   obtain ⟨m', hm, w7⟩ := hN σ7 H7 n7
   refine ⟨m', hm, i + 1, σ7, H7, I7.unpinned, T.keep _ _ _ st5 fun b hb o e => (I7.pin (b, o) (NP _ (NP _ (iq hb e)))).1, fun b hb => ?_, w7⟩
   obtain ⟨o, e, d⟩ := T.obj _ _ st5 b hb
   exact (I7.pin (b, o) (NP _ (NP _ (iq hb e)))).2.1
  cases f with
  | next => obtain ⟨σ7, H7, I7, n7⟩ := q7; exact again I7 n7
  | cont => obtain ⟨σ7, H7, I7, n7⟩ := q7; exact again I7 n7
  | brk => obtain ⟨σ7, H7, I7, q7⟩ := q7; exact ⟨σ7, H7, I7.unpinned, q7⟩
  | ret v => obtain ⟨x7, σ7, H7, I7, r7, q7⟩ := q7; exact ⟨x7, σ7, H7, I7.unpinned, r7, q7⟩
end
noncomputable abbrev R2 := V -> V -> Hp -> VK -> Prop
def OpR (X : Cx) (f : Value -> Value -> Sem Value) (r : R2) : Prop :=
 ∀ (pins : List (Addr × Obj)) (s : Shared) (σ : St) (H : Hp) (x y : V) (v u : Value) (Q : VK), Inv X pins σ H s -> RelV x v -> RelV y u -> r x y H Q ->
  wpAny (model X.prog X.w) X.A (f v u) (EP X pins σ Q) X.xe s
def UnR (X : Cx) (f : Value -> Sem Value) (r : V -> Hp -> VK -> Prop) : Prop :=
 ∀ (pins : List (Addr × Obj)) (s : Shared) (σ : St) (H : Hp) (x : V) (v : Value) (Q : VK), Inv X pins σ H s -> RelV x v -> r x H Q ->
  wpAny (model X.prog X.w) X.A (f v) (EP X pins σ Q) X.xe s
def CallR (X : Cx) (f : Value) (r : List V -> Hp -> VK -> Prop) : Prop :=
 ∀ (pins : List (Addr × Obj)) (s : Shared) (σ : St) (H : Hp) (xs : List V) (us : List Value) (Q : VK), Inv X pins σ H s -> Vals xs us -> r xs H Q ->
  wpAny (model X.prog X.w) X.A (call f us) (EP X pins σ Q) X.xe s
def L9 (X : Cx) (r : V -> Hp -> (Bool -> Hp -> Prop) -> Prop) : Prop :=
 ∀ (pins : List (Addr × Obj)) (s : Shared) (σ : St) (H : Hp) (x : V) (v : Value) (Q : Bool -> Hp -> Prop), Inv X pins σ H s -> RelV x v -> r x H Q ->
  wpAny (model X.prog X.w) X.A (truthy v) (TP X pins σ Q) X.xe s
noncomputable def tOp (r : R2) (ta tb : TE) : TE := fun σ H Q => ta σ H fun x H1 => tb σ H1 fun y H2 => r x y H2 Q
noncomputable def tUn (r : V -> Hp -> VK -> Prop) (ta : TE) : TE := fun σ H Q => ta σ H fun x H1 => r x H1 Q
noncomputable def rI (C : Int -> Int -> Prop) (g : Int -> Int -> V) : R2 := fun x y H Q => ∃ i j, x = .int i /\ y = .int j /\ C i j /\ Q (g i j) H
noncomputable def rI0 (g : Int -> Int -> V) : R2 := fun x y H Q => ∃ i j, x = .int i /\ y = .int j /\ Q (g i j) H
noncomputable def rU (g : Int -> V) : V -> Hp -> VK -> Prop := fun x H Q => ∃ i, x = .int i /\ Q (g i) H
section
variable {X : Cx} {a b c : Expr} {ta tb tc : TE} {pos : Pos}
theorem JB (ha : PE X a ta) (hb : PE X b tb) {pins : List (Addr × Obj)} {s : Shared} {σ : St} {H : Hp} {R : V -> V -> Hp -> Prop} (I : Inv X pins σ H s)
  (h : ta σ H fun x H1 => tb σ H1 fun y H2 => R x y H2) {Q : Value -> Shared -> Prop} {f : Value -> Value -> Sem Value}
  (hf : ∀ v u s2 x y H2, Inv X pins σ H2 s2 -> RelV x v -> RelV y u -> R x y H2 -> wpAny (model X.prog X.w) X.A (f v u) Q X.xe s2) :
  wpAny (model X.prog X.w) X.A (eval a X.env) (fun v s₁ => wpAny (model X.prog X.w) X.A (eval b X.env) (fun u s₂ => wpAny (model X.prog X.w) X.A (f v u) Q X.xe s₂) X.xe s₁) X.xe s := by
 refine thn (ha pins s σ H _ I h) fun v s1 hpt9 => ?_
 obtain ⟨x, H1, I1, r1, q1⟩ := hpt9
 refine thn (hb pins s1 σ H1 _ I1 q1) fun u s2 hpt9 => ?_
 obtain ⟨y, H2, I2, r2, q2⟩ := hpt9
 exact hf v u s2 x y H2 I2 r1 r2 q2
theorem aZ {op : Operator} {r : R2} (ho : OpR X (binaryOp op) r) (ha : PE X a ta) (hb : PE X b tb) : PE X (.BinOp a op b pos) (tOp r ta tb) := by
 intro pins s σ H Q I h
 exact wpAny_BinOp (JB ha hb I h fun v u s2 x y H2 I2 rx ry q => ho pins s2 σ H2 x y v u Q I2 rx ry q)
theorem dY {op : UnaryOp} {r : V -> Hp -> VK -> Prop} (ho : UnR X (unaryOp op) r) (ha : PE X a ta) : PE X (.UnaryOp op a pos) (tUn r ta) := by
 intro pins s σ H Q I h
 exact UnaryOp_ (thn (ha pins s σ H _ I h) fun v s1 ⟨x, H1, I1, r1, q1⟩ => ho pins s1 σ H1 x v Q I1 r1 q1)
theorem opI {f : Value -> Value -> Sem Value} {C : Int -> Int -> Prop} {g : Int -> Int -> Int}
  (rule : ∀ (i j : Int) (t u : Tok) (s : Shared) (Q : Value -> Shared -> Prop) (E : Value -> Shared -> Prop), C i j -> Q (.int (g i j) s.toks) { s with toks := s.toks + 1 } -> wpAny (model X.prog X.w) X.A (f (.int i t) (.int j u)) Q E s) :
  OpR X f (rI C fun i j => .int (g i j)) := by
 intro pins s σ H x y v u Q I rx ry h
 obtain ⟨i, j, rfl, rfl, hc, q⟩ := h
 obtain ⟨t, rfl⟩ := rx
 obtain ⟨t', rfl⟩ := ry
 exact rule i j t t' s _ _ hc ⟨.int (g i j), H, I.tok _, ⟨_, rfl⟩, q⟩
theorem Lf {f : Value -> Value -> Sem Value} {g : Int -> Int -> Int}
  (rule : ∀ (i j : Int) (t u : Tok) (s : Shared) (Q : Value -> Shared -> Prop) (E : Value -> Shared -> Prop), Q (.int (g i j) s.toks) { s with toks := s.toks + 1 } -> wpAny (model X.prog X.w) X.A (f (.int i t) (.int j u)) Q E s) :
  OpR X f (rI0 fun i j => .int (g i j)) := by
 intro pins s σ H x y v u Q I rx ry h
 obtain ⟨i, j, rfl, rfl, q⟩ := h
 obtain ⟨t, rfl⟩ := rx
 obtain ⟨t', rfl⟩ := ry
 exact rule i j t t' s _ _ ⟨.int (g i j), H, I.tok _, ⟨_, rfl⟩, q⟩
theorem Js {f : Value -> Value -> Sem Value} {g : Int -> Int -> Bool}
  (rule : ∀ (i j : Int) (t u : Tok) (s : Shared) (Q : Value -> Shared -> Prop) (E : Value -> Shared -> Prop), Q (.bool (g i j)) s -> wpAny (model X.prog X.w) X.A (f (.int i t) (.int j u)) Q E s) :
  OpR X f (rI0 fun i j => .bl (g i j)) := by
 intro pins s σ H x y v u Q I rx ry h
 obtain ⟨i, j, rfl, rfl, q⟩ := h
 obtain ⟨t, rfl⟩ := rx
 obtain ⟨t', rfl⟩ := ry
 exact rule i j t t' s _ _ ⟨.bl (g i j), H, I, rfl, q⟩
def KI (i j : Int) : Prop := 0 < j /\ j < 1073741824
def Kk (i j : Int) : Prop := 0 <= j /\ j <= 1000000 /\ i.natAbs < 2 ^ 64
def CMul (i j : Int) : Prop := (-(2 ^ 64) < i /\ i < 2 ^ 64) \/ (-(2 ^ 64) < j /\ j < 2 ^ 64)
theorem CMul.ok {i j : Int} (h : CMul i j) : IntMulOk i j := by
 rcases h with ⟨h1, h2⟩ | ⟨h1, h2⟩
 ·exact .of_left (intBits_le_64 h1 h2)
 ·exact .of_right (intBits_le_64 h1 h2)
theorem op_add : OpR X (binaryOp .Add) (rI0 fun i j => .int (i + j)) := Lf fun _ _ _ _ _ _ _ q => add_int q
theorem tM : OpR X (binaryOp .Sub) (rI0 fun i j => .int (i - j)) := Lf fun _ _ _ _ _ _ _ q => sub_int q
theorem Gu : OpR X (binaryOp .Mult) (rI CMul fun i j => .int (i * j)) := opI fun _ _ _ _ _ _ _ hc q => mul_int q hc.ok
theorem jk : OpR X (binaryOp .FloorDiv) (rI KI fun i j => .int (i / j)) := opI fun i j _ _ _ _ _ hc q => by
 have h1 : (0 : Int) < j := hc.1
 have h2 : j < 1073741824 := hc.2
 exact floordiv_int (by lia) (by rw [Int.fdiv_eq_ediv_of_nonneg i (by lia)]; exact q) (.inl (PyProof.noPylong_small (by lia)))
theorem fT : OpR X (binaryOp .Mod) (rI (fun _ j => 0 < j) fun i j => .int (i % j)) := opI fun i j _ _ _ _ _ hc q => by
 have h1 : (0 : Int) < j := hc
 exact mod_int' (by lia) (by rw [Int.fmod_eq_emod_of_nonneg i (by lia)]; exact q)
theorem zO : OpR X (binaryOp .Pow) (rI Kk fun i j => .int (i ^ j.toNat)) := opI fun _ _ _ _ _ _ _ hc q => pow_int_small hc.1 hc.2.1 hc.2.2 q
theorem unI {f : Value -> Sem Value} {g : Int -> Int}
  (rule : ∀ (i : Int) (t : Tok) (s : Shared) (Q : Value -> Shared -> Prop) (E : Value -> Shared -> Prop), Q (.int (g i) s.toks) { s with toks := s.toks + 1 } -> wpAny (model X.prog X.w) X.A (f (.int i t)) Q E s) :
  UnR X f (rU fun i => .int (g i)) := by
 intro pins s σ H x v Q I rx h
 obtain ⟨i, rfl, q⟩ := h
 obtain ⟨t, rfl⟩ := rx
 exact rule i t s _ _ ⟨.int (g i), H, I.tok _, ⟨_, rfl⟩, q⟩
theorem b5 : UnR X (unaryOp .USub) (rU fun i => .int (-i)) := unI fun _ _ _ _ _ q => neg_int q
end
section
variable {X : Cx} {a b c : Expr} {ta tb tc : TE} {pos : Pos}
theorem Dt : OpR X (compareOp .Lt) (rI0 fun i j => .bl (decide (i < j))) := Js fun _ _ _ _ _ _ _ q => lt_int q
theorem De : OpR X (compareOp .LtE) (rI0 fun i j => .bl (decide (i <= j))) := Js fun _ _ _ _ _ _ _ q => le_int q
theorem G4 : OpR X (compareOp .Gt) (rI0 fun i j => .bl (decide (j < i))) := Js fun _ _ _ _ _ _ _ q => gt_int q
theorem OpR.or {f : Value -> Value -> Sem Value} {r r' : R2} (h : OpR X f r) (h' : OpR X f r') : OpR X f (fun x y H Q => r x y H Q \/ r' x y H Q) := by
 intro pins s σ H x y v u Q I rx ry q
 rcases q with q | q
 ·exact h pins s σ H x y v u Q I rx ry q
 ·exact h' pins s σ H x y v u Q I rx ry q
theorem b7 (b : Expr) {op : CmpOp} (h : op ≠ .In := by decide) (h2 : op ≠ .NotIn := by decide) : behindInMarks op b = false := by
 have e1 : (op == CmpOp.In) = false := by cases op <;> first | rfl | exact absurd rfl h
 have e2 : (op == CmpOp.NotIn) = false := by cases op <;> first | rfl | exact absurd rfl h2
 cases b <;> simp [behindInMarks, e1, e2]
theorem rF {op : CmpOp} {r : R2} (ho : OpR X (compareOp op) r) (ha : PE X a ta) (hb : PE X b tb) (hm : behindInMarks op b = false) : PE X (.Compare a [op] [b] pos) (tOp r ta tb) := by
 intro pins s σ H Q I h
 exact wpAny_Compare1 (JB ha hb I h fun v u s2 x y H2 I2 rx ry q => ho pins s2 σ H2 x y v u Q I2 rx ry q) hm
noncomputable def IH (t : TE) : TT := fun σ H Q => t σ H fun x H' => ∃ k, x = .bl k /\ Q k H'
theorem bX {op : CmpOp} {r : R2} (ho : OpR X (compareOp op) r) (ha : PE X a ta) (hb : PE X b tb) (hm : behindInMarks op b = false) : PT X (.Compare a [op] [b] pos) (IH (tOp r ta tb)) := by
 intro pins s σ H Q I h
 refine wpAny_isTrue_Compare1 (thn (ha pins s σ H _ I h) fun v s1 ⟨x, H1, I1, r1, q1⟩ => thn (hb pins s1 σ H1 _ I1 q1) fun u s2 ⟨y, H2, I2, r2, q2⟩ =>
  thn (ho pins s2 σ H2 x y v u _ I2 r1 r2 q2) fun c s3 ⟨z, H3, I3, r3, k, e, q3⟩ => ?_) hm
 subst e
 cases r3
 exact wpAny_truthy_bool ⟨H3, I3, q3⟩
def GY (K : W.Frag) (x : V) (H : Hp) (k : Bool) : Prop :=
 match x with
 | .non => k = false
 | .bl b => k = b
 | .int i => k = (i != 0)
 | .str y => y.length <= sizeLine /\ k = ((y.length : Int) != 0)
 | .byt y => y.size <= sizeLine /\ k = ((y.size : Int) != 0)
 | .ref p => (∃ xs, SqL K H p xs /\ k = !xs.isEmpty) \/ (∃ xs, SqT K H p xs /\ k = !xs.isEmpty) \/ ∃ kvs, H p = some (.dK kvs) /\ k = !kvs.isEmpty
 | _ => False
theorem BN {κ : Type} {kvs : List (κ × V)} {vs : List (κ × Value)} (r : KV kvs vs) : (!vs.isEmpty) = !kvs.isEmpty := by
 cases r <;> rfl
theorem vU {xs : List V} {its : List Value} (r : Vals xs its) : (!its.toArray.isEmpty) = !xs.isEmpty := by
 cases r <;> simp
theorem pN : (sizeLine : Nat) < 2 ^ 63 := by rw [sizeLine_eq]; decide
theorem JW : L9 X (fun x H Q => ∃ k, GY X.K x H k /\ Q k H) := by
 intro pins s σ H x v Q I rx h
 obtain ⟨k, e, q⟩ := h
 have hl := pN
 have hs : sizeLine = 16777216 := sizeLine_eq
 cases x with
 | non =>
  cases rx
  have e' : k = false := e
  subst e'
  exact truthy_none ⟨H, I, q⟩
 | bl b =>
  cases rx
  have e' : k = b := e
  subst e'
  exact wpAny_truthy_bool ⟨H, I, q⟩
 | int i =>
  obtain ⟨t, rfl⟩ := rx
  have e' : k = (i != 0) := e
  subst e'
  exact PySem.P.truthy_int ⟨H, I, q⟩
 | str y =>
  obtain ⟨t, rfl⟩ := rx
  obtain ⟨hy, e'⟩ : y.length <= sizeLine /\ k = ((y.length : Int) != 0) := e
  subst e'
  exact PySem.P.truthy_str (by lia) ⟨H, I.tok _, q⟩
 | byt y =>
  obtain ⟨t, rfl⟩ := rx
  obtain ⟨hy, e'⟩ : y.size <= sizeLine /\ k = ((y.size : Int) != 0) := e
  subst e'
  exact W.truthy_bytes (by lia) ⟨H, I.tok _, q⟩
 | ref p =>
  cases rx
  have e' : (∃ xs, SqL X.K H p xs /\ k = !xs.isEmpty) \/ (∃ xs, SqT X.K H p xs /\ k = !xs.isEmpty) \/ ∃ kvs, H p = some (.dK kvs) /\ k = !kvs.isEmpty := e
  rcases e' with ⟨xs, hx, e'⟩ | ⟨xs, hx, e'⟩ | ⟨kvs, hx, e'⟩
  ·subst e'
   obtain ⟨its, r, pl, hz⟩ := I.list hx
   have hlen := r.length
   exact wpAny_truthy_list pl.isList (by simp only [NZ]; lia) ⟨H, I.tok _, by rw [vU r]; exact q⟩
  ·subst e'
   obtain ⟨its, r, pl, hz⟩ := I.tuple hx
   have hlen := r.length
   exact truthy_tuple pl (by simp only [NZ]; lia) ⟨H, I.tok _, by rw [vU r]; exact q⟩
  ·subst e'
   obtain ⟨hz, hS, vs, r, m⟩ : kvs.length <= sizeLine /\ (p == sysModules) = false /\ ∃ vs, KV kvs vs /\ s.heap.DictOf (zL X.prog X.w) p vs := I.hok p _ hx
   have hlen : kvs.length = vs.length := Paired.length r
   exact wpAny_truthy_dict hS m (by lia) ⟨H, I.tok _, by rw [BN r]; exact q⟩
 | _ => exact (show False from e).elim
theorem dE (ha : PE X a ta) (he : ∀ whole, isTrue a X.env whole = (do let v ← whole; standAt a.pos; holding [v] (truthy v))) :
  PT X a (fun σ H Q => ta σ H fun x H' => ∃ k, GY X.K x H' k /\ Q k H') := by
 intro pins s σ H Q I h
 exact isTrue_plain (thn (ha pins s σ H _ I h) fun v s1 ⟨x, H1, I1, r1, q1⟩ => JW pins s1 σ H1 x v Q I1 r1 q1) (he _)
theorem CC : OpR X (binaryOp .Add) (fun x y H Q => ∃ i j, x = .str i /\ y = .str j /\ i.length + j.length <= sizeLine /\ Q (.str (i ++ j)) H) := by
 intro pins s σ H x y v u Q I rx ry h
 obtain ⟨i, j, rfl, rfl, hz, q⟩ := h
 obtain ⟨t, rfl⟩ := rx
 obtain ⟨t', rfl⟩ := ry
 exact add_str (fun t' tk => ⟨.str (i ++ j), H, I.tok _, ⟨_, rfl⟩, q⟩) hz
theorem z8 {x : V} {us : List Value} (r : Vals [x] us) : ∃ u, us = [u] /\ RelV x u := by
 cases r with
 | cons r1 r2 => cases r2; exact ⟨_, rfl, r1⟩
theorem IJ {x y : V} {us : List Value} (r : Vals [x, y] us) : ∃ u w', us = [u, w'] /\ RelV x u /\ RelV y w' := by
 cases r with
 | cons r1 r2 =>
  cases r2 with
  | cons r3 r4 => cases r4; exact ⟨_, _, rfl, r1, r3⟩
theorem yE (hc : X.calm = true) : CallR X (.builtin "max") (fun xs H Q => ∃ i j, xs = [.int i, .int j] /\ Q (.int (if j > i then j else i)) H) := by
 intro pins s σ H xs us Q I r h
 obtain ⟨i, j, rfl, q⟩ := h
 obtain ⟨u, w', rfl, ⟨t, rfl⟩, ⟨t', rfl⟩⟩ := IJ r
 refine max_two_ints (I.ok.hd hc) fun h' tk k => ⟨_, H, I.kept k, ?_, q⟩
 by_cases hj : j > i
 ·rw [NF hj, NF hj]; exact ⟨_, rfl⟩
 ·rw [NG hj, NG hj]; exact ⟨_, rfl⟩
theorem EZ (hc : X.calm = true) : CallR X (.builtin "min") (fun xs H Q => ∃ i j, xs = [.int i, .int j] /\ Q (.int (if j < i then j else i)) H) := by
 intro pins s σ H xs us Q I r h
 obtain ⟨i, j, rfl, q⟩ := h
 obtain ⟨u, w', rfl, ⟨t, rfl⟩, ⟨t', rfl⟩⟩ := IJ r
 refine min_two_ints (I.ok.hd hc) fun h' tk k => ⟨_, H, I.kept k, ?_, q⟩
 by_cases hj : j < i
 ·rw [NF hj, NF hj]; exact ⟨_, rfl⟩
 ·rw [NG hj, NG hj]; exact ⟨_, rfl⟩
theorem yc : CallR X (.type "int") (fun xs H Q => (∃ i, xs = [.int i] /\ Q (.int i) H) \/ ∃ k, xs = [.bl k] /\ Q (.int (if k then 1 else 0)) H) := by
 intro pins s σ H xs us Q I r h
 rcases h with ⟨i, rfl, q⟩ | ⟨k, rfl, q⟩
 ·obtain ⟨u, rfl, t, rfl⟩ := z8 r
  exact call_int_int ⟨.int i, H, I, ⟨_, rfl⟩, q⟩
 ·obtain ⟨u, rfl, r1⟩ := z8 r
  cases r1
  exact call_int_bool ⟨.int (if k then 1 else 0), H, I.tok _, ⟨_, rfl⟩, q⟩
def K5 (K : W.Frag) (x : V) (H : Hp) (n : Nat) : Prop :=
 match x with
 | .str y => y.length <= sizeLine /\ n = y.length
 | .byt y => y.size <= sizeLine /\ n = y.size
 | .ref p => (∃ xs, SqL K H p xs /\ n = xs.length) \/ ∃ xs, SqT K H p xs /\ n = xs.length
 | _ => False
theorem GB : CallR X (.builtin "len") (fun xs H Q => ∃ x n, xs = [x] /\ K5 X.K x H n /\ Q (.int n) H) := by
 intro pins s σ H xs us Q I r h
 obtain ⟨x, n, rfl, e, q⟩ := h
 obtain ⟨u, rfl, rx⟩ := z8 r
 have hl := pN
 have hs : sizeLine = 16777216 := sizeLine_eq
 cases x with
 | str y =>
  obtain ⟨t, rfl⟩ := rx
  obtain ⟨hy, e'⟩ : y.length <= sizeLine /\ n = y.length := e
  subst e'
  exact len_str (by lia) ⟨.int _, H, I.tok _, ⟨_, rfl⟩, q⟩
 | byt y =>
  obtain ⟨t, rfl⟩ := rx
  obtain ⟨hy, e'⟩ : y.size <= sizeLine /\ n = y.size := e
  subst e'
  exact W.len_bytes (by lia) ⟨.int _, H, I.tok _, ⟨_, rfl⟩, q⟩
 | ref p =>
  cases rx
  have e' : (∃ xs, SqL X.K H p xs /\ n = xs.length) \/ ∃ xs, SqT X.K H p xs /\ n = xs.length := e
  rcases e' with ⟨xs, hx, e'⟩ | ⟨xs, hx, e'⟩
  ·subst e'
   obtain ⟨its, r', pl, hz⟩ := I.list hx
   have hlen := r'.length
   exact Calls.call_len_list pl.isList (by simp only [NZ]; lia) ⟨.int xs.length, H, I.tok _, ⟨_, by simp only [NZ]; rw [hlen]⟩, q⟩
  ·subst e'
   obtain ⟨its, r', pl, hz⟩ := I.tuple hx
   have hlen := r'.length
   exact len_tuple pl (by simp only [NZ]; lia) ⟨.int xs.length, H, I.tok _, ⟨_, by simp only [NZ]; rw [hlen]⟩, q⟩
 | _ => exact (show False from e).elim
end
structure ObjM (h : Heap) (x dx C : Addr) (mA : Str -> Option Value) : Prop where
 obj : h.get? x = some (W.instObj C dx)
 ns : h.Ns1 dx mA
 ne : dx ≠ x
theorem Em {h : Heap} {dx : Addr} {mA : Str -> Option Value} (n : h.Ns1 dx mA) : ∃ od, h.get? dx = some od /\ ∀ name, W.lookIn name od = some (mA name) := by
 obtain ⟨o, es, ep, ho, hd, hk, _, hm⟩ := n
 refine ⟨o, ho, fun name => ?_⟩
 have e := hm name
 unfold nsFind findBy at e
 rw [<- Array.find?_toList] at e
 unfold W.lookIn
 rw [hd]
 dsimp only
 split
 ·rename_i y q
  rw [q] at e
  exact congrArg some e
 ·rename_i q
  rw [q] at e
  have a : es.toList.any (·.refKey) = false := by
   rw [List.any_eq_false]
   intro y hy
   obtain ⟨z, t, hkey⟩ := hk y (Array.mem_toList_iff.mp hy)
   simp [DictEntry.refKey, hkey]
  have a' : ¬ es.toList.any (·.refKey) = true := by rw [a]; exact OC
  rw [NG a']
  exact congrArg some e
theorem ObjM.look {h : Heap} {x dx C : Addr} {mA : Str -> Option Value} (I : ObjM h x dx C mA) : ∃ od, W.InstAt h x (W.instObj C dx) C (some od) /\ ∀ name, W.lookIn name od = some (mA name) :=
 let ⟨od, ho, hl⟩ := Em I.ns
 ⟨od, ⟨I.obj, rfl, rfl, ho⟩, hl⟩
section
variable {prog : Program} {w : World} {A : Around} {E : Value -> Shared -> Prop} {s : Shared} {K : W.Frag} {x dx C f : Addr} {mA : Str -> Option Value} {name : Str} {v : Value}
theorem HB {expr : Bool} {Q : Value -> Shared -> Prop} (X : K.In s.heap) (I : ObjM s.heap x dx C mA) (hg : W.plainGet K C name = true) (hh : W.hasDictIn K C = true)
  (ha : W.findIn K (.ref C) name = some none) (hv : mA name = some v) (hv' : W.handedIn v = true) (h : Q v { s with toks := s.toks + 1 }) :
  wpAny (model prog w) A (getAttr (.ref x) name expr) Q E s := by
 obtain ⟨od, J, hl⟩ := I.look
 exact W.get_value X J (W.plainGet_of hg).1 (W.findObj_own hh ha rfl (by rw [hl, hv])) hv' h
theorem Hj {pl : Sem Bool} {Q : Value × List Value -> Shared -> Prop} (X : K.In s.heap) (I : ObjM s.heap x dx C mA) (hg : W.plainGet K C name = true)
  (hf : W.findIn K (.ref C) name = some (some (.ref f))) (ht : W.isFn K (.ref f) = true) (hv : mA name = none) (h : Q (.ref f, [.ref x]) s) :
  wpAny (model prog w) A (getMethod (.ref x) name pl) Q E s := by
 obtain ⟨od, J, hl⟩ := I.look
 exact W.method_fn X J (W.plainGet_of hg).1 (W.plainGet_of hg).2 hf (beq_iff_eq.mp ht) (by show (W.lookIn name od).map (·.isSome) = some false; rw [hl, hv]; rfl) h
theorem HV {ns : List Str} {Q : Unit -> Shared -> Prop} (X : K.In s.heap) (I : ObjM s.heap x dx C mA)
  (hs : W.findIn K (.ref C) "__setattr__" = some (some (.builtin "object.__setattr__"))) (hp : W.plainOver K C = true) (ht : W.takerIn K C name = some none) (hh : W.hasDictIn K C = true)
  (hw : PySem.Within mA ns) (hsz : ns.length <= sizeLine)
  (h : ∀ h', ObjM h' x dx C (fun y => if y = name then some v else mA y) -> Heap.SameBut dx s.heap h' -> Q () { s with heap := h', toks := s.toks + 2 }) :
  wpAny (model prog w) A (setAttr (.ref x) name v) Q E s := by
 obtain ⟨od, J, hl⟩ := I.look
 refine W.set_plain X J hs (W.osa_open (s := { s with toks := s.toks + 1 }) (r := none) X J hp ht fun b => ?_)
 obtain ⟨cd, hc, hd'⟩ := W.any_some hh
 have hx : s.heap.get? x = some ⟨.ref C, some dx, .plain, #[]⟩ := I.obj
 refine NH (NJ (NH (NH (wpAny_loadPart hx (NH (W.Looks.here (s := { s with toks := s.toks + 1 }) (W.looks_clsIn X hc) ?_))))))
 rw [hd']
 refine NJ (a := some dx) (NH (NJ (NH ?_)))
 refine wpAny_nsSet1 (s := { s with toks := s.toks + 1 }) I.ns fun h' hn2 hs2 => ?_
 obtain ⟨oD, esD, epD, hoD, hdD, hcD⟩ := hn2.count (PySem.Within.cons name v hw)
 refine NH (wpAny_lookBehind hoD (by rw [hdD]; exact pastItsLine_dict (N6 hcD (by rw [NV]; lia))) ?_)
 exact NJ (h _ ⟨(hs2.2 _ (Oe I.ne)).trans I.obj, hn2, I.ne⟩ hs2)
theorem F9 {R : Result -> Shared -> Prop} {vs : List Value} {kw : List (Str × Value)} (X : K.In s.heap) (hm : W.makesIn K C = true)
  (hi : W.findIn K (.ref C) "__init__" = some (some (.ref f))) (hf : W.typeIn K (.ref f) = some (.type "function"))
  (h : codeAny (model prog w) (A.under (.builtin "type.__call__" ⟨.ref C :: vs, kw⟩)) (.call (.ref f) ⟨.ref (s.heap.objs.size + 1) :: vs, kw⟩) (W.InitBack (s.heap.objs.size + 1) R)
   { s with heap := (s.heap.push W.emptyDict).push (W.instObj C s.heap.objs.size) }) :
  codeAny (model prog w) A (.call (.ref C) ⟨vs, kw⟩) R s := by
 obtain ⟨hh, g, d, t, os⟩ := s
 exact W.make_core (W.makes_of X hm) (W.looks_findIn X hi) (fun self => W.bind_fn X self hf) (.inl rfl) h
end
noncomputable def oy (f : Str) (v : V) : List (Str × V) -> List (Str × V)
 | [] => [(f, v)]
 | (g, x) :: r => if g = f then (g, v) :: r else (g, x) :: oy f v r
theorem tT (f g : Str) (v : V) : ∀ fs : List (Str × V), (oy f v fs).lookup g = if g = f then some v else fs.lookup g
 | [] => by
  show List.lookup g [(f, v)] = _
  by_cases h : g = f
  ·have hb : (g == f) = true := beq_iff_eq.mpr h
   simp only [List.lookup, hb, NF h]
  ·have hb : (g == f) = false := beq_eq_false_iff_ne.mpr h
   simp only [List.lookup, hb, NG h]
 | (k, x) :: r => by
  have ih := tT f g v r
  rw [show oy f v ((k, x) :: r) = (if k = f then (k, v) :: r else (k, x) :: oy f v r) from rfl]
  by_cases hk : k = f
  ·rw [NF hk]
   by_cases h : g = k
   ·have hb : (g == k) = true := beq_iff_eq.mpr h
    simp only [List.lookup, hb, NF (h.trans hk)]
   ·have hb : (g == k) = false := beq_eq_false_iff_ne.mpr h
    simp only [List.lookup, hb, NG (fun e : g = f => h (e.trans hk.symm))]
  ·rw [NG hk]
   by_cases h : g = k
   ·have hb : (g == k) = true := beq_iff_eq.mpr h
    simp only [List.lookup, hb, NG (fun e : g = f => hk (h.symm.trans e))]
   ·have hb : (g == k) = false := beq_eq_false_iff_ne.mpr h
    simp only [List.lookup, hb]
    exact ih
theorem sM (f : Str) (v : V) : ∀ fs : List (Str × V), f ∈ (oy f v fs).map (·.1) /\ ∀ g, g ∈ fs.map (·.1) -> g ∈ (oy f v fs).map (·.1)
 | [] => ⟨by simp [oy], fun g h => by simp at h⟩
 | (k, x) :: r => by
  obtain ⟨i1, i2⟩ := sM f v r
  rw [show oy f v ((k, x) :: r) = (if k = f then (k, v) :: r else (k, x) :: oy f v r) from rfl]
  by_cases hk : k = f
  ·rw [NF hk]
   subst hk
   exact ⟨by simp, fun g h => by simpa using h⟩
  ·rw [NG hk]
   refine ⟨?_, fun g h => ?_⟩
   ·rw [N1]
    exact NN _ i1
   ·rw [N1] at h ⊢
    rcases NQ.mp h with e | e
    ·exact NQ.mpr (.inl e)
    ·exact NN _ (i2 g e)
theorem tP (f : Str) (v : V) : ∀ fs : List (Str × V), (oy f v fs).length <= fs.length + 1
 | [] => by simp [oy]
 | (k, x) :: r => by
  have ih := tP f v r
  rw [show oy f v ((k, x) :: r) = (if k = f then (k, v) :: r else (k, x) :: oy f v r) from rfl]
  by_cases hk : k = f
  ·rw [NF hk, NV, NV]; lia
  ·rw [NG hk, NV, NV]; lia
theorem RelO.some_of {v : V} {o : Option Value} (r : RelO (some v) o) : ∃ u, o = some u /\ RelV v u := by
 cases o with
 | none => exact (show False from r).elim
 | some u => exact ⟨u, rfl, r⟩
theorem RelO.none_of {o : Option Value} (r : RelO none o) : o = none := by
 cases o with
 | none => rfl
 | some u => exact (show False from r).elim
theorem EJ {v : V} {u : Value} (r : RelV v u) : W.handedIn u = true := by
 cases v with
 | non => cases (show u = Value.none from r); rfl
 | bl b => cases (show u = Value.bool b from r); rfl
 | int i => obtain ⟨t, e⟩ := (show ∃ t, u = Value.int i t from r); cases e; rfl
 | str x => obtain ⟨t, e⟩ := (show ∃ t, u = Value.str x t from r); cases e; rfl
 | byt b => obtain ⟨t, e⟩ := (show ∃ t, u = Value.bytes b t from r); cases e; rfl
 | flt b => obtain ⟨t, e⟩ := (show ∃ t, u = Value.float b t from r); cases e; rfl
 | ref a => cases (show u = Value.ref a from r); rfl
 | ty n => cases (show u = Value.type n from r); rfl
section
variable {P : Program} {w : World} {H H' : Hp} {h h' : Heap} {a C dx : Addr} {fs fs' : List (Str × V)}
theorem vg (hok : HOk P w H h) (e : H a = some (.ins C dx fs)) : ∃ mA, ObjM h a dx C mA /\ (∀ f, RelO (fs.lookup f) (mA f)) /\ PySem.Within mA (fs.map (·.1)) /\ fs.length <= 1000 /\ H dx = some (.own a) := by
 obtain ⟨d, z, ne, ob, mA, n, r, q⟩ := (show ObjOk P w H h a (.ins C dx fs) from hok a _ e)
 exact ⟨mA, ⟨ob, n, ne⟩, r, q, z, d⟩
end
structure Cls (K : W.Frag) (C : Addr) : Prop where
 pg : W.plainGet K C Str.empty = true
 hd : W.hasDictIn K C = true
 po : W.plainOver K C = true
 sa : W.findIn K (.ref C) "__setattr__" = some (some (.builtin "object.__setattr__"))
theorem Cls.get {K : W.Frag} {C : Addr} (c : Cls K C) (f : Str) : W.plainGet K C f = true := c.pg
def NoAttr (K : W.Frag) (C : Addr) (f : Str) : Prop := W.findIn K (.ref C) f = some none
theorem NoAttr.taker {K : W.Frag} {C : Addr} {f : Str} (n : NoAttr K C f) : W.takerIn K C f = some none := by
 unfold W.takerIn
 rw [show W.findIn K (.ref C) f = some none from n]
 rfl
structure Con (K : W.Frag) (C : Addr) (f : Str) (v : V) (u : Value) : Prop where
 at_ : W.findIn K (.ref C) f = some (some u)
 rel : RelV v u
 get : W.specialIn K u "__get__" = some none
 cp : W.copiedNames.contains f = false
structure Meth (K : W.Frag) (C : Addr) (m : Str) (f : Addr) : Prop where
 at_ : W.findIn K (.ref C) m = some (some (.ref f))
 fn : W.isFn K (.ref f) = true
 kp : W.keepIn K (.ref f) = true
section
variable {X : Cx} {pins : List (Addr × Obj)} {σ : St} {H : Hp} {s : Shared} {a C dx : Addr} {fs : List (Str × V)} {f : Str} {v : V} {A : Around} {E : Value -> Shared -> Prop}
theorem Cc {b : Bool} {Q : Value -> Shared -> Prop} (I : Inv X pins σ H s) (e : H a = some (.ins C dx fs)) (c : Cls X.K C) (n : NoAttr X.K C f) (l : fs.lookup f = some v)
  (h : ∀ u s', Inv X pins σ H s' -> RelV v u -> Q u s') : wpAny (model X.prog X.w) A (getAttr (.ref a) f b) Q E s := by
 obtain ⟨mA, O, r, _, _, _⟩ := vg I.hok e
 obtain ⟨u, hu, ru⟩ := RelO.some_of (v := v) (o := mA f) (by rw [<- l]; exact r f)
 exact HB I.kIn O (c.get f) c.hd n hu (EJ ru) (h u _ (I.tok _) ru)
theorem wA {m : Str} {g : Addr} {pl : Sem Bool} {Q : Value × List Value -> Shared -> Prop} (I : Inv X pins σ H s) (e : H a = some (.ins C dx fs)) (c : Cls X.K C) (k : Meth X.K C m g) (l : fs.lookup m = none)
  (h : Q (.ref g, [.ref a]) s) : wpAny (model X.prog X.w) A (getMethod (.ref a) m pl) Q E s := by
 obtain ⟨mA, O, r, _, _, _⟩ := vg I.hok e
 have hn : mA m = none := RelO.none_of (by rw [<- l]; exact r m)
 exact Hj I.kIn O (c.get m) k.at_ k.fn hn h
theorem Ck {y : V} {u : Value} {Q : Unit -> Shared -> Prop} (I : Inv X pins σ H s) (e : H a = some (.ins C dx fs)) (c : Cls X.K C) (n : NoAttr X.K C f) (hl : fs.length < 1000) (ry : RelV y u)
  (h : ∀ s', Inv X pins σ (upd H a (.ins C dx (oy f y fs))) s' -> Q () s') : wpAny (model X.prog X.w) A (setAttr (.ref a) f u) Q E s := by
 obtain ⟨mA, O, r, wi, _, ho⟩ := vg I.hok e
 have hz : (fs.map (·.1)).length <= sizeLine := by rw [NT, sizeLine_eq]; lia
 refine HV I.kIn O c.sa c.po n.taker c.hd wi hz fun h' O' sb => h _ ?_
 have hd : ∃ o, h'.get? dx = some o := let ⟨o, _, _, e', _⟩ := O'.ns; ⟨o, e'⟩
 refine I.write (x := a) (e := dx) (by rw [e]; exact True.intro) (.inr ho) (fun b q hb z => (sb.2 b hb).trans z) hd ?_
 refine ⟨by rw [a6 O.ne]; exact ho, ?_, O.ne, O'.obj, _, O'.ns, fun g => ?_, fun g hg => ?_⟩
 ·have := tP f y fs; lia
 ·show RelO ((oy f y fs).lookup g) (if g = f then some u else mA g)
  rw [tT]
  by_cases q : g = f
  ·rw [NF q, NF q]; exact ry
  ·rw [NG q, NG q]; exact r g
 ·by_cases q : g = f
  ·rw [q]; exact (sM f y fs).1
  ·refine (sM f y fs).2 g (wi g fun z => hg ?_)
   show (if g = f then some u else mA g) = none
   rw [NG q]; exact z
theorem Inv.made (I : Inv X pins σ H s) : Inv X pins σ (upd (upd H s.heap.objs.size (.own (s.heap.objs.size + 1))) (s.heap.objs.size + 1) (.ins C s.heap.objs.size []))
  { s with heap := (s.heap.push W.emptyDict).push (W.instObj C s.heap.objs.size) } := by
 have e1 : (s.heap.push W.emptyDict).get? s.heap.objs.size = some W.emptyDict := Od s.heap rfl
 have e2 : ((s.heap.push W.emptyDict).push (W.instObj C s.heap.objs.size)).get? (s.heap.objs.size + 1) = some (W.instObj C s.heap.objs.size) := by
  have := Od (s.heap.push W.emptyDict) (o := W.instObj C s.heap.objs.size) rfl
  rwa [Heap.size_push] at this
 have e3 : (s.heap.push W.emptyDict).Ns s.heap.objs.size (fun _ => none) := ⟨W.emptyDict, #[], _, e1, rfl, (fun e he => absurd he (by simp)), fun _ => rfl⟩
 have I1 := I.laid (a := s.heap.objs.size) (o := .own (s.heap.objs.size + 1)) (h' := s.heap.push W.emptyDict) (t' := s.toks) (fun b u q => NW _ q) (NK _) ⟨_, e1⟩
 refine I1.laid (a := s.heap.objs.size + 1) (o := .ins C s.heap.objs.size []) (t' := s.toks) (fun b u q => NW _ q) (Nat.le_of_eq (Heap.size_push _ _)) ?_
 have ne : s.heap.objs.size ≠ s.heap.objs.size + 1 := N5 (Nat.lt_succ_self _)
 refine ⟨by rw [a6 ne, a8], Ov _, ne, e2, fun _ => none, (Heap.Ns1.of_empty e3).at fun o q => NW _ q, fun _ => True.intro, fun y hy => absurd rfl hy⟩
theorem Ij {prog : Program} {w : World} {env : Env} {e : Expr} {f : Str} {pos : Pos} {s : Shared} {Q : Value -> Shared -> Prop} (hb : attributeBase e f env (eval e env) = eval e env)
  (h : wpAny (model prog w) A (eval e env) (fun o s₁ => wpAny (model prog w) A (getAttr o f true) Q E s₁) E s) : wpAny (model prog w) A (eval (.Attribute e f pos) env) Q E s :=
 Attribute_any_ h (by rw [arm_eval_Attribute, hb])
end
noncomputable def K3 (K : W.Frag) (ta tv : TE) (f : Str) : TS := fun D σ H => tv σ H fun y H1 => ta σ H1 fun x H2 => ∃ a C dx fs, x = .ref a /\ H2 a = some (.ins C dx fs) /\ Cls K C /\ NoAttr K C f /\ fs.length < 1000 /\
 D.nx σ (upd H2 a (.ins C dx (oy f y fs)))
section
variable {X : Cx} {o e value : Expr} {f : Str} {pos pos' tpos : Pos} {ta tv : TE}
theorem Jl (ha : PE X o ta) (hv : PE X value tv) (hs : swapsWith value (some (.Attribute o f pos')) pos.line X.env = pure false) : PS X (.Assign [.Attribute o f pos'] value pos) (K3 X.K ta tv f) := by
 intro pins s σ H D I h
 refine plainObj_wpAny_Assign_Attribute (thn (hv pins s σ H _ I h) fun u s1 ⟨y, H1, I1, ry, q⟩ => thn (ha pins s1 σ H1 _ I1 q) fun ov s2 hpt9 => ?_) hs
 obtain ⟨x, H2, I2, rx, a, C, dx, fs, ex, ea, c, n, l, q2⟩ := hpt9
 subst ex
 obtain rfl : ov = Value.ref a := rx
 exact Ck I2 ea c n l ry fun s3 I3 => ⟨σ, _, I3, q2⟩
end
section
variable {X : Cx} {pins : List (Addr × Obj)} {σ : St} {H : Hp} {s : Shared} {A : Around} {E : Value -> Shared -> Prop} {Q : Value -> Shared -> Prop} {c : Value} {b : Bool}
inductive TyOf (K : W.Frag) (H : Hp) : V -> Value -> Prop where
 | non : TyOf K H .non (.type "NoneType")
 | bl (x : Bool) : TyOf K H (.bl x) (.type "bool")
 | int (i : Int) : TyOf K H (.int i) (.type "int")
 | str (x : Str) : TyOf K H (.str x) (.type "str")
 | flt (x : UInt64) : TyOf K H (.flt x) (.type "float")
 | lst {a : Addr} {xs : List V} (e : H a = some (.lst xs)) : TyOf K H (.ref a) (.type "list")
 | frz {a : Addr} {o : Obj} {xs : List V} (e : H a = some (.frz o (.lst xs))) : TyOf K H (.ref a) (.type "list")
 | tup {a : Addr} {xs : List V} (e : H a = some (.tup xs)) : TyOf K H (.ref a) (.type "tuple")
 | dK {a : Addr} {kvs : List (Key × V)} (e : H a = some (.dK kvs)) : TyOf K H (.ref a) (.type "dict")
 | dT {a : Addr} {kvs : List (List Key × V)} (e : H a = some (.dT kvs)) : TyOf K H (.ref a) (.type "dict")
 | ins {a C dx : Addr} {fs : List (Str × V)} (e : H a = some (.ins C dx fs)) (cl : Cls K C) (ha : W.findIn K (.ref C) "__class__" = some (some (.builtin "object.__class__")))
   (hn : W.specialIn K (.builtin "object.__class__") "__get__" = some (some (.builtin "getset_descriptor.__get__"))) (htk : W.takesIn K (.builtin "object.__class__") = some true)
   (hm : W.mroIn K C (.type "object") = some true) : TyOf K H (.ref a) (.ref C)
theorem k6 {x : V} {u t : Value} (I : Inv X pins σ H s) (rx : RelV x u) (ty : TyOf X.K H x t) (e : W.kitOne X.K t c = some b) (h : ∀ tk, Q (.bool b) { s with toks := tk }) :
  wpAny (model X.prog X.w) A (call (.builtin "isinstance") [u, c]) Q E s := by
 cases ty with
 | non => cases (show u = Value.none from rx); exact W.kia_one W.kitx_none I.kIn True.intro e (fun z => nomatch z) h
 | bl y => cases (show u = Value.bool y from rx); exact W.kia_one W.kitx_bool I.kIn True.intro e (fun z => nomatch z) h
 | int i => obtain ⟨t, q⟩ := (show ∃ t, u = Value.int i t from rx); cases q; exact W.kia_one W.kitx_int I.kIn True.intro e (fun z => nomatch z) h
 | str y => obtain ⟨t, q⟩ := (show ∃ t, u = Value.str y t from rx); cases q; exact W.kia_one W.kitx_str I.kIn True.intro e (fun z => nomatch z) h
 | flt y => obtain ⟨t, q⟩ := (show ∃ t, u = Value.float y t from rx); cases q; exact W.kia_one W.kitx_float I.kIn True.intro e (fun z => nomatch z) h
 | @lst a xs ea =>
  cases (show u = Value.ref a from rx)
  obtain ⟨_, _, n, _, h1⟩ := (show ObjOk X.prog X.w H s.heap a (.lst xs) from I.hok a _ ea)
  exact W.kia_one W.kitx_list I.kIn ⟨_, h1, rfl⟩ e (fun z => nomatch z) h
 | @frz a ob xs ea =>
  cases (show u = Value.ref a from rx)
  obtain ⟨_, _, _, n, _, h1⟩ := (show ObjOk X.prog X.w H s.heap a (.frz ob (.lst xs)) from I.hok a _ ea)
  exact W.kia_one W.kitx_list I.kIn ⟨_, h1, rfl⟩ e (fun z => nomatch z) h
 | @tup a xs ea =>
  cases (show u = Value.ref a from rx)
  obtain ⟨_, _, _, p⟩ := (show ObjOk X.prog X.w H s.heap a (.tup xs) from I.hok a _ ea)
  obtain ⟨o, h1, h2, _⟩ := p
  exact W.kia_one W.kitx_tuple I.kIn ⟨o, h1, h2⟩ e (fun z => nomatch z) h
 | @dK a kvs ea =>
  cases (show u = Value.ref a from rx)
  obtain ⟨_, _, vs, _, p⟩ := (show ObjOk X.prog X.w H s.heap a (.dK kvs) from I.hok a _ ea)
  obtain ⟨o, es, ep, h1, h2, _⟩ := p
  exact W.kia_one W.kitx_dict I.kIn ⟨o, h1, h2.1⟩ e (fun z => nomatch z) h
 | @dT a kvs ea =>
  cases (show u = Value.ref a from rx)
  obtain ⟨_, _, xs, _, o, es, ep, h1, h2, _⟩ := (show ObjOk X.prog X.w H s.heap a (.dT kvs) from I.hok a _ ea)
  exact W.kia_one W.kitx_dict I.kIn ⟨o, h1, h2.1⟩ e (fun z => nomatch z) h
 | @ins a C dx fs ea cl ha hn htk hm =>
  cases (show u = Value.ref a from rx)
  obtain ⟨mA, O, _⟩ := vg I.hok ea
  obtain ⟨od, J, _⟩ := O.look
  exact W.kia_one (W.kitx_own (cl.get _) cl.hd ha hn htk hm) I.kIn J e (fun z => nomatch z) h
end
structure Room (k : Nat) (A : Around) : Prop where
 hd : A.handled = none
 dp : A.depth + 3 * k + 5 < recursionLimit
 un : A.units + 16 * k + 200 < cLine
theorem Room.mono {j k : Nat} {A : Around} (r : Room k A) (h : j <= k) : Room j A := ⟨r.hd, by have := r.dp; lia, by have := r.un; lia⟩
theorem Room.deeper {k : Nat} {A : Around} (r : Room (k + 1) A) (env : Env) : Room k (A.deeper env) :=
 ⟨r.hd, by have := r.dp; show A.depth + 1 + 3 * k + 5 < _; lia, by have := r.un; show A.units + 3 + 16 * k + 200 < _; lia⟩
theorem BM {A : Around} {C : Addr} {us : List Value} {kw : List (Str × Value)} : (A.under (.builtin "type.__call__" ⟨.ref C :: us, kw⟩)).depth = A.depth + 1 := by
 first | rfl | simp [Around.under, Code.weight, Code.isCreation, Code.isGuard, Code.isCaller, Code.frames, Code.isFrame, guardIds]
theorem B3 {A : Around} {C : Addr} {us : List Value} {kw : List (Str × Value)} : (A.under (.builtin "type.__call__" ⟨.ref C :: us, kw⟩)).units = A.units + 1 := by
 first | rfl | simp [Around.under, Code.cUnits, Code.frames, Code.isFrame]
theorem Room.make {k : Nat} {A : Around} (r : Room (k + 1) A) (C : Addr) (us : List Value) (kw : List (Str × Value)) : Room k (A.under (.builtin "type.__call__" ⟨.ref C :: us, kw⟩)) :=
 ⟨r.hd, by have := r.dp; rw [BM]; lia, by have := r.un; rw [B3]; lia⟩
theorem Room.depth {k : Nat} {A : Around} (r : Room k A) : A.depth < recursionLimit := by have := r.dp; lia
theorem Room.units {k : Nat} {A : Around} (r : Room k A) : A.units + 64 < cLine := by have := r.un; lia
noncomputable def rX : TA := fun _ H Q => Q [] H
noncomputable def gW (ta : TE) (tr : TA) : TA := fun σ H Q => ta σ H fun x H1 => tr σ H1 fun xs H2 => Q (x :: xs) H2
section
variable {X : Cx} {e : Expr} {es : List Expr} {te : TE} {t : TA} {pos : Pos}
theorem af : PA X [] rX := fun _ _ _ _ H Q I h => Calls.spliced_nil ⟨[], H, I, .nil, h⟩
theorem ab (ha : PE X e te) (hr : PA X es t) (hs : starEach (e :: es) X.env = (false, eval e X.env) :: starEach es X.env := by rfl) : PA X (e :: es) (gW te t) := by
 intro pos pins s σ H Q I h
 rw [hs]
 show wpAny _ _ (spliced ((false, eval e X.env) :: backTo pos (starEach es X.env))) _ _ s
 refine Calls.spliced_cons (thn (ha pins s σ H _ I h) fun u s1 hpt9 => ?_)
 obtain ⟨x, H1, I1, r1, q1⟩ := hpt9
 exact thn (hr pos pins s1 σ H1 _ I1 q1) fun us s2 ⟨xs, H2, I2, r2, q2⟩ => ⟨x :: xs, H2, I2, .cons r1 r2, q2⟩
noncomputable def JU (t : TA) : TE := fun σ H Q => t σ H fun xs H1 => xs.length <= sizeLine /\ ∀ p, H1 p = none -> Q (.ref p) (upd H1 p (.tup xs))
noncomputable def Jx (t : TA) : TE := fun σ H Q => t σ H fun xs H1 => xs.length <= sizeLine /\ ∀ p, H1 p = none -> Q (.ref p) (upd H1 p (.lst xs))
theorem bd {x1} (h : PA X es t) : PE X (.Tuple es x1 pos) (JU t) := by
 intro pins s σ H Q I hq
 refine wpAny_Tuple_spliced (thn (h pos pins s σ H _ I hq) fun us s1 ⟨xs, H1, I1, r, z, q⟩ => ⟨by rw [<- r.length]; exact z, ?_⟩)
 have hf : H1 s1.heap.objs.size = none := I1.hok.fresh (NK _)
 refine ⟨.ref s1.heap.objs.size, upd H1 s1.heap.objs.size (.tup xs), I1.laid (t' := s1.toks) (fun b u e => NW _ e) (NK _) ?_, rfl, q _ hf⟩
 exact ⟨z, us, r, ⟨_, Od _ rfl, rfl, _, rfl⟩⟩
theorem ft (h : PA X es t) : PE X (.List es pos) (Jx t) := by
 intro pins s σ H Q I hq
 refine wpAny_List_spliced (thn (h pos pins s σ H _ I hq) fun us s1 ⟨xs, H1, I1, r, z, q⟩ => ⟨by rw [<- r.length]; exact z, ?_⟩)
 have hf : H1 s1.heap.objs.size = none := I1.hok.fresh (NK _)
 refine ⟨.ref s1.heap.objs.size, upd H1 s1.heap.objs.size (.lst xs), I1.laid (t' := s1.toks) (fun b u e => NW _ e) (NK _) ?_, rfl, q _ hf⟩
 exact ⟨z, us, 0, r, Od _ rfl⟩
end
noncomputable abbrev Sp := List V -> Hp -> VK -> XK -> Prop
noncomputable abbrev CXT := List Env -> Hp -> Shared -> XK -> Value -> Shared -> Prop
structure Env0 (P : Program) (w : World) (K : W.Frag) (mg : Str -> Option Value) (base : Heap) (A : Around) (outer : List Env) (s : Shared) (H : Hp) : Prop where
 frames : A.frames = some outer
 mod : Mod K mg base
 bs : ∀ b o, base.get? b = some o -> s.heap.get? b = some o /\ H b = none
 bsz : base.objs.size <= s.heap.objs.size
 funs : s.heap.FunFrames base outer
 frf : ∀ b ∈ frs outer, H b = none
 hok : HOk P w H s.heap
 bare : AllBare s.gens
def CE (outer : List Env) (P : Program) (w : World) (H : Hp) (s : Shared) (Q : VK) (u : Value) (s' : Shared) : Prop :=
 ∃ v H', s'.os = s.os /\ AllBare s'.gens /\ Un (frs outer) [] H H' s.heap s'.heap /\ HOk P w H' s'.heap /\ RelV v u /\ Q v H'
def CR (CX : CXT) (outer : List Env) (P : Program) (w : World) (H : Hp) (s : Shared) (Q : VK) (E : XK) (r : Result) (s' : Shared) : Prop :=
 match r with
 | .ok (.ret u) => CE outer P w H s Q u s'
 | .ok _ => False
 | .error e => CX outer H s E e s'
structure FnOk (P : Program) (w : World) (K : W.Frag) (mg : Str -> Option Value) (base : Heap) (CX : CXT) (k : Nat) (f : Addr) (fd : FuncData) (ps : List Str) (sp : Sp) : Prop where
 len : ∀ vs H Q E, sp vs H Q E -> vs.length = ps.length
 run : ∀ (A : Around) (outer : List Env) (s : Shared) (H : Hp) (args : Args) (us : List Value) (vs : List V) (Q : VK) (E : XK), Room k A -> Env0 P w K mg base A outer s H -> BindsTo s fd args (ps.zip us) -> Vals vs us -> sp vs H Q E ->
  codeAny (model P w) A (.call (.ref f) args) (CR CX outer P w H s Q E) s
theorem Env0.make {P : Program} {w : World} {K : W.Frag} {mg : Str -> Option Value} {base : Heap} {A : Around} {outer : List Env} {s : Shared} {H : Hp} (e : Env0 P w K mg base A outer s H) (C : Addr) (us : List Value) (kw : List (Str × Value)) :
  Env0 P w K mg base (A.under (.builtin "type.__call__" ⟨.ref C :: us, kw⟩)) outer s H := ⟨by first | exact e.frames | (simpa [Around.under, Code.envs, Code.isFrame, pushEnvs] using e.frames), e.mod, e.bs, e.bsz, e.funs, e.frf, e.hok, e.bare⟩
section
variable {X : Cx} {pins : List (Addr × Obj)} {σ : St} {H : Hp} {s s' : Shared}
theorem Inv.env0 (I : Inv X pins σ H s) : Env0 X.prog X.w X.K X.mg X.base X.A X.stack s H :=
 ⟨I.ok.frames, I.ok.mod, I.bs, N6 I.ok.bsz I.sz, I.stack, I.stkFree, I.hok, I.bare⟩
theorem Inv.after {Q : VK} {u : Value} (I : Inv X pins σ H s) (h : CE X.stack X.prog X.w H s Q u s') : EP X pins σ Q u s' := by
 obtain ⟨v, H', os, bare, un, hok, r, q⟩ := h
 obtain ⟨hh, g, d, t, os'⟩ := s'
 obtain rfl : os' = s.os := os
 exact ⟨v, H', I.call (h' := hh) (g' := g) (d' := d) (t' := t) (ch := []) un hok bare (fun b z => absurd z (by simp)), r, q⟩
end
noncomputable def wu (sp : Sp) (dvs : List V) (E : XK) (t : TA) : TE := fun σ H Q => t σ H fun vs H1 => sp (vs ++ dvs) H1 Q E
noncomputable def Jf (C : Addr) (sp : Sp) (dvs : List V) (E : XK) (t : TA) : TE := fun σ H Q => t σ H fun vs H1 => ∀ x dx, H1 x = none -> H1 dx = none -> dx ≠ x ->
 sp (.ref x :: (vs ++ dvs)) (upd (upd H1 dx (.own x)) x (.ins C dx [])) (fun v H2 => v = .non /\ Q (.ref x) H2) E
def Binds (K : W.Frag) (fd : FuncData) (ps : List Str) (ds : List Value) : Prop :=
 ∀ (s : Shared) (us : List Value), K.In s.heap -> (us ++ ds).length = ps.length -> BindsTo s fd ⟨us, []⟩ (ps.zip (us ++ ds))
theorem Binds.all {K : W.Frag} {fd : FuncData} {ps : List Str} (h : ∀ us : List Value, us.length = ps.length -> bindArgs fd ⟨us, []⟩ = pure (ps.zip us)) : Binds K fd ps [] := fun s us _ hl => by
 rw [Ol] at hl ⊢
 exact .of_eq (h us hl)
def lI (CX : CXT) (X : Cx) (E : XK) : Prop := ∀ (pins : List (Addr × Obj)) (σ : St) (H : Hp) (s : Shared) (e : Value) (s' : Shared), Inv X pins σ H s -> CX X.stack H s E e s' -> X.xe e s'
section
variable {X : Cx} {CX : CXT} {k : Nat} {f C : Addr} {fd : FuncData} {ps : List Str} {sp : Sp} {dvs : List V} {ds : List Value} {E : XK} {x m : Str} {p pos apos : Pos} {e o : Expr} {es : List Expr} {ta : TE} {t : TA}
theorem zM {pins : List (Addr × Obj)} {σ : St} {H : Hp} {s : Shared} {Q : VK} {us : List Value} {vs : List V} (F : FnOk X.prog X.w X.K X.mg X.base CX k f fd ps sp) (hr : Room k X.A) (hb : Binds X.K fd ps ds) (hd : Vals dvs ds) (hx : lI CX X E)
  (I : Inv X pins σ H s) (r : Vals vs us) (h : sp (vs ++ dvs) H Q E) : wpAny (model X.prog X.w) X.A (call (.ref f) us) (EP X pins σ Q) X.xe s := by
 have r2 : Vals (vs ++ dvs) (us ++ ds) := r.append hd
 have hl : (us ++ ds).length = ps.length := by rw [<- r2.length]; exact F.len _ _ _ _ h
 refine wpAny_call (codeAny_mono (F.run X.A X.stack s H ⟨us, []⟩ (us ++ ds) (vs ++ dvs) Q E hr I.env0 (hb s us I.kIn hl) r2 h) fun r s' hq => ?_)
 cases r with
 | error e => exact hx pins σ H s e s' I hq
 | ok fl =>
  cases fl with
  | ret u => exact I.after hq
  | next => exact False.elim hq
  | brk => exact False.elim hq
  | cont => exact False.elim hq
theorem aQ (F : FnOk X.prog X.w X.K X.mg X.base CX k f fd ps sp) (hr : Room k X.A) (hg : Gl X x) (hm : X.mg x = some (.ref f)) (hk : W.keepIn X.K (.ref f) = true) (hb : Binds X.K fd ps ds) (hd : Vals dvs ds) (hx : lI CX X E)
  (ha : PA X (e :: es) t) (hdb : (x == ("__debug__" : Str)) = false := by decide) (he : starEach (e :: es) X.env = (false, eval e X.env) :: starEach es X.env := by rfl) (hpl : (backTo pos (starEach es X.env)).any (·.1) = false := by rfl) :
  PE X (.Call (.Name x p) (e :: es) [] pos) (wu sp dvs E t) := by
 intro pins s σ H Q I h
 refine wpAny_Call_Name_kw (zd I hg hm ?_ hdb)
 refine W.callWith_K (h₀ := X.base) I.ok.mod.kin hk (thn (ha pos pins s σ H _ I h) fun us s1 ⟨vs, H1, I1, r, q⟩ => ⟨I1.kIn, ?_⟩) he hpl
 exact zM F hr hb hd hx I1 r q
structure Mk (K : W.Frag) (C f : Addr) : Prop where
 makes : W.makesIn K C = true
 init : W.findIn K (.ref C) "__init__" = some (some (.ref f))
 fn : W.isFn K (.ref f) = true
 kp : W.keepIn K (.ref C) = true
theorem FA {pins : List (Addr × Obj)} {σ : St} {H : Hp} {s : Shared} {Q : VK} {us : List Value} {vs : List V} (M : Mk X.K C f) (F : FnOk X.prog X.w X.K X.mg X.base CX k f fd ps sp) (hr : Room (k + 1) X.A) (hb : Binds X.K fd ps ds) (hd : Vals dvs ds)
  (hx : lI CX X E) (I : Inv X pins σ H s) (r : Vals vs us)
  (h : ∀ x dx, H x = none -> H dx = none -> dx ≠ x -> sp (.ref x :: (vs ++ dvs)) (upd (upd H dx (.own x)) x (.ins C dx [])) (fun v H2 => v = .non /\ Q (.ref x) H2) E) :
  wpAny (model X.prog X.w) X.A (call (.ref C) us) (EP X pins σ Q) X.xe s := by
 have hq := h (s.heap.objs.size + 1) s.heap.objs.size (I.hok.fresh (Nat.le_succ _)) (I.hok.fresh (NK _)) (N5 (Nat.lt_succ_self _))
 have I2 := Inv.made (C := C) I
 have r2 : Vals (V.ref (s.heap.objs.size + 1) :: (vs ++ dvs)) (Value.ref (s.heap.objs.size + 1) :: (us ++ ds)) := .cons rfl (r.append hd)
 have hl : (Value.ref (s.heap.objs.size + 1) :: us ++ ds).length = ps.length := by
  have e := r2.length
  rw [F.len _ _ _ _ hq] at e
  exact e.symm
 refine wpAny_call (F9 (f := f) I.kIn M.makes M.init (beq_iff_eq.mp M.fn) (codeAny_mono (F.run _ X.stack _ _ ⟨Value.ref (s.heap.objs.size + 1) :: us, []⟩ (Value.ref (s.heap.objs.size + 1) :: (us ++ ds)) _ _ E (hr.make C us [])
  (I2.env0.make C us []) (hb _ (Value.ref (s.heap.objs.size + 1) :: us) I2.kIn hl) r2 hq) fun r s' hq' => ?_))
 cases r with
 | error e => exact hx pins σ _ _ e s' I2 hq'
 | ok fl =>
  cases fl with
  | ret u =>
   obtain ⟨v, H', I3, rv, ev, q3⟩ := I2.after hq'
   subst ev
   exact ⟨rv, ⟨V.ref (s.heap.objs.size + 1), H', I3, rfl, q3⟩⟩
  | next => exact False.elim hq'
  | brk => exact False.elim hq'
  | cont => exact False.elim hq'
theorem Iu (M : Mk X.K C f) (F : FnOk X.prog X.w X.K X.mg X.base CX k f fd ps sp) (hr : Room (k + 1) X.A) (hg : Gl X x) (hm : X.mg x = some (.ref C)) (hb : Binds X.K fd ps ds) (hd : Vals dvs ds) (hx : lI CX X E)
  (ha : PA X (e :: es) t) (hdb : (x == ("__debug__" : Str)) = false := by decide) (he : starEach (e :: es) X.env = (false, eval e X.env) :: starEach es X.env := by rfl) (hpl : (backTo pos (starEach es X.env)).any (·.1) = false := by rfl) :
  PE X (.Call (.Name x p) (e :: es) [] pos) (Jf C sp dvs E t) := by
 intro pins s σ H Q I h
 refine wpAny_Call_Name_kw (zd I hg hm ?_ hdb)
 refine W.callWith_K (h₀ := X.base) I.ok.mod.kin M.kp (thn (ha pos pins s σ H _ I h) fun us s1 ⟨vs, H1, I1, r, q⟩ => ⟨I1.kIn, ?_⟩) he hpl
 exact FA M F hr hb hd hx I1 r q
end
section
variable {X : Cx} {CX : CXT} {k : Nat} {f C : Addr} {fd : FuncData} {ps ks : List Str} {sp : Sp} {E : XK} {x m : Str} {p pos apos kpos : Pos} {e o : Expr} {es : List Expr} {kws : List Keyword} {te ta : TE} {t tk : TA} {nm : Option Str}
structure KBinds (K : W.Frag) (fd : FuncData) (ps ks : List Str) (g : List Value -> List Value -> List Value) (gV : List V -> List V -> List V) : Prop where
 to : ∀ (s : Shared) (us ws : List Value), K.In s.heap -> (g us ws).length = ps.length -> BindsTo s fd ⟨us, ks.zip ws⟩ (ps.zip (g us ws))
 rel : ∀ {vs : List V} {us : List Value} {zs : List V} {ws : List Value}, Vals vs us -> Vals zs ws -> Vals (gV vs zs) (g us ws)
variable {g : List Value -> List Value -> List Value} {gV : List V -> List V -> List V}
end
structure FnScope (N P : List Str) (sc : Scope) : Prop where
 kind : sc.kind = .function
 co : sc.isCoroutine = false
 gen : sc.isGenerator = false
 nd : N.Nodup
 pre : N.take P.length = P
 par : ∀ x ∈ P, sc.names.lookup x = some .local \/ sc.names.lookup x = some .cell
 nofree : ∀ y ∈ sc.names, y.2 ≠ .free
theorem yC {kindOf : Str -> Option NameKind} {x : Str} : ∀ {binds : List (Str × Value)} {m : Str -> Option Value}, (∀ v, (x, v) ∉ binds) -> bindL kindOf binds m x = m x
 | [], _, _ => rfl
 | (n, v) :: r, m, h => by
  unfold bindL
  rw [yC fun w hw => h w (NN _ hw)]
  split
  ·have : x ≠ n := by rintro rfl; exact h v NL
   simp [this]
  ·rfl
theorem xN {kindOf : Str -> Option NameKind} {x : Str} : ∀ {binds : List (Str × Value)} {m : Str -> Option Value}, (∀ v, (x, v) ∉ binds) -> bindC kindOf binds m x = m x
 | [], _, _ => rfl
 | (n, v) :: r, m, h => by
  unfold bindC
  rw [xN fun w hw => h w (NN _ hw)]
  split
  ·rfl
  ·have : x ≠ n := by rintro rfl; exact h v NL
   simp [this]
theorem yx {kindOf : Str -> Option NameKind} {x : Str} {v : Value} : ∀ {P : List Str} {vs : List Value} {i : Nat} {m : Str -> Option Value}, P.Nodup -> P[i]? = some x -> vs[i]? = some v -> kindOf x = some .local ->
  bindL kindOf (P.zip vs) m x = some v
 | [], _, _, _, _, h, _, _ => by simp at h
 | _ :: _, [], _, _, _, _, h, _ => by simp at h
 | p :: P, w :: vs, 0, m, nd, h1, h2, hk => by
  simp at h1 h2; subst h1; subst h2
  show bindL kindOf ((p, w) :: P.zip vs) m p = _
  unfold bindL
  rw [yC fun v hv => (Oo.mp nd).1 (List.of_mem_zip hv).1, NF hk]
  simp
 | p :: P, w :: vs, i + 1, m, nd, h1, h2, hk => by
  show bindL kindOf ((p, w) :: P.zip vs) m x = _
  unfold bindL
  exact yx (i := i) (Oo.mp nd).2 (by simpa using h1) (by simpa using h2) hk
theorem yo {kindOf : Str -> Option NameKind} {x : Str} {v : Value} : ∀ {P : List Str} {vs : List Value} {i : Nat} {m : Str -> Option Value}, P.Nodup -> P[i]? = some x -> vs[i]? = some v -> kindOf x ≠ some .local ->
  bindC kindOf (P.zip vs) m x = some v
 | [], _, _, _, _, h, _, _ => by simp at h
 | _ :: _, [], _, _, _, _, h, _ => by simp at h
 | p :: P, w :: vs, 0, m, nd, h1, h2, hk => by
  simp at h1 h2; subst h1; subst h2
  show bindC kindOf ((p, w) :: P.zip vs) m p = _
  unfold bindC
  rw [xN fun v hv => (Oo.mp nd).1 (List.of_mem_zip hv).1, NG hk]
  simp
 | p :: P, w :: vs, i + 1, m, nd, h1, h2, hk => by
  show bindC kindOf ((p, w) :: P.zip vs) m x = _
  unfold bindC
  exact yo (i := i) (Oo.mp nd).2 (by simpa using h1) (by simpa using h2) hk
noncomputable def aI (N : List Str) (vs : List V) : St := vs.map some ++ List.replicate (N.length - vs.length) none
noncomputable def EU (CX : CXT) (P : Program) (w : World) (K : W.Frag) (mg : Str -> Option Value) (base : Heap) (N : List Str) (qual : Str) (scope : Scope) (f : Addr) (cd : Value) (A : Around) (outer : List Env) (s : Shared) (H : Hp) (E : XK) : Cx where
 prog := P
 w := w
 K := K
 mg := mg
 base := base
 A := A.deeper (envOfC qual scope s.heap.objs.size f cd)
 N := N
 s₀ := s
 H₀ := H
 env := envOfC qual scope s.heap.objs.size f cd
 outer := outer
 stack := envOfC qual scope s.heap.objs.size f cd :: outer
 ex := []
 calm := true
 fn := fun _ => true
 pn := []
 xe := fun e s' => wpAny (model P w) (A.deeper (envOfC qual scope s.heap.objs.size f cd)) (leaving (envOfC qual scope s.heap.objs.size f cd) e) (fun _ s'' => CX outer H s E e s'') (fun e' s'' => CX outer H s E e' s'') s'
theorem Bf {sc : Scope} {n : Nat} {x : Str} (h : sc.names.lookup x = some .cell) : ∃ c, (cellsFrom n sc.names []).lookup x = some c := by
 have q := W.cellsFrom_some sc.names n [] (.inl h)
 exact Option.isSome_iff_exists.mp q
theorem DI {CX : CXT} {P : Program} {w : World} {K : W.Frag} {mg : Str -> Option Value} {base : Heap} {N ps : List Str} {qual : Str} {scope : Scope} {f : Addr} {cd : Value} {A : Around} {outer : List Env} {s s1 : Shared} {H : Hp} {E : XK} {us : List Value} {vs : List V}
  (S : FnScope N ps scope) (hd : A.handled = none) (e0 : Env0 P w K mg base A outer s H) (hl : vs.length = ps.length) (r : Vals vs us)
  (x : InCallC s s.heap.objs.size (bindL (envOfC qual scope s.heap.objs.size f cd).kindOf (ps.zip us) fun _ => none) (cellsFrom (s.heap.objs.size + 1) scope.names []) (bindC (envOfC qual scope s.heap.objs.size f cd).kindOf (ps.zip us) fun _ => none) s1) :
  Inv (EU CX P w K mg base N qual scope f cd A outer s H E) [] (aI N vs) H s1 := by
 have hpl : ps.length <= N.length := by have := congrArg List.length S.pre; rw [List.length_take] at this; lia
 obtain ⟨h1, tk, rfl, hk⟩ := x.done
 have noA : ∀ b : Addr, b ∉ (EU CX P w K mg base N qual scope f cd A outer s H E).ex := fun b z => absurd (show b ∈ ([] : List Addr) from z) (by simp)
 refine ⟨⟨e0.mod, S.kind, rfl, rfl, NK _, fun y z c h1 h2 => ?_, fun y hy => ?_, fun y c _ h => ?_, fun _ => hd, Around.frames_deeper e0.frames, .inr ⟨rfl, rfl⟩, fun b z => absurd z (noA b), e0.bs, e0.bsz, fun b _ _ => noA b, fun b z => absurd z (noA b), e0.funs, e0.frf⟩,
  rfl, e0.bare, Un.kept hk, ⟨_, x.toInCall.ns, fun i y v h1 h2 h3 => ?_⟩, fun y c h => ⟨_, x.cell y c h⟩, e0.hok.fresh (NK _), fun y c h => ?_, fun p hp => absurd (show p ∈ ([] : List (Addr × Obj)) from hp) (by simp), e0.hok.kept hk, ?_⟩
 ·exact name_of_addr x.apart (PySem.mem_of_lookup h1) (PySem.mem_of_lookup h2)
 ·have hy : scope.names.lookup y = some .cell \/ scope.names.lookup y = some .free := hy
  rcases hy with hy | hy
  ·exact Bf hy
  ·exact absurd rfl (S.nofree _ (PySem.mem_of_lookup hy))
 ·exact Om (x.above y c (PySem.mem_of_lookup h))
 ·have hi : i < vs.length := by
   unfold aI at h2
   by_cases hi : i < vs.length
   ·exact hi
   ·rw [OE (by simpa using hi)] at h2
    rw [List.getElem?_replicate] at h2
    split at h2 <;> cases h2
  have ha : vs[i]? = some v := by
   unfold aI at h2
   rw [OK (by simpa using hi), Oh] at h2
   cases e : vs[i]? with
   | none => rw [e] at h2; cases h2
   | some a => rw [e] at h2; cases h2; rfl
  obtain ⟨u, hu, rv⟩ := r.get ha
  have hp : ps[i]? = some y := by
   rw [<- S.pre, List.getElem?_take_of_lt (by lia)]; exact h1
  have ndP : ps.Nodup := by rw [<- S.pre]; exact S.nd.sublist (List.take_sublist _ _)
  refine ⟨u, rv, ?_⟩
  rcases S.par y (OO hp) with k | k
  ·exact .inl ⟨k, yx ndP hp hu k⟩
  ·obtain ⟨c, e⟩ := Bf (n := s.heap.objs.size + 1) k
   refine .inr ⟨.inl k, c, e, ?_⟩
   have q := x.cell y c e
   rw [yo ndP hp hu (by show scope.names.lookup y ≠ _; rw [k]; decide)] at q
   exact q
 ·exact e0.hok.fresh (Om (x.above y c (PySem.mem_of_lookup h)))
 ·unfold aI
  show _ = N.length
  rw [NO, NT, List.length_replicate]
  lia
theorem KE {CX : CXT} {P : Program} {w : World} {K : W.Frag} {mg : Str -> Option Value} {base : Heap} {k : Nat} {f : Addr} {name qual : Str} {params : Arguments} {body : List Stmt} {scope : Scope} {dV kV doc pm cdv ct oc : Value} {an od : Option Addr}
  {osl : Array (Option Value)} {N ps : List Str} {sp : Sp} (lk : K.lookup f = some ⟨oc, od, .func (W.fnOf name qual params body scope dV kV doc pm an cdv ct), osl⟩) (hcd : W.codeIn K cdv qual = true) (S : FnScope N ps scope)
  (len : ∀ vs H Q E, sp vs H Q E -> vs.length = ps.length)
  (hbody : ∀ (A : Around) (outer : List Env) (s : Shared) (H : Hp) (vs : List V) (Q : VK) (E : XK), Room k (A.deeper (envOfC qual scope s.heap.objs.size f cdv)) -> sp vs H Q E ->
   ∃ t, PSs (EU CX P w K mg base N qual scope f cdv A outer s H E) body t /\ t { nx := fun _ H' => Q .non H', rt := Q } (aI N vs) H) :
  FnOk P w K mg base CX (k + 1) f (W.fnOf name qual params body scope dV kV doc pm an cdv ct) ps sp := by
 refine ⟨len, fun A outer s H args us vs Q E hr e0 hb r hsp => ?_⟩
 have hl := len _ _ _ _ hsp
 have KX : K.In s.heap := e0.mod.kin.keeps fun b o e => (e0.bs b o e).1
 have lim : s.heap.NoLimit := e0.mod.nolimit.keeps fun b o e => (e0.bs b o e).1
 have hkind : ∀ y ∈ ps.zip us, scope.names.lookup y.1 = some .local \/ (scope.names.lookup y.1 = some .cell /\ ((cellsFrom (s.heap.objs.size + 1) scope.names []).lookup y.1).isSome = true) := fun hpt0 hy => by
  obtain ⟨n, v⟩ := hpt0
  rcases S.par n (List.of_mem_zip hy).1 with q | q
  ·exact .inl q
  ·exact .inr ⟨q, W.cellsFrom_some _ _ _ (.inl q)⟩
 refine codeAny_call_function hr.depth (KX _ _ lk) rfl S.co S.gen rfl (W.codeRec_of KX hcd) (hb _ _ _ _ ?_)
 refine wpAny_newFunctionEnv_cells S.kind hkind fun env he s1 x => ?_
 subst he
 refine ⟨lim.keeps x.toInCall.keep, codeAny_func ?_⟩
 obtain ⟨t, ht, hq⟩ := hbody A outer s H vs Q E (hr.deeper _) hsp
 have I : Inv (EU CX P w K mg base N qual scope f cdv A outer s H E) [] (aI N vs) H s1 := DI S hr.hd e0 hl r x
 refine wpAny_mono (ht [] s1 (aI N vs) H _ I hq) (fun fl s' hs => ?_) fun e s' hs => hs
 have fin : ∀ {σ' : St} {H' : Hp} {v : V} {u : Value}, Inv (EU CX P w K mg base N qual scope f cdv A outer s H E) [] σ' H' s' -> RelV v u -> Q v H' -> CE outer P w H s Q u s' :=
  fun {σ' H' v u} J rv q => ⟨v, H', J.os, J.bare, J.base, J.hok, rv, q⟩
 cases fl with
 | ret u =>
  obtain ⟨v, σ', H', J, rv, q⟩ := hs
  exact fin J rv q
 | next =>
  obtain ⟨σ', H', J, q⟩ := hs
  exact fin (v := V.non) (u := Value.none) J rfl q
 | brk =>
  obtain ⟨_, _, _, q⟩ := hs
  exact False.elim q
 | cont =>
  obtain ⟨_, _, _, q⟩ := hs
  exact False.elim q
section
variable {X : Cx} {x : Str} {p pos : Pos} {e : Expr} {es : List Expr} {t : TA} {id T : String} {r : List V -> Hp -> VK -> Prop}
noncomputable def tCB (r : List V -> Hp -> VK -> Prop) (t : TA) : TE := fun σ H Q => t σ H fun vs H1 => r vs H1 Q
theorem bI (hc : CallR X (.builtin id) r) (hg : Gl X x) (hm : X.mg x = none) (hv : bootBuiltins x = some (.builtin id)) (ha : PA X (e :: es) t) (hn : x ≠ "__name__" := by decide) (hdb : (x == ("__debug__" : Str)) = false := by decide)
  (he : starEach (e :: es) X.env = (false, eval e X.env) :: starEach es X.env := by rfl) (hpl : (backTo pos (starEach es X.env)).any (·.1) = false := by rfl) : PE X (.Call (.Name x p) (e :: es) [] pos) (tCB r t) := by
 intro pins s σ H Q I h
 refine wpAny_Call_Name_kw (sQ I hg hm hv ?_ hn hdb)
 exact PyProof.Rows.callWith_builtin1 (thn (ha pos pins s σ H _ I h) fun us s1 ⟨vs, H1, I1, r1, q1⟩ => hc pins s1 σ H1 vs us Q I1 r1 q1) he hpl
theorem dR (hc : CallR X (.type T) r) (hg : Gl X x) (hm : X.mg x = none) (hv : bootBuiltins x = some (.type T)) (ha : PA X (e :: es) t) (hn : x ≠ "__name__" := by decide) (hdb : (x == ("__debug__" : Str)) = false := by decide)
  (he : starEach (e :: es) X.env = (false, eval e X.env) :: starEach es X.env := by rfl) (hpl : (backTo pos (starEach es X.env)).any (·.1) = false := by rfl) : PE X (.Call (.Name x p) (e :: es) [] pos) (tCB r t) := by
 intro pins s σ H Q I h
 refine wpAny_Call_Name_kw (sQ I hg hm hv ?_ hn hdb)
 exact PyProof.Rows.callWith_type1 (thn (ha pos pins s σ H _ I h) fun us s1 ⟨vs, H1, I1, r1, q1⟩ => hc pins s1 σ H1 vs us Q I1 r1 q1) he hpl
end
end L2
namespace HT
open PySem PyProof.Rows
noncomputable def dh : List Int -> List Int -> Bool
 | [], [] => false
 | [], _ :: _ => true
 | _ :: _, [] => false
 | x :: xs, y :: ys => if x = y then dh xs ys else decide (x < y)
theorem BO (x y : Int) (xs ys : List Int) : dh (x :: xs) (y :: ys) = if x = y then dh xs ys else decide (x < y) := rfl
section
open PySem.SeqAt
open PySem.AutoSeq1 (wpAny_loadPart')
open PySem.MeetsSeq PySem.MeetsSeq2 PySem.MeetsSeq3
end
section
variable {prog : Program} {w : World} {A : Around} {E : Value -> Shared -> Prop} {s : Shared}
theorem HM {t b : Addr} {vs ws : List Value} {Q : Value -> Shared -> Prop} (ht : IsTup s.heap t vs.toArray) (hb : IsTup s.heap b ws.toArray) (hv : vs ≠ [])
  (h1 : ws = [] -> Q (.ref t) s) (h2 : ws ≠ [] -> Q (.ref s.heap.objs.size) { s with heap := s.heap.push { cls := .type "tuple", data := .seq (vs ++ ws).toArray } })
  (hsz : vs.length + ws.length <= sizeLine) : wpAny (model prog w) A (binaryOp .Add (.ref t) (.ref b)) Q E s := by
 obtain ⟨⟨cls, dd, data, sl⟩, ho, hc, n, hd⟩ := id ht
 obtain ⟨⟨cls2, dd2, data2, sl2⟩, ho2, hc2, n2, hd2⟩ := id hb
 simp only at hc hd hc2 hd2
 subst hc hd hc2 hd2
 have e : vs.toArray ++ ws.toArray = (vs ++ ws).toArray := by simp
 by_cases hw : ws = []
 ·exact concat_meets ⟨_, ho, rfl⟩ ⟨_, ho2, rfl⟩ noFill_tuple_add seq_tuple_add PySem.F.slot_tuple_add PySem.F.entry_tuple_add (PySem.F.args_tuple_add_2 _ _)
   (tuple_addW1 t b vs.toArray ws.toArray n n2 dd dd2 sl sl2 (by simpa using hv) (by simp [hw])) ⟨ho, ho2, h1 hw⟩
 ·refine concat_meets ⟨_, ho, rfl⟩ ⟨_, ho2, rfl⟩ noFill_tuple_add seq_tuple_add PySem.F.slot_tuple_add PySem.F.entry_tuple_add (PySem.F.args_tuple_add_2 _ _)
   (tuple_addW2 t b vs.toArray ws.toArray n n2 dd dd2 sl sl2 (by simpa using hv) (by simpa using hw) (by rw [NZ, NZ]; exact hsz)) ⟨ho, ho2, ?_⟩
  rw [e]
  exact h2 hw
noncomputable def sIx (n d : Nat) : Option Int -> Nat
 | none => d
 | some v => if v < 0 then (v + (n : Int)).toNat else min v.toNat n
theorem JZ (n d : Nat) (hd : d <= n) (o : Option Int) : sIx n d o <= n := by
 cases o with
 | none => exact hd
 | some v =>
  show (if v < 0 then (v + (n : Int)).toNat else min v.toNat n) <= n
  by_cases hv : v < 0
  ·rw [NF hv]; lia
  ·rw [NG hv]; exact Nat.min_le_right _ _
theorem C3 (v : Int) (n d : Nat) : (if v < 0 then max (v + (n : Int)) 0 else min v (n : Int)) = ((sIx n d (some v) : Nat) : Int) := by
 show (if v < 0 then max (v + (n : Int)) 0 else min v (n : Int)) = (((if v < 0 then (v + (n : Int)).toNat else min v.toNat n) : Nat) : Int)
 by_cases hv : v < 0
 ·simp only [NF hv]; lia
 ·simp only [NG hv]; lia
theorem BI (lo hi : Option Int) (n : Nat) : Builtin.Slice.sliceAdjust lo hi 1 (n : Int) = (((sIx n 0 lo : Nat) : Int), ((sIx n n hi : Nat) : Int)) := by
 have h1 : ¬ ((1 : Int) < 0) := by lia
 unfold Builtin.Slice.sliceAdjust
 simp only [h1, if_false]
 refine Prod.ext ?_ ?_
 ·cases lo with
  | none => rfl
  | some v => exact C3 v n 0
 ·cases hi with
  | none => rfl
  | some v => exact C3 v n n
theorem Ci (i j : Nat) : Builtin.Slice.slicePlaces (i : Int) (j : Int) 1 = j - i := by
 unfold Builtin.Slice.slicePlaces
 have h1 : (1 : Int) > 0 := by lia
 simp only [h1, if_true, Int.ediv_one]
 split <;> lia
theorem wG {v : Value} {o : Option Int} {Q : Option Int -> Shared -> Prop} (p : IsPart v o) (h : Q o s) : wpAny (model prog w) A (Builtin.Slice.slicePartIndex v) Q E s := by
 cases p with
 | none => exact slicePart_none h
 | int i t => exact slicePart_int h
theorem ll {sl : Addr} {vl vu : Value} {lo hi : Option Int} {n : Nat} {Q : Int × Int × Nat -> Shared -> Prop} (hs : s.heap.IsSliceOf sl vl vu .none) (pl : IsPart vl lo) (pu : IsPart vu hi)
  (h : Q (((sIx n 0 lo : Nat) : Int), 1, sIx n n hi - sIx n 0 lo) s) : wpAny (model prog w) A (Builtin.Slice.sliceApplied (.ref sl) (pure (n : Int))) Q E s := by
 obtain ⟨os, hos, hcs, hds⟩ := id hs
 unfold Builtin.Slice.sliceApplied Builtin.Slice.sliceFields
 refine NH (NH (wpAny_field hos hds (x := vl) rfl (NH (wpAny_field hos hds (x := vu) rfl (NH (wpAny_field hos hds (x := .none) rfl (NJ ?_)))))))
 refine NH (slicePart_none ?_)
 show wpAny _ _ (if ((1 : Int) == 0) = true then _ else _) _ _ s
 rw [NG (by decide)]
 refine NH (wG pl (NH (wG pu (NH (NJ ?_)))))
 show wpAny _ _ (match Builtin.Slice.sliceAdjust lo hi 1 (n : Int) with | (lo, hi) => pure (lo, (1 : Int), Builtin.Slice.slicePlaces lo hi 1)) _ _ s
 rw [BI lo hi n]
 show wpAny _ _ (pure (((sIx n 0 lo : Nat) : Int), (1 : Int), Builtin.Slice.slicePlaces ((sIx n 0 lo : Nat) : Int) ((sIx n n hi : Nat) : Int) 1)) _ _ s
 rw [Ci]
 exact NJ h
theorem Go (xs : Array Value) (i k : Nat) : ((List.range k).filterMap fun (m : Nat) => xs[((i : Int) + (m : Int) * 1).toNat]?).toArray = ((xs.toList.drop i).take k).toArray := by
 have e : (fun (m : Nat) => xs[((i : Int) + (m : Int) * 1).toNat]?) = fun m => xs[i + m]? := by
  funext m
  have : ((i : Int) + (m : Int) * 1).toNat = i + m := by lia
  rw [this]
 rw [e]
 have := pick_run xs i k
 rw [List.filterMap_map] at this
 have e2 : ((fun x => xs[x]?) ∘ fun x => i + x) = fun m => xs[i + m]? := rfl
 rw [e2] at this
 rw [this]
theorem rL {t sl : Addr} {items : Array Value} {vl vu : Value} {lo hi : Option Int} {Q : Value -> Shared -> Prop} (ht : IsTup s.heap t items) (hs : s.heap.IsSliceOf sl vl vu .none) (pl : IsPart vl lo) (pu : IsPart vu hi)
  (hw : ¬ (sIx items.size 0 lo = 0 /\ sIx items.size items.size hi = items.size))
  (h : Q (.ref s.heap.objs.size) { s with heap := s.heap.push { cls := .type "tuple", data := .seq ((items.toList.drop (sIx items.size 0 lo)).take (sIx items.size items.size hi - sIx items.size 0 lo)).toArray } })
  (hsz : items.size <= sizeLine) : wpAny (model prog w) A (getItem (.ref t) (.ref sl)) Q E s := by
 have htake : sizeOk (.seq ((items.toList.drop (sIx items.size 0 lo)).take (sIx items.size items.size hi - sIx items.size 0 lo)).toArray) := by
  show ((items.toList.drop (sIx items.size 0 lo)).take (sIx items.size items.size hi - sIx items.size 0 lo)).toArray.size <= sizeLine
  rw [NZ, List.length_take, List.length_drop, Ox]
  omega
 have hj : sIx items.size items.size hi <= items.size := JZ _ _ (NK _) hi
 obtain ⟨os, hos, hcs, hds⟩ := id hs
 have hTs : s.TypeIs (.ref sl) "slice" := ⟨os, hos, hcs⟩
 unfold getItem
 try with_reducible refine OB ?_
 first | refine NH (NJ ?_) | skip
 refine NH (wpAny_sequenceKey ht.typeIs (by decide) ?_)
 refine NH (wpAny_callSpecial?_slot (name := Str.ofString "__getitem__") ht.typeIs PyProof.Rows.slot_tuple_getitem
  (wpAny_call_entry PyProof.Rows.slot_tuple_getitem ht.typeIs entry_tuple_getitem ?_ (args_tuple_getitem _ _)))
 show wpAny _ _ (Builtin.Tuple.tupleItemsOf (.ref t) >>= _) _ _ s
 refine NH (tupleItemsOf_ ht ?_)
 refine NH (wpAny_typeOf hTs ?_)
 rw [NF (by decide)]
 refine NH (ll hs pl pu ?_)
 have hno : ¬ ((((sIx items.size 0 lo : Nat) : Int) == 0 && (1 : Int) == 1 && (sIx items.size items.size hi - sIx items.size 0 lo) == items.size) = true) := by
  intro q
  rw [Os, Os] at q
  have q1 : ((sIx items.size 0 lo : Nat) : Int) = 0 := eq_of_beq q.1.1
  have q2 : sIx items.size items.size hi - sIx items.size 0 lo = items.size := eq_of_beq q.2
  exact hw ⟨by omega, by omega⟩
 show wpAny _ _ (if (((sIx items.size 0 lo : Nat) : Int) == 0 && (1 : Int) == 1 && (sIx items.size items.size hi - sIx items.size 0 lo) == items.size) = true then _ else _) _ _ s
 rw [NG hno, Go]
 first
  | exact NH (m := Builtin.Tuple.tupleExact _) (Ot (NJ ⟨_, rfl, NJ h⟩) htake)
  | exact NH (m := Builtin.Tuple.tupleExact _) (Ot (NH (NJ (NJ ⟨_, rfl, NJ h⟩))) htake)
  | exact NH (NH (m := Builtin.Tuple.tupleExact _) (Ot (NJ (NJ ⟨_, rfl, NJ h⟩)) htake))
  | exact NH (NH (m := Builtin.Tuple.tupleExact _) (Ot (NJ ⟨_, rfl, NJ h⟩) htake))
end
end HT
namespace L2
open PySem PySem.Spec PyProof.Rows
noncomputable abbrev TO := St -> Hp -> (Option Int -> Hp -> Prop) -> Prop
def PO (X : Cx) (e : Option Expr) (t : TO) : Prop :=
 ∀ (pins : List (Addr × Obj)) (s : Shared) (σ : St) (H : Hp) (Q : Option Int -> Hp -> Prop), Inv X pins σ H s -> t σ H Q ->
  wpAny (model X.prog X.w) X.A (evalPart e X.env) (fun u s' => ∃ o H', Inv X pins σ H' s' /\ IsPart u o /\ Q o H') X.xe s
noncomputable def IK (t : TE) : TO := fun σ H Q => t σ H fun x H1 => ∃ i, x = .int i /\ Q (some i) H1
theorem qA {ns : List Int} : ∀ {us : List Value}, Vals (ns.map V.int) us -> IntsAre us ns := by
 induction ns with
 | nil => intro us r; rw [List.map_nil] at r; cases r; exact .nil
 | cons n ns ih =>
  intro us r
  rw [N1] at r
  cases r with
  | cons r1 r2 =>
   obtain ⟨t, e⟩ := r1
   subst e
   exact .cons n t (ih r2)
section
variable {X : Cx} {e : Expr} {te : TE} {lo hi : Option Expr} {tl th : TO} {pos p2 : Pos}
theorem DB (h : PE X e te) : PO X (some e) (IK te) := by
 intro pins s σ H Q I hw
 rw [evalPart_some]
 refine thn (h pins s σ H _ I hw) fun u s1 hpt9 => ?_
 obtain ⟨x, H1, I1, r1, q1⟩ := hpt9
 obtain ⟨i, rfl, q⟩ := q1
 obtain ⟨t, rfl⟩ := r1
 exact ⟨some i, H1, I1, .int i t, q⟩
def SlR (X : Cx) (r : V -> Option Int -> Option Int -> Hp -> VK -> Prop) : Prop :=
 ∀ (pins : List (Addr × Obj)) (s : Shared) (σ : St) (H : Hp) (x : V) (v vl vu : Value) (lo hi : Option Int) (sl : Addr) (Q : VK), Inv X pins σ H s -> RelV x v -> s.heap.IsSliceOf sl vl vu .none -> IsPart vl lo -> IsPart vu hi -> r x lo hi H Q ->
  ∃ T id, typeLookup (.type T) "__getitem__" = pure (some (.builtin id)) /\ s.TypeIs v T /\ wpAny (model X.prog X.w) X.A (getItem v (.ref sl)) (EP X pins σ Q) X.xe s
theorem SlR.or {r r' : V -> Option Int -> Option Int -> Hp -> VK -> Prop} (h : SlR X r) (h' : SlR X r') : SlR X (fun x lo hi H Q => r x lo hi H Q \/ r' x lo hi H Q) := by
 intro pins s σ H x v vl vu lo hi sl Q I rx hs pl pu q
 rcases q with q | q
 ·exact h pins s σ H x v vl vu lo hi sl Q I rx hs pl pu q
 ·exact h' pins s σ H x v vl vu lo hi sl Q I rx hs pl pu q
noncomputable def tSl (r : V -> Option Int -> Option Int -> Hp -> VK -> Prop) (te : TE) (tl th : TO) : TE := fun σ H Q => te σ H fun x H1 => tl σ H1 fun l H2 => th σ H2 fun u H3 => r x l u H3 Q
theorem Gz {r : V -> Option Int -> Option Int -> Hp -> VK -> Prop} (hr : SlR X r) (he : PE X e te) (hl : PO X lo tl) (hu : PO X hi th) : PE X (.Subscript e (.Slice lo hi none p2) pos) (tSl r te tl th) := by
 intro pins s σ H Q I h
 refine Subscript_ (thn (he pins s σ H _ I h) fun v s1 hpt9 => ?_)
 obtain ⟨x, H1, I1, r1, q1⟩ := hpt9
 refine wpAny_Slice (thn (hl pins s1 σ H1 _ I1 q1) fun vl s2 ⟨l, H2, I2, pl, q2⟩ => thn (hu pins s2 σ H2 _ I2 q2) fun vu s3 hpt9 => ?_)
 obtain ⟨u, H3, I3, pu, q3⟩ := hpt9
 rw [evalPart_none]
 refine NJ ?_
 have I4 : Inv X pins σ H3 { s3 with heap := s3.heap.push { cls := .type "slice", data := .fields #[vl, vu, .none] } } := I3.kept (t' := s3.toks) fun b ob q => NW _ q
 obtain ⟨T, id, hT, ht, hg⟩ := hr pins { s3 with heap := s3.heap.push { cls := .type "slice", data := .fields #[vl, vu, .none] } } σ H3 x v vl vu l u s3.heap.objs.size Q I4 r1 (Heap.IsSliceOf.new ..) pl pu q3
 show wpAny (model X.prog X.w) X.A (subscriptTail e (.Slice lo hi none p2) v (.ref s3.heap.objs.size)) (EP X pins σ Q) X.xe { s3 with heap := s3.heap.push { cls := .type "slice", data := .fields #[vl, vu, .none] } }
 exact tail_any (ops := [.ref s3.heap.objs.size, v]) ht hT hg (by with_unfolding_all rfl)
noncomputable def pK (xs : List V) (lo hi : Option Int) : List V := (xs.drop (HT.sIx xs.length 0 lo)).take (HT.sIx xs.length xs.length hi - HT.sIx xs.length 0 lo)
theorem t6 (xs : List V) (lo hi : Option Int) : (pK xs lo hi).length <= xs.length := by
 unfold pK
 rw [List.length_take, List.length_drop]
 lia
noncomputable def L5 (K : W.Frag) : V -> Option Int -> Option Int -> Hp -> VK -> Prop := fun x lo hi H Q => ∃ a xs, x = .ref a /\ SqT K H a xs /\
 ¬ (HT.sIx xs.length 0 lo = 0 /\ HT.sIx xs.length xs.length hi = xs.length) /\ ∀ p, H p = none -> Q (.ref p) (upd H p (.tup (pK xs lo hi)))
theorem Ki : SlR X (L5 X.K) := by
 intro pins s σ H x v vl vu lo hi sl Q I rx hs pl pu h
 obtain ⟨a, xs, rfl, hx, hw, q⟩ := h
 cases rx
 obtain ⟨its, r, ht, hz⟩ := I.tuple hx
 have hlen : its.toArray.size = xs.length := by rw [NZ]; exact r.length.symm
 refine ⟨"tuple", _, PyProof.Rows.slot_tuple_getitem.lookup, ht.typeIs, ?_⟩
 refine HT.rL ht hs pl pu (by rw [hlen]; exact hw) ?_ (by rw [hlen]; exact hz)
 rw [hlen]
 refine ⟨.ref s.heap.objs.size, _, I.laid (t' := s.toks) (o := .tup (pK xs lo hi)) (fun b ob q => NW _ q) (NK _) ?_, rfl, q _ (I.hok.fresh (NK _))⟩
 exact ⟨N6 (t6 xs lo hi) hz, _, (r.drop (HT.sIx xs.length 0 lo)).take (HT.sIx xs.length xs.length hi - HT.sIx xs.length 0 lo), IsTup.new _ _⟩
theorem Vals.nil_iff {xs : List V} {us : List Value} (r : Vals xs us) : us = [] ↔ xs = [] := by
 cases r with
 | nil => simp
 | cons _ _ => simp
end
noncomputable def ixN (n : Nat) (i : Int) : Option Nat := if 0 <= i then (if i < n then some i.toNat else none) else if -(n : Int) <= i then some (i + n).toNat else none
noncomputable def atI {α : Type} (xs : List α) (i : Int) : Option α := (ixN xs.length i).bind fun j => xs[j]?
theorem CV {n : Nat} {i : Int} {j : Nat} (h : ixN n i = some j) : seqIndex? i n = some j /\ j < n /\ -(n : Int) <= i /\ i < n := by
 unfold ixN at h
 by_cases h0 : 0 <= i
 ·rw [NF h0] at h
  by_cases h1 : i < n
  ·rw [NF h1] at h
   have e : i.toNat = j := Oc h
   exact ⟨by rw [seqIndex_of h0 h1, e], by lia, by lia, h1⟩
  ·rw [NG h1] at h; cases h
 ·rw [NG h0] at h
  by_cases h1 : -(n : Int) <= i
  ·rw [NF h1] at h
   have e : (i + n).toNat = j := Oc h
   exact ⟨by rw [seqIndex_neg (by lia) h1, e], by lia, h1, by lia⟩
  ·rw [NG h1] at h; cases h
theorem zT {α : Type} {xs : List α} {i : Int} {v : α} (h : atI xs i = some v) : ∃ j, seqIndex? i xs.length = some j /\ xs[j]? = some v /\ j < xs.length /\ -(xs.length : Int) <= i /\ i < xs.length := by
 unfold atI at h
 cases e : ixN xs.length i with
 | none => rw [e] at h; cases h
 | some j =>
  rw [e] at h
  obtain ⟨h1, h2, h3, h4⟩ := CV e
  exact ⟨j, h1, h, h2, h3, h4⟩
def HX (b : Expr) : Prop := ∀ o i, subscripted b false o i = operate [o, i] (getItem o i)
def IxR (X : Cx) (r : R2) : Prop :=
 ∀ (value slice : Expr) (pins : List (Addr × Obj)) (s : Shared) (σ : St) (H : Hp) (x y : V) (v u : Value) (Q : VK), Inv X pins σ H s -> RelV x v -> RelV y u -> r x y H Q ->
  subscripted slice false v u = operate [v, u] (getItem v u) -> wpAny (model X.prog X.w) X.A (subscriptTail value slice v u) (EP X pins σ Q) X.xe s
def MtR (X : Cx) (id : String) (r : V -> List V -> Hp -> VK -> Prop) : Prop :=
 ∀ (pins : List (Addr × Obj)) (s : Shared) (σ : St) (H : Hp) (x : V) (xs : List V) (v : Value) (us : List Value) (Q : VK), Inv X pins σ H s -> RelV x v -> Vals xs us -> r x xs H Q ->
  wpAny (model X.prog X.w) X.A (call (.builtin id) (v :: us)) (EP X pins σ Q) X.xe s
section
variable {X : Cx} {a b : Expr} {ta tb : TE} {pos : Pos}
theorem IxR.or {r r' : R2} (h : IxR X r) (h' : IxR X r') : IxR X (fun x y H Q => r x y H Q \/ r' x y H Q) := by
 intro value slice pins s σ H x y v u Q I rx ry q hs
 rcases q with q | q
 ·exact h value slice pins s σ H x y v u Q I rx ry q hs
 ·exact h' value slice pins s σ H x y v u Q I rx ry q hs
theorem br {r : R2} (hr : IxR X r) (ha : PE X a ta) (hb : PE X b tb) (hs : HX b) : PE X (.Subscript a b pos) (tOp r ta tb) := by
 intro pins s σ H Q I h
 exact Subscript_ (JB ha hb I h fun v u s2 x y H2 I2 rx ry q => hr a b pins s2 σ H2 x y v u Q I2 rx ry q (hs _ _))
noncomputable def Ls (K : W.Frag) : R2 := fun x y H Q => ∃ p xs i v, x = .ref p /\ y = .int i /\ SqL K H p xs /\ atI xs i = some v /\ Q v H
noncomputable def K6 (K : W.Frag) : R2 := fun x y H Q => ∃ p xs i v, x = .ref p /\ y = .int i /\ SqT K H p xs /\ atI xs i = some v /\ Q v H
noncomputable def KG : R2 := fun x y H Q => ∃ z i c, x = .str z /\ y = .int i /\ z.length <= sizeLine /\ atI z.cps.toList i = some c /\ Q (.str ⟨#[c]⟩) H
theorem ix_list : IxR X (Ls X.K) := by
 intro value slice pins s σ H x y v u Q I rx ry h hs
 obtain ⟨p, xs, i, z, rfl, rfl, hq, he, q⟩ := h
 cases rx
 obtain ⟨t, rfl⟩ := ry
 obtain ⟨its, r, pl, hz⟩ := I.list hq
 obtain ⟨j, h1, h2, h3, h4, h5⟩ := zT he
 obtain ⟨w, ew, rw'⟩ := r.get h2
 have hl := r.length
 have hn := pN
 have fin : EP X pins σ Q w s := ⟨z, H, I, rw', q⟩
 by_cases h0 : 0 <= i
 ·have hj : i.toNat = j := by
   rw [seqIndex_of h0 h5] at h1
   exact Oc h1
  exact item_listR pl.isList h0 (by lia) (by rw [hj]; simpa using ew) fin hs
 ·have hj : (i + (its.toArray.size : Int)).toNat = j := by
   rw [seqIndex_neg (by lia) h4] at h1
   rw [NZ, <- hl]
   exact Oc h1
  exact subscriptTail_builtinR (x := w) pl.isList.typeIs slot_list_getitem.lookup
   (wpAny_getItem_list_neg (Q := fun r s' => r = w /\ EP X pins σ Q r s') pl.isList (by lia) (by rw [NZ] <;> lia) (by lia) (by rw [hj]; simpa using ew) ⟨rfl, fin⟩) hs
theorem ix_tup : IxR X (K6 X.K) := by
 intro value slice pins s σ H x y v u Q I rx ry h hs
 obtain ⟨p, xs, i, z, rfl, rfl, hq, he, q⟩ := h
 cases rx
 obtain ⟨t, rfl⟩ := ry
 obtain ⟨its, r, pl, hz⟩ := I.tuple hq
 obtain ⟨j, h1, h2, h3, h4, h5⟩ := zT he
 obtain ⟨w, ew, rw'⟩ := r.get h2
 have hl := r.length
 have hn := pN
 have fin : EP X pins σ Q w s := ⟨z, H, I, rw', q⟩
 exact subscriptTail_builtinR (x := w) pl.typeIs slot_tuple_getitem.lookup
  (getItem_tuple (j := j) (Q := fun r s' => r = w /\ EP X pins σ Q r s') pl (by lia) (by lia) (by rw [NZ, <- hl]; exact h1) (by simpa using ew) ⟨rfl, fin⟩) hs
theorem JE : IxR X KG := by
 intro value slice pins s σ H x y v u Q I rx ry h hs
 obtain ⟨z, i, c, rfl, rfl, hz, he, q⟩ := h
 obtain ⟨t, rfl⟩ := rx
 obtain ⟨t', rfl⟩ := ry
 obtain ⟨j, h1, h2, h3, h4, h5⟩ := zT he
 have hl : z.cps.toList.length = z.length := by simp [Str.length]
 rw [hl] at h1 h4 h5
 have hn := pN
 exact tail_any (typeIs_str s z t) slot_str_getitem.lookup (getItem_str (c := c) (by
  have e1 : decide (i < -(2 ^ 63 : Int)) = false := Oj (by lia)
  have e2 : decide (i ≥ 2 ^ 63) = false := Oj (by lia)
  rw [e1, e2, Bool.or_false]) (by rw [h1]; simpa using h2) ⟨.str ⟨#[c]⟩, H, I.tok _, ⟨_, rfl⟩, q⟩) hs
noncomputable def rIx (K : W.Frag) : R2 := fun x y H Q => Ls K x y H Q \/ K6 K x y H Q \/ KG x y H Q
theorem aO : IxR X (rIx X.K) := ix_list.or (ix_tup.or JE)
theorem Cb (its : List Value) (n j : Nat) (u : Value) : Obj.mapSeq (·.setIfInBounds j u) { cls := .type "list", data := .seq its.toArray n } = { cls := .type "list", data := .seq (its.set j u).toArray n } := by
 simp [Obj.mapSeq]
theorem Inv.lst {pins : List (Addr × Obj)} {σ : St} {H : Hp} {s : Shared} {p : Addr} {xs : List V} (I : Inv X pins σ H s) (h : H p = some (.lst xs)) :
  ∃ (its : List Value) (n : Nat), Vals xs its /\ s.heap.get? p = some { cls := .type "list", data := .seq its.toArray n } /\ xs.length <= sizeLine := by
 obtain ⟨z, its, n, r, e⟩ := I.hok p _ h
 exact ⟨its, n, r, e, z⟩
theorem Inv.lstUpd {pins : List (Addr × Obj)} {σ : St} {H : Hp} {s : Shared} {p : Addr} {xs ys : List V} {its its' : List Value} {n n' : Nat} {f : Obj -> Obj} (I : Inv X pins σ H s) (h : H p = some (.lst xs))
  (ho : s.heap.get? p = some { cls := .type "list", data := .seq its.toArray n }) (hf : f { cls := .type "list", data := .seq its.toArray n } = { cls := .type "list", data := .seq its'.toArray n' }) (r : Vals ys its') (hz : ys.length <= sizeLine) (t : Nat) :
  Inv X pins σ (upd H p (.lst ys)) { s with heap := s.heap.update p f, toks := t } := by
 have e : (s.heap.update p f).get? p = some { cls := .type "list", data := .seq its'.toArray n' } := by
  rw [Heap.get?_update_self f ho (by rw [hf] <;> rfl), hf]
 refine I.write (x := p) (e := p) (by rw [h]; trivial) (.inl rfl) (fun b u hb q => (Heap.get?_update_other _ _ (Oe hb)).trans q) ⟨_, e⟩ ?_
 exact ⟨hz, its', n', r, e⟩
noncomputable def Jb : V -> V -> V -> Hp -> (Hp -> Prop) -> Prop := fun o i v H Q => ∃ p xs k j, o = .ref p /\ i = .int k /\ H p = some (.lst xs) /\ ixN xs.length k = some j /\ Q (upd H p (.lst (xs.set j v)))
theorem An : Lp X Jb := by
 intro pins s σ H o i v ov iv u Q I ro ri rv h
 obtain ⟨p, xs, k, j, rfl, rfl, hp, hj, q⟩ := h
 cases ro
 obtain ⟨t, rfl⟩ := ri
 obtain ⟨its, n, r, ho, hz⟩ := I.lst hp
 obtain ⟨h1, h2, h3, h4⟩ := CV hj
 have hl := r.length
 have hn := pN
 have I' : Inv X pins σ (upd H p (.lst (xs.set j v))) { s with heap := s.heap.update p (Obj.mapSeq (·.setIfInBounds j u)) } :=
  I.lstUpd hp ho (Cb its n j u) (r.set rv j) (by rw [Oy]; exact hz) s.toks
 by_cases h0 : 0 <= k
 ·have hk : k.toNat = j := by
   rw [seqIndex_of h0 h4] at h1
   exact Oc h1
  exact W.ki_setAt ho h0 (by lia) (by rw [NZ, <- hl]; exact h4) (by rw [hk]; exact ⟨_, I', q⟩)
 ·have hk : (k + (its.toArray.size : Int)).toNat = j := by
   rw [seqIndex_neg (by lia) h3] at h1
   rw [NZ, <- hl]
   exact Oc h1
  exact W.ki_setBack ho (by lia) (by rw [NZ, <- hl]; exact h3) (by lia) (by rw [hk]; exact ⟨_, I', q⟩)
theorem zj (lo hi : Option Int) (n : Nat) : (sliceBounds lo hi none n).1 = ((HT.sIx n 0 lo : Nat) : Int) /\ (sliceBounds lo hi none n).2.1 = ((HT.sIx n n hi : Nat) : Int) /\ (sliceBounds lo hi none n).2.2 = 1 := by
 refine ⟨?_, ?_, rfl⟩
 ·cases lo with
  | none => simp [sliceBounds, HT.sIx]
  | some i =>
   simp only [sliceBounds, HT.sIx, Option.getD_none, show (1 : Int) > 0 by decide, if_true]
   by_cases h : i < 0
   ·simp only [h, if_true] <;> lia
   ·simp only [h, if_false] <;> lia
 ·cases hi with
  | none => simp [sliceBounds, HT.sIx]
  | some i =>
   simp only [sliceBounds, HT.sIx, Option.getD_none, show (1 : Int) > 0 by decide, if_true]
   by_cases h : i < 0
   ·simp only [h, if_true] <;> lia
   ·simp only [h, if_false] <;> lia
theorem xG (its : List Value) (lo hi : Option Int) : slicePick its.toArray lo hi none = ((its.drop (HT.sIx its.length 0 lo)).take (HT.sIx its.length its.length hi - HT.sIx its.length 0 lo)).toArray := by
 obtain ⟨h1, h2, h3⟩ := zj lo hi its.toArray.size
 unfold slicePick
 rw [h1, h2, h3]
 simp only [sliceRange_one, pick_run, NZ] <;> rfl
noncomputable def K9 (K : W.Frag) : V -> Option Int -> Option Int -> Hp -> VK -> Prop := fun x lo hi H Q => ∃ a xs, x = .ref a /\ SqL K H a xs /\ ∀ p, H p = none -> Q (.ref p) (upd H p (.lst (pK xs lo hi)))
theorem HC : SlR X (K9 X.K) := by
 intro pins s σ H x v vl vu lo hi sl Q I rx hs pl pu h
 obtain ⟨a, xs, rfl, hx, q⟩ := h
 cases rx
 obtain ⟨its, r, ht, hz⟩ := I.list hx
 have hlen := r.length
 refine ⟨"list", _, slot_list_getitem.lookup, ht.isList.typeIs, ?_⟩
 refine wpAny_getItem_list_slice ht.isList hs pl pu .none (by simp) ?_ (by rw [NZ] <;> lia)
 rw [xG, <- hlen]
 refine ⟨.ref s.heap.objs.size, _, I.laid (t' := s.toks) (o := .lst (pK xs lo hi)) (fun b ob q => NW _ q) (NK _) ?_, rfl, q _ (I.hok.fresh (NK _))⟩
 exact ⟨N6 (t6 xs lo hi) hz, _, 0, (r.drop (HT.sIx xs.length 0 lo)).take (HT.sIx xs.length xs.length hi - HT.sIx xs.length 0 lo), Od _ rfl⟩
theorem CallR.or {f : Value} {r r' : List V -> Hp -> VK -> Prop} (h : CallR X f r) (h' : CallR X f r') : CallR X f (fun xs H Q => r xs H Q \/ r' xs H Q) := by
 intro pins s σ H xs us Q I rs q
 rcases q with q | q
 ·exact h pins s σ H xs us Q I rs q
 ·exact h' pins s σ H xs us Q I rs q
theorem bZ : CallR X (.type "tuple") (fun xs H Q => ∃ p ys, xs = [.ref p] /\ ((SqL X.K H p ys /\ ∀ l, H l = none -> Q (.ref l) (upd H l (.tup ys))) \/ (SqT X.K H p ys /\ Q (.ref p) H))) := by
 intro pins s σ H xs us Q I r h
 obtain ⟨p, ys, rfl, h⟩ := h
 obtain ⟨u, rfl, rx⟩ := z8 r
 cases rx
 rcases h with ⟨hq, q⟩ | ⟨hq, q⟩
 ·obtain ⟨its, r', pl, hz⟩ := I.list hq
  have hlen := r'.length
  refine call_tuple_list pl.isList (fun h' kp => ?_) (by simp only [NZ] <;> lia)
  have I1 : Inv X pins σ H { s with heap := h' } := I.kept (t' := s.toks) kp
  have I2 : Inv X pins σ (upd H h'.objs.size (.tup ys)) { s with heap := h'.push { cls := .type "tuple", data := .seq its.toArray } } :=
   I1.laid (t' := s.toks) (fun b o e => NW _ e) (NK _) (show ObjOk X.prog X.w _ _ _ (.tup ys) from ⟨hz, its, r', IsTup.new _ _⟩)
  exact ⟨.ref h'.objs.size, _, I2, rfl, q _ (I1.hok.fresh (NK _))⟩
 ·obtain ⟨its, r', pl, hz⟩ := I.tuple hq
  exact call_tuple_same pl ⟨.ref p, H, I, rfl, q⟩
def tyV (K : W.Frag) (T : String) (x : V) (H : Hp) : Prop := match x with
 | .str _ => T = "str"
 | .int _ => T = "int"
 | .ref p => (T = "list" /\ ∃ xs, SqL K H p xs) \/ (T = "tuple" /\ ∃ o, K.lookup p = some o /\ o.cls = .type "tuple" /\ o.dict = none) \/
   (T = "dict" /\ ((∃ kvs, H p = some (.dK kvs)) \/ ∃ kvs, H p = some (.dT kvs))) \/ (T = "set" /\ ∃ S n, H p = some (.set S n))
 | _ => False
theorem F6 {pins : List (Addr × Obj)} {σ : St} {H : Hp} {s : Shared} {T : String} {x : V} {v : Value} (I : Inv X pins σ H s) (r : RelV x v) (ty : tyV X.K T x H) :
  s.TypeIs v T /\ ∀ a, v = .ref a -> ∃ ob, s.heap.get? a = some ob /\ ob.dict = none := by
 cases x with
 | str z =>
  obtain ⟨t, rfl⟩ := r
  cases (show T = "str" from ty)
  exact ⟨typeIs_str s z t, fun _ e => nomatch e⟩
 | int i =>
  obtain ⟨t, rfl⟩ := r
  cases (show T = "int" from ty)
  exact ⟨typeIs_int s i t, fun _ e => nomatch e⟩
 | ref p =>
  cases r
  rcases ty with ⟨rfl, xs, hq⟩ | ⟨rfl, o, hk, hc, hd⟩ | ⟨rfl, hk⟩ | ⟨rfl, S, n, hk⟩
  ·obtain ⟨its, _, pl, _⟩ := I.list hq
   refine ⟨pl.isList.typeIs, fun a e => ?_⟩
   cases e
   obtain ⟨o, n, e, c, hd, _⟩ := pl
   exact ⟨o, e, hd⟩
  ·refine ⟨⟨o, I.kIn p o hk, hc⟩, fun a e => ?_⟩
   cases e
   exact ⟨o, I.kIn _ o hk, hd⟩
  ·have z : ∃ o, s.heap.get? p = some o /\ o.ExactDict := by
    rcases hk with ⟨kvs, hk⟩ | ⟨kvs, hk⟩
    ·obtain ⟨_, _, _, _, o, _, _, e, ex, _⟩ := I.hok p _ hk
     exact ⟨o, e, ex⟩
    ·obtain ⟨_, _, _, _, o, _, _, e, ex, _⟩ := I.hok p _ hk
     exact ⟨o, e, ex⟩
   obtain ⟨o, e, ex⟩ := z
   refine ⟨⟨o, e, ex.1⟩, fun a e2 => ?_⟩
   cases e2
   exact ⟨o, e, ex.2.1⟩
  ·obtain ⟨o, _, _, _, e, ex, _⟩ := I.hok p _ hk
   refine ⟨⟨o, e, ex.1⟩, fun a e2 => ?_⟩
   cases e2
   exact ⟨o, e, ex.2.1⟩
 | _ => exact False.elim ty
noncomputable def Ku (K : W.Frag) (T : String) (r : V -> List V -> Hp -> VK -> Prop) (to : TE) : TE := fun σ H Q => to σ H fun x H1 => tyV K T x H1 /\ r x [] H1 Q
noncomputable def tBM (K : W.Frag) (T : String) (r : V -> List V -> Hp -> VK -> Prop) (to : TE) (t : TA) : TE := fun σ H Q => to σ H fun x H1 => tyV K T x H1 /\ t σ H1 fun xs H2 => r x xs H2 Q
variable {o e : Expr} {es : List Expr} {to : TE} {t : TA} {name : Str} {apos cpos : Pos} {T id : String} {r : V -> List V -> Hp -> VK -> Prop}
theorem JQ (pa : PlainAttrs T) (slot : Slot T name id) (hty : typeOf (.builtin id) = pure (.type "method_descriptor")) (hm : MtR X id r) (ho : PE X o to)
  (hbase : attributeBase o name X.env (eval o X.env) = eval o X.env := by rfl) (hline : (apos.endLine == cpos.line) = true := by rfl) : PE X (.Call (.Attribute o name apos) [] [] cpos) (Ku X.K T r to) := by
 intro pins s σ H Q I h
 refine wpAny_Call_method0_late hbase hline (thn (ho pins s σ H _ I h) fun v s1 hpt9 => ?_)
 obtain ⟨x, H1, I1, r1, ty, q1⟩ := hpt9
 obtain ⟨h1, h2⟩ := F6 I1 r1 ty
 exact ⟨T, id, pa, slot, hty, h1, h2, Calls.callWith_builtin rfl (PySem.evalArgs_none (hm pins s1 σ H1 x [] v [] Q I1 r1 .nil q1))⟩
theorem oO (pa : PlainAttrs T) (slot : Slot T name id) (hty : typeOf (.builtin id) = pure (.type "method_descriptor")) (hm : MtR X id r) (ho : PE X o to) (ha : PA X (e :: es) t)
  (hbase : attributeBase o name X.env (eval o X.env) = eval o X.env := by rfl)
  (hfew : ((backTo cpos (starEach (e :: es) X.env)).all (fun x => !x.1) && (backToKw cpos (keywordEach [] X.env)).all (fun x => x.1.isSome)
   && decide ((e :: es).length + ([] : List Keyword).length + (if ([] : List Keyword).isEmpty then 0 else 1) < 30)) = true := by rfl)
  (hline : (apos.endLine == cpos.line) = true := by rfl) (hs : starEach (e :: es) X.env = (false, eval e X.env) :: starEach es X.env := by rfl) (hplain : (backTo cpos (starEach es X.env)).any (·.1) = false := by rfl) :
  PE X (.Call (.Attribute o name apos) (e :: es) [] cpos) (tBM X.K T r to t) := by
 intro pins s σ H Q I h
 refine wpAny_Call_method_late hbase hfew hline rfl (thn (ho pins s σ H _ I h) fun v s1 hpt9 => ?_)
 obtain ⟨x, H1, I1, r1, ty, q1⟩ := hpt9
 obtain ⟨h1, h2⟩ := F6 I1 r1 ty
 refine ⟨T, id, pa, slot, hty, h1, h2, ?_⟩
 have hA := ha cpos pins s1 σ H1 _ I1 q1
 rw [hs] at hA ⊢
 refine Calls.callWith_builtin (by show (false || (backTo cpos (starEach es X.env)).any (·.1)) = false; rw [hplain] <;> rfl) (Calls.evalArgs_plain ?_)
 exact thn hA fun us s2 ⟨vs, H2, I2, r2, q2⟩ => hm pins s2 σ H2 x vs v us Q I2 r1 r2 q2
end
def MtM (X : Cx) (id : String) (r : V -> List V -> Hp -> VK -> Prop) : Prop :=
 ∀ (pins : List (Addr × Obj)) (s : Shared) (σ : St) (H : Hp) (x : V) (xs : List V) (v : Value) (us : List Value) (Q : VK), Inv X pins σ H s -> RelV x v -> Vals xs us -> r x xs H Q ->
  wpAny (model X.prog X.w) X.A (call (.builtin id) (v :: us)) (EP X pins σ Q) X.xe s
theorem Vals.one {x : V} {us : List Value} (h : Vals [x] us) : ∃ u, us = [u] /\ RelV x u := by
 cases h with
 | cons r t => cases t; exact ⟨_, rfl, r⟩
theorem Vals.two {x y : V} {us : List Value} (h : Vals [x, y] us) : ∃ u v, us = [u, v] /\ RelV x u /\ RelV y v := by
 cases h with
 | cons r t =>
  cases t with
  | cons q t => cases t; exact ⟨_, _, rfl, r, q⟩
theorem Vals.zero : ∀ {us : List Value}, Vals [] us -> us = []
 | _, .nil => rfl
theorem Vals.dropLast {xs : List V} {us : List Value} (h : Vals xs us) : Vals xs.dropLast us.dropLast := by
 induction h with
 | nil => exact .nil
 | cons r t ih =>
  cases t with
  | nil => exact .nil
  | cons q t' => exact .cons r ih
theorem BW {α : Type} (l : List α) : l.eraseIdx (l.length - 1) = l.dropLast := by
 induction l with
 | nil => rfl
 | cons a r ih =>
  cases r with
  | nil => rfl
  | cons b r =>
   have e : (a :: b :: r).length - 1 = ((b :: r).length - 1) + 1 := by
    have h1 : (a :: b :: r).length = r.length + 2 := rfl
    have h2 : (b :: r).length = r.length + 1 := rfl
    lia
   rw [e, List.eraseIdx_cons_succ, ih]
   all_goals rfl
section
variable {X : Cx} {pins : List (Addr × Obj)} {σ : St} {H : Hp} {s : Shared} {l b : Addr} {xs ys zs : List V}
theorem Inv.lset {its its' : List Value} {n : Nat} {f : Array Value -> Array Value} {t' : Nat} (I : Inv X pins σ H s) (hH : H l = some (.lst xs))
  (e : s.heap.get? l = some { cls := .type "list", data := .seq its.toArray n }) (hf : f its.toArray = its'.toArray) (hv : Vals ys its') (hz : ys.length <= sizeLine) :
  Inv X pins σ (upd H l (.lst ys)) { s with heap := s.heap.update l (Obj.mapSeq f), toks := t' } := by
 have q := PySem.IsL.update e f
 rw [hf] at q
 refine I.write (x := l) (e := l) (by rw [hH]; exact trivial) (.inl rfl) (fun b' u hb hu => (Heap.get?_update_other s.heap (Obj.mapSeq f) (Oe hb)).trans hu) ⟨_, q⟩ ?_
 exact ⟨hz, its', _, hv, q⟩
theorem Inv.lnew {its : List Value} {t' : Nat} (I : Inv X pins σ H s) (hv : Vals ys its) (hz : ys.length <= sizeLine) :
  Inv X pins σ (upd H s.heap.objs.size (.lst ys)) { s with heap := s.heap.push { cls := .type "list", data := .seq its.toArray }, toks := t' } :=
 I.laid (fun _ _ q => NW _ q) (NK _) ⟨hz, its, 0, hv, Od _ rfl⟩
theorem Inv.fresh (I : Inv X pins σ H s) : H s.heap.objs.size = none := I.hok.fresh (NK _)
theorem Inv.lstM (I : Inv X pins σ H s) (hH : H l = some (.lst xs)) : xs.length <= sizeLine /\ ∃ (its : List Value) (n : Nat), Vals xs its /\ xs.length = its.length /\ s.heap.get? l = some { cls := .type "list", data := .seq its.toArray n } := by
 obtain ⟨z, its, n, r, e⟩ := I.hok l _ hH
 exact ⟨z, its, n, r, r.length, e⟩
theorem GU {n : Nat} (h : n <= sizeLine) : Builtin.List.listTooLong n = false := by
 unfold Builtin.List.listTooLong
 exact Oj (by lia)
end
section
variable {X : Cx}
noncomputable def rAppend : V -> List V -> Hp -> VK -> Prop := fun x vs H Q => ∃ l xs y, x = .ref l /\ vs = [y] /\ H l = some (.lst xs) /\ xs.length < sizeLine /\ Q .non (upd H l (.lst (xs ++ [y])))
theorem eF : MtM X "list.append" rAppend := by
 intro pins s σ H x vs v us Q I rx rv h
 obtain ⟨l, xs, y, rfl, rfl, hH, hz, q⟩ := h
 cases rx
 obtain ⟨u, rfl, ru⟩ := rv.one
 obtain ⟨z, its, n, r, hl, e⟩ := I.lstM hH
 refine call_meets F.slot_list_append ⟨_, e, rfl⟩ F.entry_list_append (F.args_list_append_2 _ _) (PySem.list_append l its.toArray n u (by rw [NZ]; lia)) ⟨e, ?_⟩
 refine ⟨.non, _, I.lset (its' := its ++ [u]) hH e (by simp) (r.append (.cons ru .nil)) ?_, rfl, q⟩
 rw [NO, Oi]
 lia
noncomputable def rPop : V -> List V -> Hp -> VK -> Prop := fun x vs H Q => ∃ l xs y, x = .ref l /\ vs = [] /\ H l = some (.lst xs) /\ xs[xs.length - 1]? = some y /\ Q y (upd H l (.lst xs.dropLast))
theorem Kn : MtM X "list.pop" rPop := by
 intro pins s σ H x vs v us Q I rx rv h
 obtain ⟨l, xs, y, rfl, rfl, hH, hy, q⟩ := h
 cases rx
 have hus := rv.zero
 subst hus
 obtain ⟨z, its, n, r, hl, e⟩ := I.lstM hH
 obtain ⟨u, hu, ru⟩ := r.get hy
 have hy' : its.toArray[its.toArray.size - 1]? = some u := by
  show its.toArray[its.length - 1]? = some u
  rw [<- Oz, <- hl]
  exact hu
 refine call_meets F.slot_list_pop ⟨_, e, rfl⟩ F.entry_list_pop (F.args_list_pop_1 _) (MeetsSeq.list_pop_last l its.toArray n u hy' (by rw [NZ]; lia)) ⟨e, ?_⟩
 refine ⟨y, _, I.lset (its' := its.dropLast) hH e ?_ r.dropLast ?_, ru, q⟩
 ·show its.toArray.eraseIdxIfInBounds (its.toArray.size - 1) = its.dropLast.toArray
  rw [NZ, List.eraseIdxIfInBounds_toArray, BW]
 ·rw [List.length_dropLast]
  lia
end
section
variable {prog : Program} {w : World} {A : Around} {E : Value -> Shared -> Prop} {s : Shared}
end
section
variable {X : Cx}
end
end L2
namespace Att
open PySem PySem.W PySem.Calls PyProof.Rows
theorem uZ {P : Params} {h : Heap} : ∀ (ns : List Int) (vs : List Value), WellAll P h vs (ns.map WData.int) -> IntsAre vs ns := by
 intro ns
 induction ns with
 | nil =>
  intro vs w
  rw [List.map_nil] at w
  cases w
  exact .nil
 | cons n ns ih =>
  intro vs w
  rw [N1] at w
  cases w with
  | cons a b =>
   cases a
   exact .cons _ _ (ih _ b)
theorem EI {l : OpenLaw} {n : Nat} (hn : l.most = some n) {P : Params} {h : Heap} {args : List WData} {vals : List Value}
  (hpre : l.row.toRowW.claim.pre args = true) (hwl : WellAll P h vals args) :
  ∃ a vs ns, vals = [Value.ref a] /\ args = [WData.list (ns.map WData.int)] /\ h.get? a = some { cls := .type "list", data := .seq vs.toArray } /\ IntsAre vs ns /\ ns.length <= n := by
 have hsh : WShape.hasAll [] args [.list .int] = true := (pre_splitW hpre).1
 have hc : l.pre.holds [] { args := args } = true := (pre_splitW hpre).2
 obtain ⟨d, r, rfl, h1, h2⟩ := hasAllW_cons hsh
 obtain rfl := hasAllW_nil h2
 obtain ⟨xs, rfl, h3⟩ := hasW_list h1
 obtain ⟨ns, rfl⟩ := items_int h3
 have hlen : ns.length <= n := by
  unfold OpenLaw.pre at hc
  have h4 : (WTm.not (.lt (.lit (.int (n : Int))) (.len (.arg 0)))).holds [] { args := [.list (ns.map .int)] } = true := by
   have h4 := (holds_andW hc).1
   rw [hn] at h4
   exact h4
  have h5 := condW_of h4 (w_not (w_lt w_lit (w_len_list (w_arg rfl))))
  rw [NT] at h5
  refine Nat.le_of_not_lt fun q => ?_
  have q' : (n : Int) < ((ns.length : Nat) : Int) := by omega
  first
   | (rw [OP q'] at h5; exact absurd h5 (by decide))
   | (simp at h5; omega)
 cases hwl with
 | cons w1 w2 =>
  cases w2
  cases w1 with
  | list ho hall => exact ⟨_, _, ns, rfl, rfl, ho, uZ ns _ hall, hlen⟩
theorem EH (l : OpenLaw) (args : List WData) : l.row.toRowW.claim.post args (.bool true) args = true :=
 postW_of (r := l.row.toRowW) (X := (true == true))
  (show WShape.has [] (.bool true) .bool = true by first | rfl | decide | simp [WShape.has, WShape.arms, WShape.armsAll])
  (show (WTm.eq .res (.lit (.bool true))).value [] { args := args, res := some (.bool true), after := args } = some (.bool (true == true)) from w_eq_bool (w_res rfl) w_lit) rfl
theorem Ae {l : OpenLaw} {n : Nat} {q : Program} {loose : List Str} {XP : (Str -> Option Value) -> Heap -> Prop} {YP : World -> Heap -> Prop} {d : DefRec}
  (hn : l.most = some n) (hdf : d.params.defaults = [])
  (call : ∀ (w : World) (s₀ s₁ : Shared) (mg mb : Str -> Option Value) (fa : Addr) (o : Obj) (pm cd doc : Value) (a : Addr) (vs : List Value) (ns : List Int),
   Ground q loose [] XP w s₀ mg mb s₁.heap -> YP w s₁.heap ->
   s₁.heap.get? fa = some o -> o.data = .func (docDef d.name d.params d.body d.scope pm cd doc) -> s₁.heap.CodeRec cd d.name -> mg d.name = some (.ref fa) ->
   s₁.heap.get? a = some { cls := .type "list", data := .seq vs.toArray } -> IntsAre vs ns -> ns.length <= n -> s₁.gens = #[] ->
   codeAny (model l.prog w) callerA (.call (.ref fa) ⟨[.ref a], []⟩) (fun r s' => r = .ok (.ret (.bool true)) /\ OldK s₁.heap s'.heap /\ s'.os = s₁.os /\ AllBare s'.gens) s₁) :
  WalkO q loose XP YP l.row.toRowW d [] (fun f vs => PySem.call f vs) := by
 intro w s₀ s₁ mg mb G Y fa o pm cd doc dV kV ho hd hcd hD hmg hg args vals as hpre hlay hrd hwl hlo
 obtain rfl : dV = .none := Dflts.none hD hdf
 obtain rfl : kV = .none := Dflts.noKw hD
 obtain ⟨a, vs, ns, rfl, rfl, hobj, hints, hlen⟩ := EI hn hpre hwl
 refine enter_call (codeAny_mono (call w s₀ s₁ mg mb fa o pm cd doc a vs ns G Y ho (fd_plain hd) hcd hmg hobj hints hlen hg) fun r s' hq => ?_)
 obtain ⟨rfl, h2, h3, h4⟩ := hq
 exact ⟨.inl ⟨.bool true, .bool true, [], rfl, fun _ => rfl, .bool true, EH l _, fun _ => ⟨List.Pairwise.nil, fun _ hm => (nomatch hm)⟩⟩, h2, h3, h4⟩
section
variable {prog : Program} {w : World} {A : Around} {E : Value -> Shared -> Prop} {s : Shared} {K : Frag}
end
end Att
namespace L2
open PySem PySem.Spec PyProof.Rows
theorem yG : ∀ {vs : List Value} {ns : List Int}, IntsAre vs ns -> Vals (ns.map V.int) vs
 | _, _, .nil => .nil
 | _, _, .cons n t h => .cons ⟨t, rfl⟩ (yG h)
def Kl (H : Hp) : Prop := ∀ b, H b = none \/ ∃ o xs, H b = some (.frz o (.lst xs))
theorem He {P : Program} {w : World} {K : W.Frag} {mg mb : Str -> Option Value} {CX : CXT} {k : Nat} {fa a : Addr} {fd : FuncData} {x : Str} {sp : Sp} {s₁ : Shared} {vs : List Value} {ns : List Int}
  (KX : K.In s₁.heap) (hns : s₁.heap.Ns mainGlobals mg) (hb : s₁.heap.Ns builtinsNs mb) (hbb : ∀ x : Str, x ≠ "__name__" -> mb x = bootBuiltins x) (hlim : s₁.heap.NoLimit) (hg : s₁.gens = #[])
  (ha : s₁.heap.get? a = some { cls := .type "list", data := .seq vs.toArray }) (hi : IntsAre vs ns) (hl : ns.length <= sizeLine) (hr : Room k callerA)
  (F : ∀ base : Heap, K.In base -> base.Ns mainGlobals mg -> FnOk P w K mg base CX k fa fd [x] sp) (hbind : ∀ (s : Shared) (u : Value), BindsTo s fd ⟨[u], []⟩ [(x, u)])
  (hsp : ∀ H : Hp, Kl H -> SqL K H a (ns.map V.int) -> sp [.ref a] H (fun v _ => v = .bl true) fun _ _ _ => False)
  (hCX : ∀ H e s', CX [] H s₁ (fun _ _ _ => False) e s' -> False) :
  codeAny (model P w) callerA (.call (.ref fa) ⟨[.ref a], []⟩) (fun r s' => r = .ok (.ret (.bool true)) /\ OldK s₁.heap s'.heap /\ s'.os = s₁.os /\ AllBare s'.gens) s₁ := by
 have rv := yG hi
 have lenV := hi.length
 -- from an abstract heap in which nothing but the script may be tracked
 have core : ∀ H : Hp, Kl H -> SqL K H a (ns.map V.int) -> HOk P w H s₁.heap -> (∀ b, H b ≠ none -> b = a) -> (H a ≠ none -> K.lookup a = none) ->
   codeAny (model P w) callerA (.call (.ref fa) ⟨[.ref a], []⟩) (fun r s' => r = .ok (.ret (.bool true)) /\ OldK s₁.heap s'.heap /\ s'.os = s₁.os /\ AllBare s'.gens) s₁ := by
  intro H hO hS hok hA hK
  have base_of : ∀ {b : Addr} {o : Obj}, s₁.heap.get? b = some o -> H b = none -> (zD s₁.heap H).get? b = some o := fun e n => FU e n
  have noA : ∀ {b : Addr} {o : Obj} {es : Array DictEntry} {ep : Nat}, s₁.heap.get? b = some o -> o.data = .dict es ep -> H b = none := fun {b o es ep} e d => by
   cases q : H b with
   | none => rfl
   | some u =>
    have e' : b = a := hA b (by rw [q]; simp)
    subst e'
    rw [ha] at e; cases e
    have d' : Data.seq vs.toArray _ = Data.dict es ep := d
    cases d'
  have nsK : ∀ {b : Addr} {m : Str -> Option Value}, s₁.heap.Ns b m -> (zD s₁.heap H).Ns b m := fun {b m} ⟨o, es, ep, e, d, r⟩ => ⟨o, es, ep, base_of e (noA e d), d, r⟩
  have hKb : K.In (zD s₁.heap H) := fun b o e => base_of (KX b o e) (by
   cases q : H b with
   | none => rfl
   | some u =>
    have e' : b = a := hA b (by rw [q]; simp)
    subst e'
    rw [hK (by rw [q]; simp)] at e; cases e)
  have hM : Mod K mg (zD s₁.heap H) := ⟨hKb, nsK hns, ⟨mb, nsK hb, hbb⟩, let ⟨mc, h1, h2⟩ := hlim; ⟨mc, nsK h1, h2⟩⟩
  have e0 : Env0 P w K mg (zD s₁.heap H) callerA [] s₁ H := ⟨rfl, hM, fun b o e => IE e, Nat.le_of_eq (EY _ _), trivial, fun b hb => absurd (show b ∈ ([] : List Addr) from hb) (by simp), hok, .of_eq hg⟩
  refine codeAny_mono ((F _ hKb (nsK hns)).run callerA [] s₁ H ⟨[.ref a], []⟩ [.ref a] [.ref a] _ _ hr e0 (hbind s₁ (.ref a)) (.cons rfl .nil) (hsp H hO hS)) fun r s' h => ?_
  cases r with
  | error e => exact (hCX H e s' h).elim
  | ok fl =>
   cases fl with
   | next => exact False.elim h
   | brk => exact False.elim h
   | cont => exact False.elim h
   | ret u =>
    obtain ⟨v, H', os, bare, un, hok', r', q⟩ := h
    have q' : v = .bl true := q
    subst q'
    obtain rfl : u = Value.bool true := r'
    refine ⟨rfl, OldK.of_keep fun b o e => ?_, os, bare⟩
    cases q : H b with
    | none => exact un.keep b o e q (by intro z; exact absurd (show b ∈ ([] : List Addr) from z) (by simp)) (by simp)
    | some u =>
     rcases hO b with z | ⟨ob, xs, z⟩
     ·rw [q] at z; cases z
     ·have z2 := un.frzs b ob _ z
      obtain ⟨e1, _⟩ := hok b _ z
      obtain ⟨e2, _⟩ := hok' b _ z2
      rw [e] at e1; cases e1
      exact e2
 cases hk : K.lookup a with
 | some o =>
  -- the script is one of the module's own objects
  have e := KX a o hk
  rw [ha] at e
  cases e
  refine core (fun _ => none) (fun _ => .inl rfl) (.inr ⟨_, vs.toArray, _, hk, rfl, rfl, rfl, by rw [NZ, lenV]; exact hl, by simpa using rv⟩) (fun b u z => by have z' : (none : Option HO) = some u := z; cases z') (fun b z => absurd rfl z) fun z => absurd rfl z
 | none =>
  refine core (fun b => if b = a then some (.frz { cls := .type "list", data := .seq vs.toArray } (.lst (ns.map V.int))) else none) (fun b => ?_) (.inl (.inr ⟨{ cls := .type "list", data := .seq vs.toArray }, NF rfl⟩)) (fun b u z => ?_) (fun b z => ?_) fun _ => hk
  ·by_cases hb : b = a
   ·exact .inr ⟨_, _, NF hb⟩
   ·exact .inl (NG hb)
  ·by_cases hb : b = a
   ·have z' := (NF hb).symm.trans z
    cases z'
    subst hb
    exact ⟨ha, by rw [NT]; exact hl, vs, _, rv, ha⟩
   ·have z' := (NG hb).symm.trans z
    cases z'
  ·by_cases hb : b = a
   ·exact hb
   ·exact absurd (NG hb) z
theorem HF {l : W.OpenLaw} {n k : Nat} {q : Program} {loose : List Str} {XP : (Str -> Option Value) -> Heap -> Prop} {YP : World -> Heap -> Prop} {d : DefRec} {K : Params -> W.Frag} {CX : World -> CXT} {sp : World -> Sp} {x : Str}
  (hn : l.most = some n) (hn2 : n <= sizeLine) (hdf : d.params.defaults = []) (hr : Room k callerA)
  (hY : ∀ (w : World) (h : Heap), YP w h -> (K w.params).In h)
  (F : ∀ (w : World) (mg : Str -> Option Value) (fa : Addr) (h : Heap), (K w.params).In h -> h.Ns mainGlobals mg -> mg d.name = some (.ref fa) ->
   ∃ fd : FuncData, (∀ (s : Shared) (u : Value), BindsTo s fd ⟨[u], []⟩ [(x, u)]) /\
    ∀ base : Heap, (K w.params).In base -> base.Ns mainGlobals mg -> FnOk l.prog w (K w.params) mg base (CX w) k fa fd [x] (sp w))
  (hsp : ∀ (w : World) (H : Hp) (a : Addr) (ns : List Int), ns.length <= n -> Kl H -> SqL (K w.params) H a (ns.map V.int) -> sp w [.ref a] H (fun v _ => v = .bl true) fun _ _ _ => False)
  (hCX : ∀ (w : World) (H : Hp) (s : Shared) (e : Value) (s' : Shared), CX w [] H s (fun _ _ _ => False) e s' -> False) :
  W.WalkO q loose XP YP l.row.toRowW d [] (fun f vs => PySem.call f vs) := by
 refine Att.Ae hn hdf fun w s₀ s₁ mg mb fa o pm cd doc a vs ns G Y ho hd hcd hmg hobj hints hlen hg => ?_
 have KX := hY w _ Y
 obtain ⟨fd, hb, hF⟩ := F w mg fa _ KX G.T.g hmg
 exact He KX G.T.g G.T.b G.T.builtins G.T.nolimit hg hobj hints (N6 hlen hn2) hr hF hb (fun H hO hS => hsp w H a ns hlen hO hS) fun H e s' => hCX w H s₁ e s'
noncomputable def lX (s : Stmt) (j : Nat) : Stmt := match s with
 | .ClassDef _ _ _ body _ _ _ _ _ _ _ => body.getD j (.Pass ⟨0, 0, 0, 0⟩)
 | _ => .Pass ⟨0, 0, 0, 0⟩
noncomputable def ba (s : Stmt) : Arguments := match s with
 | .FunctionDef _ a _ _ _ _ _ _ _ _ => a
 | _ => { posonlyargs := [], args := [], vararg := none, kwonlyargs := [], kw_defaults := [], kwarg := none, defaults := [] }
noncomputable def a5 (s : Stmt) : List Stmt := match s with
 | .FunctionDef _ _ b _ _ _ _ _ _ _ => b
 | _ => []
noncomputable def aj (s : Stmt) : Scope := match s with
 | .FunctionDef _ _ _ _ _ _ sc _ _ _ => sc
 | _ => { kind := .function, names := [], isGenerator := false, isCoroutine := false }
noncomputable abbrev CX0 : CXT := fun _ _ _ _ _ _ => False
noncomputable abbrev E0 : XK := fun _ _ _ => False
theorem bh {X : Cx} : lI CX0 X E0 := fun _ _ _ _ _ _ _ h => h.elim
structure Fun (K : W.Frag) (x qual : Str) (st : Stmt) (f : Addr) (fd : FuncData) : Prop where
 ex : ∃ (oc : Value) (od : Option Addr) (kV doc pm : Value) (an : Option Addr) (cdv ct : Value) (osl : Array (Option Value)),
  fd = W.fnOf x qual (ba st) (a5 st) (aj st) .none kV doc pm an cdv ct /\ K.lookup f = some ⟨oc, od, .func fd, osl⟩ /\ W.codeIn K cdv qual = true
 kp : W.keepIn K (.ref f) = true
section
variable {P : Program} {w : World} {K : W.Frag} {mg : Str -> Option Value} {base : Heap}
theorem Fun.ok {x qual : Str} {st : Stmt} {f : Addr} {fd : FuncData} {N ps : List Str} {k : Nat} {sp : Sp} (F : Fun K x qual st f fd) (S : FnScope N ps (aj st)) (len : ∀ vs H Q E, sp vs H Q E -> vs.length = ps.length)
  (hbody : ∀ (cdv : Value) (A : Around) (outer : List Env) (s : Shared) (H : Hp) (vs : List V) (Q : VK) (E : XK), Room k (A.deeper (envOfC qual (aj st) s.heap.objs.size f cdv)) -> sp vs H Q E ->
   ∃ t, PSs (EU CX0 P w K mg base N qual (aj st) f cdv A outer s H E).nox (a5 st) t /\ t { nx := fun _ H' => Q .non H', rt := Q } (aI N vs) H) : FnOk P w K mg base CX0 (k + 1) f fd ps sp := by
 obtain ⟨oc, od, kV, doc, pm, an, cdv, ct, osl, rfl, lk, hcd⟩ := F.ex
 refine KE lk hcd S len fun A outer s H vs Q E hr hsp => ?_
 obtain ⟨t, h, q⟩ := hbody cdv A outer s H vs Q E hr hsp
 exact ⟨t, h.nox, q⟩
theorem Fun.binds {x qual : Str} {st : Stmt} {f : Addr} {fd : FuncData} {ps : List Str} (F : Fun K x qual st f fd)
  (h : ∀ (kV doc pm : Value) (an : Option Addr) (cdv ct : Value) (us : List Value), us.length = ps.length -> bindArgs (W.fnOf x qual (ba st) (a5 st) (aj st) .none kV doc pm an cdv ct) ⟨us, []⟩ = pure (ps.zip us)) : Binds K fd ps [] := by
 obtain ⟨oc, od, kV, doc, pm, an, cdv, ct, osl, rfl, lk, hcd⟩ := F.ex
 exact .all (h kV doc pm an cdv ct)
theorem cA {x qual : Str} {st : Stmt} {f : Addr} {oc : Value} {od an : Option Addr} {osl : Array (Option Value)} {kV doc pm cdv ct : Value} (l : K.lookup f = some ⟨oc, od, .func (W.fnOf x qual (ba st) (a5 st) (aj st) .none kV doc pm an cdv ct), osl⟩)
  (c : W.codeIn K cdv qual = true) (k : W.keepIn K (.ref f) = true) : Fun K x qual st f (W.fnOf x qual (ba st) (a5 st) (aj st) .none kV doc pm an cdv ct) := ⟨⟨oc, od, kV, doc, pm, an, cdv, ct, osl, rfl, l, c⟩, k⟩
end
section
variable {X : Cx}
theorem pv (i : Nat) {x : Str} {pos : Pos} (hN : X.N[i]? = some x := by rfl) (hv : Vis X.env.scope x := by first | exact Or.inl rfl | exact Or.inr (.inl rfl) | exact Or.inr (.inr rfl)) (hd : (x == ("__debug__" : Str)) = false := by decide)
  (hcd : (x == ("__classdict__" : Str)) = false := by decide) : PE X (.Name x pos) (ut i) := JF hN hv hd hcd
end
theorem EO {A B : Prop} (h : B) : if false = true then A else B := by
 rw [NG OC]
 exact h
theorem DS {A B : Prop} (h : A) : if true = true then A else B := by
 rw [NF rfl]
 exact h
def Same (H H' : Hp) : Prop := ∀ b o, H b = some o -> H' b = some o
theorem Same.refl (H : Hp) : Same H H := fun _ _ h => h
theorem Same.trans {H H1 H2 : Hp} (a : Same H H1) (b : Same H1 H2) : Same H H2 := fun c o h => b c o (a c o h)
theorem Same.free {H H' : Hp} (e : Same H H') {l : Addr} (h : H' l = Option.none) : H l = Option.none := by
 cases q : H l with
 | none => rfl
 | some o =>
  rw [e l o q] at h
  cases h
end L2
set_option linter.all false
set_option maxHeartbeats 4000000
set_option maxRecDepth 100000
namespace Hd
open PySem PySem.W PySem.Calls PyProof.Rows
noncomputable def Hh (stp : SharedT -> Thread -> Option (SharedT × Thread)) (ok : Thread -> Bool) : Nat -> SharedT -> Thread -> Option SharedT
 | 0, _, _ => none
 | n + 1, s, t => match through t with
  | true => some s
  | false => match ok t with
   | false => none
   | true => match stp s t with
    | some (s', t') => Hh stp ok n s' t'
    | none => none
theorem yK {tb : String -> Option Builtin} {p : Program} {w : World} {n₀ : Nat} {ann : Option Value} : ∀ (n : Nat) (s : SharedT) (t : Thread) (r : SharedT), Hh (stepT (denote tb) p w) (stepOk n₀ ann) n s t = some r -> topRun tb p w n₀ ann n s.abs t = some r.abs
 | 0, _, _, _, h => by cases h
 | n + 1, s, t, r, h => by
  unfold Hh at h
  unfold topRun
  cases ht : through t with
  | true => rw [ht] at h; cases h; rfl
  | false =>
   rw [ht] at h
   cases hk : stepOk n₀ ann t with
   | false => rw [hk] at h; cases h
   | true =>
    rw [hk] at h
    cases hs : stepT (denote tb) p w s t with
    | none => rw [hs] at h; cases h
    | some x =>
     obtain ⟨s', t'⟩ := x
     rw [hs] at h
     rw [stepT_spec hs]
     exact yK n s' t' r h
noncomputable def GC : List Obj -> Nat -> BT -> BT
 | [], _, t => t
 | o :: l, n, t => GC l (n + 1) (t.ins n o)
noncomputable def T0 (P : Params) : BT := GC (boot_heap P).objs.toList 0 .nil
theorem Lc (P : Params) : absHeap (T0 P) 11 (boot_heap P).life = boot_heap P := by kernel_rfl
theorem sz (P : Params) : ((boot_heap P).isNs mainGlobals, (boot_heap P).objs.size, (boot_heap P).nsMap mainGlobals "__annotations__") = (true, 11, some (.ref 6)) := by kernel_rfl
noncomputable def S0 (w : World) (os : OsState) : SharedT := ⟨T0 w.params, 11, (boot_heap w.params).life, Array.mk [], boot_drawn, boot_toks, os⟩
theorem Iz {p q : Program} {loose : List Str} {Xt : Shared -> Bool} {α : Type} {Yf : Shared -> α} {Ya : World -> α} {N M : Nat} {g0 : Bool}
  (open_ : ∀ w : World, (fencedOpening treeTable p w N).map (fun s => (s.heap, s.gens, s.drawn, s.toks)) = some (boot_heap w.params, Array.mk [], boot_drawn, boot_toks)) (le : Nat.ble M N = true)
  (big : ∀ w : World, (fun os => (Hh (stepT (denote treeTable) p w) (stepOk 11 (some (.ref 6))) M (S0 w os) (topStub p)).map fun r => ((staticsOk (importedModules p.main.body) (boot_heap w.params) r.abs.heap && namesBound p r.abs.heap && gensDone r.abs && laidKept (boot_heap w.params) r.abs.heap),
    openSeen q loose (importedModules p.main.body) Xt g0 r.abs, Yf r.abs)) = fun _ => some (true, openGood q loose, Ya w)) : LeftO p q loose Xt Yf Ya N g0 := fun w => by
 obtain ⟨⟨h, gs, d, k, os⟩, e, e'⟩ := Option.map_eq_some_iff.mp (open_ w)
 obtain ⟨rfl, rfl, rfl, rfl⟩ : h = boot_heap w.params /\ gs = Array.mk [] /\ d = boot_drawn /\ k = boot_toks := by simpa using e'
 obtain ⟨z1, z2, z3⟩ : _ /\ _ /\ _ := by simpa only [Prod.mk.injEq] using sz w.params
 obtain ⟨r, hr, hb⟩ := Option.map_eq_some_iff.mp (congrFun (big w) os)
 obtain ⟨l1, l2, l3⟩ : _ /\ _ /\ _ := by simpa only [Prod.mk.injEq] using hb
 have ha : (S0 w os).abs = ⟨boot_heap w.params, Array.mk [], boot_drawn, boot_toks, os⟩ := by
  unfold S0 SharedT.abs
  dsimp only
  rw [Lc]
 have t := topRun_mono (N - M) _ _ _ _ (yK _ _ _ _ hr)
 rw [show M + (N - M) = N by have := Nat.le_of_ble_eq_true le; lia, ha] at t
 have t2 : topFrom treeTable p w N ⟨boot_heap w.params, Array.mk [], boot_drawn, boot_toks, os⟩ = some r.abs := by
  unfold topFrom
  dsimp only
  rw [z1, z2, z3, t]
  show (match staticsOk (importedModules p.main.body) (boot_heap w.params) r.abs.heap && namesBound p r.abs.heap && gensDone r.abs && laidKept (boot_heap w.params) r.abs.heap with | true => _ | false => _) = _
  rw [l1]
 unfold openEnds
 rw [e]
 show (topFrom treeTable p w N _).map _ = _
 rw [t2]
 exact congrArg some (Prod.ext l2 l3)
theorem Iw {p q : Program} {loose : List Str} {Xt : Shared -> Bool} {α : Type} {Yf : Shared -> α} {Ya : World -> α} {g0 : Bool}
  (open_ : ∀ w : World, (fencedOpening treeTable p w 100000).map (fun s => (s.heap, s.gens, s.drawn, s.toks)) = some (boot_heap w.params, Array.mk [], boot_drawn, boot_toks))
  (big : ∀ w : World, (fun os => (Hh (Fast.tw10156331382660048174 (Fast.tw11892475500146522536 Fast.tw14364793385576792824) p w) (Fast.tw6613529449190102663 11 (some (.ref 6))) 100000 (S0 w os) (topStub p)).map fun r => ((staticsOk (Fast.tw5923862056798008813 p.main.body) (boot_heap w.params) r.abs.heap && namesBound p r.abs.heap && gensDone r.abs && laidKept (boot_heap w.params) r.abs.heap),
    Fast.tw4187177175401517315 q loose (Fast.tw5923862056798008813 p.main.body) Xt g0 r.abs, Yf r.abs)) = fun _ => some (true, openGood q loose, Ya w)) : LeftO p q loose Xt Yf Ya 100000 g0 := by
 rw [<- Fast.te10156331382660048174, <- Fast.te11892475500146522536, <- Fast.te14364793385576792824, <- Fast.te6613529449190102663, <- Fast.te5923862056798008813, <- Fast.te4187177175401517315] at big
 exact Iz open_ rfl big
theorem Hq {l : OpenLaw} (h : Fast.tw9446332074065402090 l = true) : l.wellSaid = true := by
 rw [Fast.te9446332074065402090]
 exact h
end Hd
namespace L2
open PySem PySem.Spec PyProof.Rows
structure CmpOk (XN : List Str) (sc scope : Scope) (N : List Str) (js : List (Option Nat)) : Prop where
 kind : scope.kind = .function
 cell : ∀ y ∈ scope.names, y.2 ≠ .cell
 free : ∀ y ∈ scope.names, y.2 = .free -> sc.names.lookup y.1 = some .cell \/ sc.names.lookup y.1 = some .free
 loc : ∀ y ∈ scope.names, y.2 = .local -> scope.names.lookup y.1 = some .local
 len : js.length = N.length
 ix : ((N.zip js).all fun p => match p.2 with | none => true | some j => decide (XN[j]? = some p.1) && decide (scope.names.lookup p.1 = some .free)) = true
noncomputable def g7 (env : Env) : List (Str × NameKind) -> List (Str × Addr) -> List (Str × Addr)
 | [], cs => cs
 | (n, k) :: r, cs => g7 env r (if k = .free then (match env.cells.lookup n with | some c => (n, c) :: cs | none => cs) else cs)
theorem wN {env : Env} : ∀ {names : List (Str × NameKind)} {cs : List (Str × Addr)}, (∀ n c, cs.lookup n = some c -> env.cells.lookup n = some c) -> ∀ n c, (g7 env names cs).lookup n = some c -> env.cells.lookup n = some c
 | [], _, h => h
 | (m, k) :: r, cs, h => by
  unfold g7
  refine wN ?_
  split
  ·cases e : env.cells.lookup m with
   | none => exact h
   | some d =>
    intro n c hn
    dsimp only at hn
    rw [N8] at hn
    cases q : n == m with
    | true =>
     rw [q] at hn
     have e1 : n = m := by simpa using q
     cases hn
     rw [e1]; exact e
    | false => rw [q] at hn; exact h n c hn
  ·exact h
theorem wC {env : Env} : ∀ {names : List (Str × NameKind)} {cs : List (Str × Addr)} {n : Str}, ((n, NameKind.free) ∈ names /\ (∃ c, env.cells.lookup n = some c)) \/ (∃ c, cs.lookup n = some c) -> ∃ c, (g7 env names cs).lookup n = some c
 | [], _, _, h => h.elim (fun z => by cases z.1) id
 | (m, k) :: r, cs, n, h => by
  unfold g7
  refine wC ?_
  rcases h with ⟨hm, c, hc⟩ | ⟨c, hc⟩
  ·rcases NQ.mp hm with e | hm
   ·cases e
    right
    rw [NF rfl, hc]
    exact ⟨c, by rw [N8]; simp⟩
   ·exact .inl ⟨hm, c, hc⟩
  ·right
   split
   ·cases e : env.cells.lookup m with
    | none => exact ⟨c, hc⟩
    | some d =>
     dsimp only
     rw [N8]
     cases q : n == m with
     | true => exact ⟨d, rfl⟩
     | false => exact ⟨c, hc⟩
   ·exact ⟨c, hc⟩
theorem p8 {env : Env} {scope : Scope} (h : ∀ y ∈ scope.names, y.2 = .free -> ∃ c, env.cells.lookup y.1 = some c) : closureFor scope env = pure (g7 env scope.names []) := by
 have key : ∀ (names : List (Str × NameKind)) (cs : List (Str × Addr)), (∀ y ∈ names, y.2 = .free -> ∃ c, env.cells.lookup y.1 = some c) ->
   (forIn names cs (fun (x : Str × NameKind) r => if (x.2 == NameKind.free) = true then (do let a ← cellOf env x.1; pure (ForInStep.yield ((x.1, a) :: r))) else pure (ForInStep.yield r)) : Sem (List (Str × Addr))) = pure (g7 env names cs) := by
  intro names
  induction names with
  | nil => intro cs _; rfl
  | cons y r ih =>
   intro cs hy
   obtain ⟨n, k⟩ := y
   rw [List.forIn_cons]
   unfold g7
   by_cases hk : k = .free
   ·subst hk
    obtain ⟨c, hc⟩ := hy _ NL rfl
    have e1 : cellOf env n = pure c := by unfold cellOf; rw [hc]
    rw [NF (by rfl)]
    rw [NF rfl, hc]
    show ((cellOf env n >>= fun a => pure (ForInStep.yield ((n, a) :: cs))) >>= _) = _
    rw [e1]
    exact ih _ fun z hz => hy z (NN _ hz)
   ·have hb : (k == NameKind.free) = false := by simpa using hk
    rw [NG (by rw [hb]; decide), NG hk]
    exact ih _ fun z hz => hy z (NN _ hz)
 have k := key scope.names [] h
 unfold closureFor
 show (forIn scope.names ([] : List (Str × Addr)) _ >>= fun cs => pure cs) = _
 refine Eq.trans (congrArg (fun t => t >>= fun cs => pure cs) (Eq.trans ?_ k)) rfl
 congr 1
theorem p6 {env : Env} : ∀ {names : List (Str × NameKind)} {x : Str}, names.lookup x = some .free ->
  (names.map fun (n, k) => if (k == NameKind.free && env.scope.kind == .function && env.kindOf n == some .cell) then (n, NameKind.cell) else (n, k)).lookup x = some .cell \/
  (names.map fun (n, k) => if (k == NameKind.free && env.scope.kind == .function && env.kindOf n == some .cell) then (n, NameKind.cell) else (n, k)).lookup x = some .free
 | [], _, h => by simp at h
 | (n, k) :: r, x, h => by
  have ih := @p6 env r x
  rw [N1]
  dsimp only
  cases q : x == n with
  | true =>
   rw [N8, q] at h
   cases h
   split
   ·left; rw [N8, q]
   ·right; rw [N8, q]
  | false =>
   rw [N8, q] at h
   split
   ·rw [N8, q]; exact ih h
   ·rw [N8, q]; exact ih h
theorem p0 {env : Env} : ∀ {names : List (Str × NameKind)} {x : Str} {j : NameKind}, (∀ y ∈ names, y.2 ≠ .cell) -> (j = .cell \/ j = .free) ->
  (names.map fun (n, k) => if (k == NameKind.free && env.scope.kind == .function && env.kindOf n == some .cell) then (n, NameKind.cell) else (n, k)).lookup x = some j -> (x, NameKind.free) ∈ names
 | [], _, _, _, _, h => by simp at h
 | (n, k) :: r, x, j, hc, hj, h => by
  have ih := @p0 env r x j (fun y hy => hc y (NN _ hy)) hj
  rw [N1] at h
  dsimp only at h
  cases q : x == n with
  | true =>
   have e : x = n := by simpa using q
   subst e
   split at h
   ·rename_i g
    have : k = .free := by
     simp only [Os, beq_iff_eq] at g
     exact g.1.1
    subst this
    exact NL
   ·rw [N8, q] at h
    cases h
    rcases hj with z | z
    ·exact absurd z (hc _ NL)
    ·rw [z]; exact NL
  | false =>
   refine NN _ (ih ?_)
   split at h
   ·rw [N8, q] at h; exact h
   ·rw [N8, q] at h; exact h
noncomputable def inn (js : List (Option Nat)) (σ : St) : St := js.map fun o => match o with | none => none | some j => (σ[j]?).join
structure CxZ where
 cl : List (Str × Addr)
 C : Addr
 s : Shared
 H : Hp
 fp : List Addr
 pins : List (Addr × Obj)
noncomputable def cxC (X : Cx) (N : List Str) (scope : Scope) (z : CxZ) : Cx where
 prog := X.prog
 w := X.w
 K := X.K
 mg := X.mg
 base := X.base
 A := X.A
 N := N
 s₀ := z.s
 H₀ := z.H
 env := compEnvC scope z.cl z.C X.env
 outer := X.stack
 stack := X.stack
 ex := z.fp
 fn := fun _ => false
 calm := X.calm
 pn := X.pn ++ z.pins
 xe := fun _ _ => False
section
variable {X : Cx} {pins : List (Addr × Obj)} {σ : St} {H : Hp} {s : Shared} {XN N : List Str} {sc scope : Scope} {js : List (Option Nat)}
theorem GL {h1 : Heap} {m : Str -> Option Value} {tk : Nat} {fp : List Addr} (ck : CmpOk XN sc scope N js) (hXN : X.N = XN) (hsc : X.env.scope = sc) (I : Inv X pins σ H s) (hf : ∀ b ∈ fp, sf X pins H b)
  (hfo : ∀ b ∈ fp, b < s.heap.objs.size) (hn : h1.Ns s.heap.objs.size m) (hk : ∀ b o, s.heap.get? b = some o -> h1.get? b = some o) :
  Inv (cxC X N scope ⟨g7 X.env scope.names [], s.heap.objs.size, s, H, fp, pins⟩) [] (inn js σ) H { s with heap := h1, toks := tk } := by
 subst hXN hsc
 have sub : ∀ n c, (g7 X.env scope.names []).lookup n = some c -> X.env.cells.lookup n = some c := wN fun n c h => by simp at h
 have clt : ∀ n c, (g7 X.env scope.names []).lookup n = some c -> c < s.heap.objs.size := fun n c h => by
  obtain ⟨v, q⟩ := I.cell n c (sub n c h)
  exact q.lt
 have has : ∀ x, (x, NameKind.free) ∈ scope.names -> ∃ c, (g7 X.env scope.names []).lookup x = some c := fun x hx =>
  wC (.inl ⟨hx, I.ok.has x (ck.free _ hx rfl)⟩)
 refine ⟨⟨I.ok.mod, ck.kind, I.ok.glob, I.ok.blt, NK _, fun x y c h1 h2 => I.ok.inj x y c (sub x c h1) (sub y c h2), fun x hx => ?has, fun x c hx => ?cab, I.ok.hd, I.ok.frames, .inl rfl, fun b hb => ?exf, I.bs, ?bsz, fun b o e hb => ?noex, fun b hb => ?exfs, I.stack, I.stkFree⟩,
  rfl, I.bare, Un.kept hk, ⟨m, hn, fun i x v h1 h2 h3 => ?loc⟩, fun x c h => ?cell, I.hok.fresh (NK _), fun x c h => I.freeC x c (sub x c h), fun p hp => ?pin, I.hok.kept hk, ?len⟩
 case has =>
  rcases hx with hx | hx
  ·exact has x (p0 ck.cell (.inl rfl) hx)
  ·exact has x (p0 ck.cell (.inr rfl) hx)
 case cab => cases hx
 case exf =>
  obtain ⟨f0, f1, f2, f3, f4, f5⟩ := hf b hb
  exact ⟨N5 (hfo b hb), fun x c e => f4 x c (sub x c e)⟩
 case bsz => exact N6 I.ok.bsz I.sz
 case noex =>
  obtain ⟨f0, f1, f2, f3, f4, f5⟩ := hf b hb
  rcases f3 with f3 | f3
  ·exact I.ok.noex b o e f3
  ·exact absurd (Ob (NU e) (N6 I.ok.bsz f3)) (Nat.lt_irrefl _)
 case exfs =>
  obtain ⟨f0, f1, f2, f3, f4, f5⟩ := hf b hb
  intro z
  rcases NQ.mp (I.stkSub b z) with e | e
  ·exact f1 e
  ·exact f2 e
 case loc =>
  have hl : N.length = js.length := ck.len.symm
  have hi : i < js.length := by
   have := (Og.mp h1).1
   have e : (cxC X N scope ⟨g7 X.env scope.names [], s.heap.objs.size, s, H, fp, pins⟩).N = N := rfl
   rw [e] at this
   lia
  have hN : N[i]? = some x := h1
  have hj : js[i]? = some js[i] := OA hi
  unfold inn at h2
  rw [Oh, hj] at h2
  cases q : js[i] with
  | none => rw [q] at h2; cases h2
  | some j =>
   rw [q] at h2 hj
   have h2' : (σ[j]?).join = some v := Oc h2
   have hσ : σ[j]? = some (some v) := by
    cases e : σ[j]? with
    | none => rw [e] at h2'; cases h2'
    | some o => rw [e] at h2'; exact congrArg some h2'
   have hm : (x, some j) ∈ N.zip js := by
    refine OO (i := i) ?_
    rw [List.getElem?_zip_eq_some]
    exact ⟨hN, hj⟩
   have hc := List.all_eq_true.mp ck.ix _ hm
   simp only [Os, decide_eq_true_eq] at hc
   obtain ⟨c1, c2⟩ := hc
   have hfr : (x, NameKind.free) ∈ scope.names := PySem.mem_of_lookup c2
   have hvis : X.env.scope.names.lookup x = some .cell \/ X.env.scope.names.lookup x = some .free := ck.free _ hfr rfl
   obtain ⟨m0, hn0, hl0⟩ := I.loc
   obtain ⟨u, r, l⟩ := hl0 j x v c1 hσ (hvis.elim (fun z => .inr (.inl z)) fun z => .inr (.inr z))
   refine ⟨u, r, .inr ⟨?_, ?_⟩⟩
   ·exact p6 c2
   ·rcases l with ⟨k1, _⟩ | ⟨_, c, k1, k2⟩
    ·have k1' : X.env.scope.names.lookup x = some .local := k1
     rcases hvis with z | z
     ·rw [z] at k1'; cases k1'
     ·rw [z] at k1'; cases k1'
    ·obtain ⟨c', hc'⟩ := has x hfr
     have e := sub x c' hc'
     rw [k1] at e
     cases e
     obtain ⟨oc, ho, hd⟩ := k2
     exact ⟨c, hc', oc, hk _ _ ho, hd⟩
 case cell =>
  obtain ⟨v, oc, ho, hd⟩ := I.cell x c (sub x c h)
  exact ⟨v, oc, hk _ _ ho, hd⟩
 case pin =>
  have hp' : p ∈ X.pn ++ pins := by simpa [cxC] using hp
  obtain ⟨p1, p2, p3, p4, p5⟩ := I.pin p hp'
  refine ⟨hk _ _ p1, p2, N5 (NU p1), fun z => ?_, p5⟩
  rcases NQ.mp (I.stkSub _ z) with e | e
  ·exact p3 e
  ·exact p4 e
 case len =>
  show (inn js σ).length = N.length
  unfold inn
  rw [NT]
  exact ck.len
noncomputable abbrev TIf := St -> Hp -> (Bool -> Hp -> Prop) -> Prop
def PIf (X : Cx) (ifs : List Expr) (t : TIf) : Prop :=
 ∀ (pins : List (Addr × Obj)) (s : Shared) (σ : St) (H : Hp) (Q : Bool -> Hp -> Prop), Inv X pins σ H s -> t σ H Q ->
  wpAny (model X.prog X.w) X.A (forIn ifs true fun c r => if r = true then do let ok ← isTrue c X.env (eval c X.env); pure (ForInStep.yield ok) else pure (ForInStep.yield r)) (TP X pins σ Q) X.xe s
noncomputable def Jg : TIf := fun _ H Q => Q true H
theorem fi : PIf X [] Jg := fun _ _ _ H _ I h => wpAny_tests_nil ⟨H, I, h⟩
theorem vi {c : Expr} {t : TT} (h : PT X c t) : PIf X [c] t := fun pins s σ H Q I q => wpAny_tests_one (h pins s σ H Q I q)
def Lev (σ σ' : St) : Prop := σ.length = σ'.length /\ ∀ (i : Nat) (v : V), σ[i]? = some (some v) -> σ'[i]? = some (some v)
theorem Lev.refl (σ : St) : Lev σ σ := ⟨rfl, fun _ _ h => h⟩
def xy (js : List (Option Nat)) (g : TG) : Prop := ∀ (σ0 : St) (v : V) (σ : St) (H : Hp) (Q : St -> Hp -> Prop), Lev (inn js σ0) σ -> g v σ H Q -> g v σ H fun σ' H' => Lev (inn js σ0) σ' /\ Q σ' H'
def C5 (js : List (Option Nat)) (g : TGs) : Prop := ∀ (σ0 : St) (vs : List V) (σ : St) (H : Hp) (Q : St -> Hp -> Prop), Lev (inn js σ0) σ -> g vs σ H Q -> g vs σ H fun σ' H' => Lev (inn js σ0) σ' /\ Q σ' H'
theorem bg {i : Nat} (h : js[i]? = some none := by rfl) : xy js (nK i) := fun σ0 v σ H Q l q => by
 refine ⟨⟨?_, fun j u e => ?_⟩, q⟩
 ·rw [Oy]; exact l.1
 ·by_cases hij : i = j
  ·subst hij
   unfold inn at e
   rw [Oh, h] at e
   cases e
  ·rw [Oq hij]
   exact l.2 j u e
theorem jn : C5 js JD := fun σ0 vs σ H Q l q => ⟨q.1, l, q.2⟩
theorem bC {t : TG} {u : TGs} (h : xy js t) (k : C5 js u) (mono : ∀ v σ H (Q Q' : St -> Hp -> Prop), (∀ a b, Q a b -> Q' a b) -> t v σ H Q -> t v σ H Q') : C5 js (G3 t u) := fun σ0 vs σ H Q l q => by
 obtain ⟨v, r, e, q⟩ := q
 exact ⟨v, r, e, mono _ _ _ _ _ (fun σ' H' z => k σ0 r σ' H' Q z.1 z.2) (h σ0 v σ H _ l q)⟩
theorem aS {i : Nat} : ∀ v σ H (Q Q' : St -> Hp -> Prop), (∀ a b, Q a b -> Q' a b) -> nK i v σ H Q -> nK i v σ H Q' := fun _ _ _ _ _ h q => h _ _ q
theorem lY {K : W.Frag} {n : Nat} {t : TGs} (h : C5 js t) : xy js (JN K n t) := fun σ0 v σ H Q l q => by
 obtain ⟨a, xs, e, hq, hl, q⟩ := q
 exact ⟨a, xs, e, hq, hl, h σ0 xs σ H Q l q⟩
noncomputable def C8 (js : List (Option Nat)) (wi : TI) (g : TG) (tt : TIf) (te : TE) : TE := fun σ H Q => wi σ H fun J H1 => ∀ D, H1 D = none -> ∃ W : Nat -> Nat -> Hp -> Prop, (∃ m, W 0 m (upd H1 D (.lst []))) /\ ∀ i m H, W i m H ->
 (J.stop i H /\ Q (.ref D) H) \/ (J.go i H /\ ∀ x H', J.yld i H x H' -> g x (inn js σ) H' fun σ2 H2 => tt σ2 H2 fun b H3 =>
  if b = true then te σ2 H3 fun y H4 => ∃ ys, H4 D = some (.lst ys) /\ ys.length < sizeLine /\ ∃ m', m' < m /\ W (i + 1) m' (upd H4 D (.lst (ys ++ [y]))) else ∃ m', m' < m /\ W (i + 1) m' H3)
variable {tg iter elt : Expr} {ifs : List Expr} {pos : Pos} {wi : TI} {g : TG} {tt : TIf} {te : TE}
theorem Ep {E : Value -> Shared -> Prop} {R : Result -> Shared -> Prop} {it D : Addr} {fp : List Addr} {tn : Nat -> Heap -> Prop} {J : It} {z : CxZ} {W : Nat -> Nat -> Hp -> Prop} {n : Nat}
  (hc : X.calm = true) (T : Turn X.prog X.w X.K tg J fp it tn) (hz : ∀ b ∈ fp, ∀ H', H' b = none -> sf (cxC X N scope z) [] H' b)
  (hg : PG (cxC X N scope z) tg g) (hs : xy js g) (ht : PIf (cxC X N scope z) ifs tt) (he : PE (cxC X N scope z) elt te)
  (turn : ∀ i m H, W i m H -> (J.stop i H /\ ∀ s', Inv (cxC X N scope z) [] (inn js σ) H s' -> R (.ok .next) s') \/ (J.go i H /\ ∀ x H', J.yld i H x H' -> g x (inn js σ) H' fun σ2 H2 => tt σ2 H2 fun b H3 =>
   if b = true then te σ2 H3 fun y H4 => ∃ ys, H4 D = some (.lst ys) /\ ys.length < sizeLine /\ ∃ m', m' < m /\ W (i + 1) m' (upd H4 D (.lst (ys ++ [y]))) else ∃ m', m' < m /\ W (i + 1) m' H3))
  {s1 : Shared} {H1 : Hp} (I1 : Inv (cxC X N scope z) [] (inn js σ) H1 s1) (t1 : tn 0 s1.heap) (f1 : ∀ b ∈ fp, H1 b = none) (w1 : W 0 n H1) :
  codeAny (model X.prog X.w) X.A (.compLoop (.ListComp elt [⟨tg, iter, ifs, 0⟩] scope pos) 0 (.ref it) (.ref D) (compEnvC scope z.cl z.C X.env)) R s1 := by
 refine codeAny_loop (c := .compLoop (.ListComp elt [⟨tg, iter, ifs, 0⟩] scope pos) 0 (.ref it) (.ref D) (compEnvC scope z.cl z.C X.env)) rfl
  (fun k s' => ∃ i H', Inv (cxC X N scope z) [] (inn js σ) H' s' /\ tn i s'.heap /\ (∀ b ∈ fp, H' b = none) /\ W i k H') ?_ n ⟨0, H1, I1, t1, f1, w1⟩
 rintro k s2 ⟨i, H2, I2, t2, f2, w2⟩
 show wpAny (model X.prog X.w) X.A ((compTurn (.ListComp elt [⟨tg, iter, ifs, 0⟩] scope pos) 0 (.ref it) (.ref D) (compEnvC scope z.cl z.C X.env)).onRaise fun x => do noteFrame x (compEnvC scope z.cl z.C X.env); theTreesLotGoes x) _ _ s2
 refine wpAny_noted ?_
 rw [compTurn_list]
 refine NH (wpAny_standAt ?_)
 rcases turn i k H2 w2 with ⟨stop, fin⟩ | ⟨go, step⟩
 ·refine NH (thn (T.done (cxC X N scope z) rfl rfl rfl hc i [] s2 (inn js σ) H2 _ I2 (fun b hb => hz b hb H2 (f2 b hb)) t2 stop) fun r s3 h3 => ?_)
  obtain ⟨rfl, I3⟩ := h3
  exact NJ (fin s3 I3)
 ·refine NH (thn (T.item (cxC X N scope z) rfl rfl rfl hc i [] s2 (inn js σ) H2 _ I2 (fun b hb => hz b hb H2 (f2 b hb)) t2 go) fun r s3 h3 => ?_)
  obtain ⟨u, rfl, h3⟩ := h3
  refine NH (thn h3 fun _ s4 h4 => ?_)
  obtain ⟨x, H4, I4, r4, y4, t4, f4⟩ := h4
  have P4 := I4.pinned (fun b hb => hz b hb H4 (f4 b hb)) (T.obj _ _ t4)
  have ff : ∀ {e : Value} {s' : Shared}, (cxC X N scope z).xe e s' -> False := fun h => h
  refine NH (wpAny_mono (hg _ s4 (inn js σ) H4 x u _ P4 r4 (hs σ x (inn js σ) H4 _ (Lev.refl _) (step x H4 y4))) (fun _ s5 h5 => ?_) fun _ _ h => (ff h).elim)
  obtain ⟨σ5, H5, I5, lev, q5⟩ := h5
  refine NH (wpAny_mono (ht _ s5 σ5 H5 _ I5 q5) (fun ok s6 h6 => ?_) fun _ _ h => (ff h).elim)
  obtain ⟨H6, I6, q6⟩ := h6
  have again : ∀ {s7 : Shared} {H7 : Hp}, Inv (cxC X N scope z) ([] ++ sP fp s4.heap) σ5 H7 s7 -> (∃ m', m' < k /\ W (i + 1) m' H7) -> ∃ m, m < k /\ ∃ i H', Inv (cxC X N scope z) [] (inn js σ) H' s7 /\ tn i s7.heap /\ (∀ b ∈ fp, H' b = none) /\ W i m H' := fun {s7 H7} I7 h7 => by
   obtain ⟨m', hm, w7⟩ := h7
   refine ⟨m', hm, i + 1, H7, (I7.unpinned).weak lev.1 lev.2, T.keep _ _ _ t4 fun b hb o e => (I7.pin (b, o) (NP _ (NP _ (iq hb e)))).1, fun b hb => ?_, w7⟩
   obtain ⟨o, e, d⟩ := T.obj _ _ t4 b hb
   exact (I7.pin (b, o) (NP _ (NP _ (iq hb e)))).2.1
  cases ok with
  | false =>
   rw [NG (by decide)] at q6
   exact NJ ⟨rfl, again I6 q6⟩
  | true =>
   rw [NF rfl] at q6
   refine NH (NH (wpAny_mono (he _ s6 σ5 H6 _ I6 q6) (fun y s7 h7 => ?_) fun _ _ h => (ff h).elim))
   obtain ⟨vy, H7, I7, r7, ys, hD, hl, q7⟩ := h7
   refine NH (wpAny_mono (eF (X := cxC X N scope z) _ s7 σ5 H7 (.ref D) [vy] (.ref D) [y] (fun _ H' => ∃ m', m' < k /\ W (i + 1) m' H') I7 rfl (.cons r7 .nil) ⟨D, ys, vy, rfl, rfl, hD, hl, q7⟩) (fun _ s8 h8 => ?_) fun _ _ h => (ff h).elim)
   obtain ⟨_, H8, I8, _, q8⟩ := h8
   exact NJ (NJ ⟨rfl, again I8 q8⟩)
theorem wY {E : Value -> Shared -> Prop} {RR : Value -> Addr -> Result -> Shared -> Prop} {Q : VK} {itv : Value} {s2 : Shared} (ck : CmpOk XN sc scope N js) (hXN : X.N = XN) (hsc : X.env.scope = sc) (hc : X.calm = true)
  (hg : ∀ z, PG (cxC X N scope z) tg g) (hs : xy js g) (ht : ∀ z, PIf (cxC X N scope z) ifs tt) (he : ∀ z, PE (cxC X N scope z) elt te)
  (h2 : PIE X pins σ tg (fun J H1 => ∀ D, H1 D = none -> ∃ W : Nat -> Nat -> Hp -> Prop, (∃ m, W 0 m (upd H1 D (.lst []))) /\ ∀ i m H, W i m H ->
   (J.stop i H /\ Q (.ref D) H) \/ (J.go i H /\ ∀ x H', J.yld i H x H' -> g x (inn js σ) H' fun σ2 H2 => tt σ2 H2 fun b H3 =>
    if b = true then te σ2 H3 fun y H4 => ∃ ys, H4 D = some (.lst ys) /\ ys.length < sizeLine /\ ∃ m', m' < m /\ W (i + 1) m' (upd H4 D (.lst (ys ++ [y]))) else ∃ m', m' < m /\ W (i + 1) m' H3)) itv s2)
  (hRR : ∀ D C s' H' m o, Inv X (pins ++ [(C, o)]) σ H' s' -> s'.heap.Ns C m -> (X.s₀.heap.objs.size <= C /\ C ≠ X.env.locals /\ (∀ x c, X.env.cells.lookup x = some c -> c ≠ C) /\ ∀ p ∈ X.pn ++ pins, p.1 ≠ C) -> H' C = none -> Q (.ref D) H' -> RR (.ref D) C (.ok .next) s') :
  wpAny (model X.prog X.w) X.A (newList []) (fun acc s₃ => wpAny (model X.prog X.w) X.A (newFunctionEnv scope X.env.globals (g7 X.env scope.names []) [] X.env.qual none .none (some X.env)) (fun cenv s₄ =>
   codeAny (model X.prog X.w) X.A (.compStart (.ListComp elt [⟨tg, iter, ifs, 0⟩] scope pos) 0 itv acc { cenv with scope := relabel scope X.env }) (RR acc cenv.locals) s₄) E s₃) E s2 := by
 obtain ⟨it, fp, tn, J, H2, rfl, I2, T, t2, f2, q2⟩ := h2
 have fo : ∀ b ∈ fp, b < s2.heap.objs.size := fun b hb => by
  obtain ⟨o, e, _⟩ := T.obj _ _ t2 b hb
  exact NU e
 have hD : H2 s2.heap.objs.size = none := I2.fresh
 obtain ⟨W, ⟨n, w0⟩, turn⟩ := q2 _ hD
 refine Ot (wpAny_newFunctionEnv ck.cell (by intro y hy; simp at hy) (fun h1 hns hsb => ?_) ck.kind)
 have I3 : Inv X pins σ (upd H2 s2.heap.objs.size (.lst [])) { s2 with heap := s2.heap.push { cls := .type "list", data := .seq ([] : List Value).toArray }, toks := s2.toks } := I2.lnew (its := []) .nil (Ov _)
 have f3 : ∀ b ∈ fp, sf X pins (upd H2 s2.heap.objs.size (.lst [])) b := fun b hb => by
  obtain ⟨g0, g1⟩ := f2 b hb
  exact ⟨by rw [a6 (N5 (fo b hb))]; exact g0, g1⟩
 have sz : (s2.heap.push { cls := .type "list", data := .seq ([] : List Value).toArray }).objs.size = s2.heap.objs.size + 1 := Heap.size_push _ _
 have kept : ∀ b o, (s2.heap.push { cls := .type "list", data := .seq ([] : List Value).toArray }).get? b = some o -> h1.get? b = some o := fun b o e =>
  hsb.extBut b o (N5 (NU e)) (NW _ e)
 have I4 := GL (tk := s2.toks + ([] : List (Str × Value)).length) ck hXN hsc I3 f3 (fun b hb => by show b < (s2.heap.push _).objs.size; rw [sz]; exact Nat.lt_succ_of_lt (fo b hb)) hns kept
 have t4 : tn 0 h1 := T.keep _ _ _ t2 fun b hb o e => kept b o (NW _ e)
 have fz : ∀ b ∈ fp, ∀ H', H' b = none -> sf (cxC X N scope ⟨g7 X.env scope.names [], (s2.heap.push { cls := .type "list", data := .seq ([] : List Value).toArray }).objs.size, { s2 with heap := s2.heap.push { cls := .type "list", data := .seq ([] : List Value).toArray }, toks := s2.toks }, upd H2 s2.heap.objs.size (.lst []), fp, pins⟩) [] H' b := fun b hb H' hn => by
  obtain ⟨g0, g1, g2, g3, g4, g5⟩ := f3 b hb
  refine ⟨hn, (I4.ok.exf b hb).1, I4.ok.exfs b hb, .inl hb, (I4.ok.exf b hb).2, fun p hp => ?_⟩
  exact g5 p (by simpa [cxC] using hp)
 have loop := Ep (X := X) (σ := σ) (N := N) (scope := scope) (js := js) (iter := iter) (pos := pos) (E := E) (R := RR (.ref s2.heap.objs.size) (s2.heap.push { cls := .type "list", data := .seq ([] : List Value).toArray }).objs.size) (D := s2.heap.objs.size) (W := W) (n := n)
  hc T fz (hg _) hs (ht _) (he _) (fun i m H w => (turn i m H w).imp (fun a => ⟨a.1, fun s' Y => ?_⟩) id) I4 t4 (fun b hb => (f3 b hb).1) w0
 ·exact codeAny_compStart_list loop (T.self _ 0 _ _ _ t4 loop)
 ·have bb := Y.base
  have J0 : Inv X pins σ H s' := I3.call' Y.os bb Y.hok Y.bare fun b hb => by
   obtain ⟨g0, g1, g2, g3, g4, g5⟩ := f3 b hb
   exact ⟨g3, g1, g4, g5⟩
  obtain ⟨mC, nC, _⟩ := Y.loc
  obtain ⟨oC, eC, dC⟩ : ∃ o, s'.heap.get? (s2.heap.push { cls := .type "list", data := .seq ([] : List Value).toArray }).objs.size = some o /\ ∀ v, o.data ≠ .cell v := by
   obtain ⟨o, es, ep, ho, hd, _⟩ := nC
   exact ⟨o, ho, fun v z => by rw [hd] at z; cases z⟩
  have lC : X.s₀.heap.objs.size <= (s2.heap.push { cls := .type "list", data := .seq ([] : List Value).toArray }).objs.size := I3.sz
  have cC : (s2.heap.push { cls := .type "list", data := .seq ([] : List Value).toArray }).objs.size ≠ X.env.locals := Nat.ne_of_gt I3.lt
  have kC : ∀ x c, X.env.cells.lookup x = some c -> c ≠ (s2.heap.push { cls := .type "list", data := .seq ([] : List Value).toArray }).objs.size := fun x c e => by
   obtain ⟨v, q⟩ := I3.cell x c e
   exact N5 q.lt
  have pC : ∀ p ∈ X.pn ++ pins, p.1 ≠ (s2.heap.push { cls := .type "list", data := .seq ([] : List Value).toArray }).objs.size := fun p hp => N5 (NU (I3.pin p hp).1)
  have J1 : Inv X (pins ++ [((s2.heap.push { cls := .type "list", data := .seq ([] : List Value).toArray }).objs.size, oC)]) σ H s' := J0.pins_of fun p hp => by
   rcases NM.mp hp with hp | hp
   ·exact J0.pin p (NP _ hp)
   ·rw [NI.mp hp]
    exact ⟨eC, Y.free, cC, I3.nofs (NK _), dC⟩
  exact hRR _ _ s' H mC oC J1 nC ⟨lC, cC, kC, pC⟩ Y.free a.2
theorem fe (ck : CmpOk XN sc scope N js) (hi : PI X tg iter wi) (hg : ∀ z, PG (cxC X N scope z) tg g) (hs : xy js g) (ht : ∀ z, PIf (cxC X N scope z) ifs tt) (he : ∀ z, PE (cxC X N scope z) elt te)
  (hXN : X.N = XN := by rfl) (hsc : X.env.scope = sc := by rfl) (hc : X.calm = true := by rfl) (hf : ∀ x, foldedSetIterable iter X.env x = pure x := by intro _; rfl) :
  PE X (.ListComp elt [⟨tg, iter, ifs, 0⟩] scope pos) (C8 js wi g tt te) := by
 intro pins s σ H Q I h
 rw [eval_ListComp]
 have hcl : closureFor scope X.env = pure (g7 X.env scope.names []) := p8 fun y hy hk => I.ok.has y.1 (by
  have := ck.free y hy hk
  rw [<- hsc] at this
  exact this)
 refine wpAny_comprehension_free (use := none) rfl hf hcl ck.kind ck.loc (thn (hi pins s σ H _ I h) fun v s1 h1 => thn h1 fun itv s2 h2 => ?_)
 refine wY (RR := fun acc C => compPost (model X.prog X.w) X.A X.xe none (EP X pins σ Q) acc C) ck hXN hsc hc hg hs ht he h2 ?_
 intro D C s' H' m o J nC hC fC q
 refine ⟨m, nC, fun h' sb => ⟨.ref D, H', ?_, rfl, q⟩⟩
 have J0 : Inv X pins σ H' s' := J.unpinned
 exact J0.turned (t' := s'.toks) (it := C) (fun b o hb e => sb.extBut b o hb e) fC hC.2.1 (.inr hC.1) hC.2.2.1 hC.2.2.2
theorem zK {i : Nat} {y : Str} {pos' spos : Pos} (ck : CmpOk XN sc scope N js) (hN : X.N.Nodup) (hi0 : X.N[i]? = some y) (hx : Loc X.env.scope y) (hi : PI X tg iter wi) (hg : ∀ z, PG (cxC X N scope z) tg g) (hs : xy js g) (ht : ∀ z, PIf (cxC X N scope z) ifs tt) (he : ∀ z, PE (cxC X N scope z) elt te)
  (hsw : swapsWith (.ListComp elt [⟨tg, iter, ifs, 0⟩] scope pos) (some (.Name y pos')) spos.line X.env = pure true := by rfl)
  (hXN : X.N = XN := by rfl) (hsc : X.env.scope = sc := by rfl) (hc : X.calm = true := by rfl) (hf : ∀ x, foldedSetIterable iter X.env x = pure x := by intro _; rfl)
  (hfn : X.fn y = true \/ X.env.scope.names.lookup y = some .local := by first | exact .inl rfl | exact .inr rfl | assumption) :
  PS X (.Assign [.Name y pos'] (.ListComp elt [⟨tg, iter, ifs, 0⟩] scope pos) spos) (A6 (C8 js wi g tt te) (nK i)) := by
 intro pins s σ H D I h
 rw [exec_Assign_Name_used _ _ _ _ hsw]
 have hcl : closureFor scope X.env = pure (g7 X.env scope.names []) := p8 fun y hy hk => I.ok.has y.1 (by
  have := ck.free y hy hk
  rw [<- hsc] at this
  exact this)
 refine NH (wpAny_standAt (NH ?_))
 show wpAny (model X.prog X.w) X.A (comprehension (.ListComp elt [⟨tg, iter, ifs, 0⟩] scope pos) scope X.env _ (newList []) false (eval iter X.env) (some (assign (.Name y pos') X.env)) >>= fun _ => pure ()) _ _ s
 refine NH (thn (wpAny_comprehension_free (use := some (assign (.Name y pos') X.env)) (Q := fun _ s' => SP X pins D .next s') rfl hf hcl ck.kind ck.loc (thn (hi pins s σ H _ I h) fun v s1 h1 => thn h1 fun itv s2 h2 => ?_)) fun _ s' q => NJ (NJ q))
 refine wY (RR := fun acc C => compPost (model X.prog X.w) X.A X.xe (some (assign (.Name y pos') X.env)) (fun _ s' => SP X pins D .next s') acc C) (Q := fun x H1 => nK i x σ H1 D.nx) ck hXN hsc hc hg hs ht he h2 ?_
 intro A C s' H' m o J nC hC fC q
 refine thn (aB hN hi0 hx hfn _ s' σ H' (.ref A) (.ref A) _ J rfl q) fun _ s3 h3 => ?_
 obtain ⟨σ3, H3, J3, q3⟩ := h3
 have pc := J3.pin (C, o) (NP _ (NP _ NL))
 have oC : s'.heap.get? C = some o := (J.pin (C, o) (NP _ (NP _ NL))).1
 refine ⟨m, nC.at' fun o' e => ?_, fun h' sb => ⟨σ3, H3, ?_, q3⟩⟩
 ·rw [oC] at e
  cases e
  exact pc.1
 ·have J0 : Inv X pins σ3 H3 s3 := J3.unpinned
  exact J0.turned (t' := s3.toks) (it := C) (fun b o hb e => sb.extBut b o hb e) pc.2.1 hC.2.1 (.inr hC.1) hC.2.2.1 hC.2.2.2
end
end L2
namespace Srt
open PySem PySem.W PyProof.Rows
section
variable {α β : Type} (lt : Nat -> Nat -> Bool) (n : Nat)
noncomputable def Pwp : KasT α -> (α -> Prop) -> Prop
 | .ret a, Q => Q a
 | .ask i j k, Q => i < n /\ j < n /\ Pwp (k (lt i j)) Q
theorem Pwp.bind {f : α -> KasT β} {Q : β -> Prop} : ∀ {t : KasT α}, Pwp lt n t (fun a => Pwp lt n (f a) Q) -> Pwp lt n (t.bind f) Q
 | .ret _, h => h
 | .ask _ _ _, h => ⟨h.1, h.2.1, Pwp.bind h.2.2⟩
end
section
variable {lt : Nat -> Nat -> Bool} {le : Nat -> Nat -> Prop} {n : Nat} {p : Array Nat}
noncomputable abbrev at' (p : Array Nat) (i : Nat) : Nat := p.getD i 0
theorem Ab {p q : Array Nat} {i j : Nat} (h : p[i]? = q[j]?) : at' p i = at' q j := by
 have e : ∀ (r : Array Nat) (k : Nat), at' r k = (r[k]?).getD 0 := fun r k => by simp [at']
 rw [e, e, h]
def Asc (le : Nat -> Nat -> Prop) (p : Array Nat) (m : Nat) : Prop := ∀ i j, i <= j -> j < m -> le (at' p i) (at' p j)
def Bel (n : Nat) (p : Array Nat) : Prop := ∀ k, at' p k < n
structure Ord (lt : Nat -> Nat -> Bool) (le : Nat -> Nat -> Prop) : Prop where
 tr : ∀ a b c, le a b -> le b c -> le a c
 rf : ∀ a, le a a
 yes : ∀ a b, lt a b = true -> le a b
 no : ∀ a b, lt a b = false -> le b a
theorem Kj (hn : 0 < n) (hp : p.Perm (List.range n).toArray) : Bel n p := fun k => by
 have e : at' p k = (p[k]?).getD 0 := by simp [at']
 rw [e]
 cases h : p[k]? with
 | none => exact hn
 | some v =>
  have hm : v ∈ p := Array.mem_of_getElem? h
  have := (Array.perm_iff_toList_perm.mp hp).mem_iff.mp (Array.mem_toList_iff.mpr hm)
  simpa using this
theorem c0 {i j : Nat} (hj : j <= p.size) (k : Nat) : at' (kas_rev p i j) k = if i <= k /\ k < j then at' p (i + j - 1 - k) else at' p k := by
 have e := getElem?_mirror_all (i := i) hj k
 by_cases h : i <= k /\ k < j
 ·rw [NF h] at e ⊢; exact Ab e
 ·rw [NG h] at e ⊢; exact Ab e
variable {z : Nat}
theorem tp {src d : Nat} (hs : src < p.size) (hd : d <= src) (k : Nat) : at' (bubble p src d) k = if k = src - d then at' p src else if src - d < k /\ k <= src then at' p (k - 1) else at' p k := by
 have e := getElem?_bubble hs d hd k
 by_cases h1 : k = src - d
 ·rw [NF h1] at e ⊢; exact Ab e
 ·rw [NG h1] at e ⊢
  by_cases h2 : src - d < k /\ k <= src
  ·rw [NF h2] at e ⊢; exact Ab e
  ·rw [NG h2] at e ⊢; exact Ab e
end
theorem B5 {α : Type} {le : Nat -> Nat -> Prop} {p : Array Nat} {vs : List α} {d : α} (hp : p.Perm (List.range vs.length).toArray) (ha : Asc le p vs.length) :
  (p.toList.map fun i => vs.getD i d).Perm vs /\ ∀ R : α -> α -> Prop, (∀ i j, i < vs.length -> j < vs.length -> le i j -> R (vs.getD i d) (vs.getD j d)) -> (p.toList.map fun i => vs.getD i d).Pairwise R := by
 have hl : p.toList.Perm (List.range vs.length) := by simpa using Array.perm_iff_toList_perm.mp hp
 constructor
 ·have h1 : (p.toList.map fun i => vs.getD i d).Perm ((List.range vs.length).map fun i => vs.getD i d) := hl.map _
  have h2 : ((List.range vs.length).map fun i => vs.getD i d) = vs := by
   apply List.ext_getElem
   ·simp
   ·intro i h1 h2; simp at h1; simp [h1]
  rw [h2] at h1
  exact h1
 ·intro R hR
  rw [OG, OQ]
  intro i j hi hj hij
  have hs : p.toList.length = vs.length := by rw [hl.length_eq]; simp
  have m : ∀ k (hk : k < p.toList.length), p.toList[k] < vs.length := fun k hk => by simpa using hl.mem_iff.mp (List.getElem_mem hk)
  have a : ∀ k (hk : k < p.toList.length), at' p k = p.toList[k] := fun k hk => by
   have : k < p.size := by simpa using hk
   simp [at', Array.getD, this]
  refine hR _ _ (m i hi) (m j hj) ?_
  rw [<- a i hi, <- a j hj]
  exact ha i j (Om hij) (by lia)
noncomputable def Ho : Bool -> Keyed -> Array Keyed -> Nat -> Nat -> Nat -> StateT SortSt Sem (Option Nat) := sortPriv% PySem.Builtin.gallop
noncomputable def G7 : Array Keyed -> Array Keyed -> StateT SortSt Sem (Array Keyed) := sortPriv% PySem.Builtin.mergeLo
noncomputable def Fk : Array Keyed -> Array Keyed -> StateT SortSt Sem (Array Keyed) := sortPriv% PySem.Builtin.mergeHi
section
variable {prog : Program} {w : World} {A : Around} {E : Value -> Shared -> Prop} {s : Shared} {κ : SortKind} {it : Array Keyed} {n : Nat} {lt : Nat -> Nat -> Bool} {le : Nat -> Nat -> Prop}
def xr (prog : Program) (w : World) (A : Around) (s : Shared) (κ : SortKind) (it : Array Keyed) (n : Nat) (lt : Nat -> Nat -> Bool) : Prop :=
 ∀ i j (C : Bool -> Shared -> Prop), i < n -> j < n -> C (lt i j) s -> kas_cmp prog w A κ it i j C s
theorem w_lt (hc : xr prog w A s κ it n lt) {i j : Nat} {Q : Option Bool -> SortSt -> Prop} {st : SortSt} (hk : kindOf st = κ) (hi : i < n) (hj : j < n) (h : Q (some (lt i j)) st) : wpS (model prog w) A E s (lt' (kas_item it i) (kas_item it j)) Q st := by
 rw [lt'_eq]
 refine wpS_bind (wpS_get ?_)
 rw [hk]
 refine wpS_bind (wpS_lift (wpAny_attempt (wpAny_mono (hc i j (fun c s' => s' = s /\ c = lt i j) hi hj ⟨rfl, rfl⟩) (fun c s' h' => ?_) fun _ _ hF => hF.elim)))
 obtain ⟨rfl, rfl⟩ := h'
 exact ⟨rfl, wpS_pure h⟩
theorem aJ {X : Array Nat} {k : Nat} {Q : Keyed -> SortSt -> Prop} {st : SortSt} (hk : k < X.size) (h : Q (kas_item it (at' X k)) st) : wpS (model prog w) A E s (elem' (X.map (kas_item it)) k) Q st := by
 rw [elem'_eq]
 have e : at' X k = X[k] := by simp [at', hk]
 rw [e] at h
 have e2 : (X.map (kas_item it))[k]? = some (kas_item it X[k]) := by simp [hk]
 rw [e2]
 exact wpS_pure h
theorem c6 (o : Ord lt le) (hc : xr prog w A s κ it n lt) {left : Bool} {key : Nat} {X : Array Nat} {base m hint : Nat} {Q : Option Nat -> SortSt -> Prop} {st : SortSt} (hk : kindOf st = κ) (hb : ∀ i, i < X.size -> at' X i < n) (hkey : key < n)
  (hz : base + m <= X.size) (hh : hint < m) (hs : ∀ i j, i <= j -> j < m -> le (at' X (base + i)) (at' X (base + j)))
  (h : ∀ k, k <= m -> (∀ i, i < k -> le (at' X (base + i)) key) -> (∀ i, k <= i -> i < m -> le key (at' X (base + i))) -> Q (some k) st) :
  wpS (model prog w) A E s (Ho left (kas_item it key) (X.map (kas_item it)) base m hint) Q st := by
 have bey : ∀ i, i < m -> ∀ (R : Option Bool -> SortSt -> Prop), (∀ c, (c = true -> le (at' X (base + i)) key) -> (c = false -> le key (at' X (base + i))) -> R (some c) st) -> wpS (model prog w) A E s (do
   let x ← elem' (X.map (kas_item it)) (base + i)
   if left = true then lt' x (kas_item it key) else do
    let r ← lt' (kas_item it key) x
    pure (Option.map (fun x => !x) r)) R st := fun i hi R hR => by
  refine wpS_bind (aJ (by lia) ?_)
  have hx := hb (base + i) (by lia)
  cases left with
  | true =>
   rw [NF rfl]
   exact w_lt hc hk hx hkey (hR _ (o.yes _ _) (o.no _ _))
  | false =>
   rw [NG (by decide)]
   refine wpS_bind (w_lt hc hk hkey hx (wpS_pure ?_))
   refine hR _ (fun e => o.no _ _ (by simpa using e)) (fun e => o.yes _ _ (by simpa using e))
 have lo' : ∀ k, k < m -> le (at' X (base + k)) key -> ∀ i, i <= k -> le (at' X (base + i)) key := fun k hk hl i hi => o.tr _ _ _ (hs i k hi hk) hl
 have hi' : ∀ k, k < m -> le key (at' X (base + k)) -> ∀ i, k <= i -> i < m -> le key (at' X (base + i)) := fun k hk hl i hi him => o.tr _ _ _ hl (hs k i hi him)
 refine wpS_bind (bey hint hh _ fun c c1 c2 => ?_)
 dsimp only
 cases c with
 | true =>
  rw [NF rfl]
  refine wpS_bind (wpS_mono (wpS_forRange (I := fun x c st' => st' = st /\ ∃ l f, c = (none, l, f) /\ x + 1 <= f /\ hint + l < m /\ le (at' X (base + (hint + l))) key)
   (Q := fun c st' => st' = st /\ ∃ l f, c = (none, l, f) /\ hint + l < m /\ le (at' X (base + (hint + l))) key /\ (f < m - hint -> le key (at' X (base + (hint + f))))) ?s1 ?f1 ?i1) ?p1)
  case i1 => exact ⟨rfl, 0, 1, rfl, by lia, by lia, c1 rfl⟩
  case f1 =>
   rintro c st' ⟨rfl, l, f, rfl, h1, h2, h3⟩
   exact ⟨rfl, l, f, rfl, h2, h3, fun _ => by lia⟩
  case s1 =>
   rintro x c st' _ hx ⟨rfl, l, f, rfl, h1, h2, h3⟩
   dsimp only
   by_cases hge : f ≥ m - hint
   ·rw [NF hge]
    exact wpS_pure ⟨rfl, l, f, rfl, h2, h3, fun _ => by lia⟩
   ·rw [NG hge]
    refine wpS_bind (bey (hint + f) (by lia) _ fun c d1 d2 => ?_)
    dsimp only
    cases c with
    | true => exact wpS_pure ⟨rfl, f, 2 * f + 1, rfl, by lia, by lia, d1 rfl⟩
    | false => exact wpS_pure ⟨rfl, l, f, rfl, h2, h3, fun _ => d2 rfl⟩
  case p1 =>
   rintro c st' ⟨rfl, l, f, rfl, h2, h3, h4⟩
   dsimp only
   have g1 : ∀ i, i < hint + l + 1 -> i < m -> le (at' X (base + i)) key := fun i hi _ => lo' _ h2 h3 i (by lia)
   have g2 : ∀ i, hint + min f (m - hint) <= i -> i < m -> le key (at' X (base + i)) := fun i hi him => hi' (hint + f) (by lia) (h4 (by lia)) i (by lia) him
   have g3 : hint + min f (m - hint) <= m := by lia
   generalize hint + l + 1 = L at g1 ⊢
   generalize hint + min f (m - hint) = H at g2 g3 ⊢
   refine wpS_bind (wpS_mono (wpS_forRange (I := fun x c st2 => st2 = st' /\ ∃ l h, c = (none, l, h) /\ h <= m /\ h - l <= m - x /\ (∀ i, i < l -> i < m -> le (at' X (base + i)) key) /\ (∀ i, h <= i -> i < m -> le key (at' X (base + i))))
    (Q := fun c st2 => st2 = st' /\ ∃ l h, c = (none, l, h) /\ h <= m /\ h <= l /\ (∀ i, i < l -> i < m -> le (at' X (base + i)) key) /\ (∀ i, h <= i -> i < m -> le key (at' X (base + i)))) ?s2 ?f2 ?i2) ?p2)
   case i2 => exact ⟨rfl, L, H, rfl, g3, by lia, g1, g2⟩
   case f2 =>
    rintro c st2 ⟨rfl, l, h, rfl, k1, k2, k3, k4⟩
    exact ⟨rfl, l, h, rfl, k1, by lia, k3, k4⟩
   case s2 =>
    rintro x c st2 _ hx ⟨rfl, l, h, rfl, k1, k2, k3, k4⟩
    dsimp only
    by_cases hge : l ≥ h
    ·rw [NF hge]
     exact wpS_pure ⟨rfl, l, h, rfl, k1, hge, k3, k4⟩
    ·rw [NG hge]
     refine wpS_bind (bey (l + (h - l) / 2) (by lia) _ fun c d1 d2 => ?_)
     dsimp only
     cases c with
     | true => exact wpS_pure ⟨rfl, _, _, rfl, k1, by lia, fun i hi him => lo' _ (by lia) (d1 rfl) i (by lia), k4⟩
     | false => exact wpS_pure ⟨rfl, _, _, rfl, by lia, by lia, k3, fun i hi him => hi' _ (by lia) (d2 rfl) i hi him⟩
   case p2 =>
    rintro c st2 ⟨rfl, l, h', rfl, k1, k2, k3, k4⟩
    exact wpS_pure (h h' k1 (fun i hi => k3 i (by lia) (by lia)) k4)
 | false =>
  rw [NG (by decide)]
  refine wpS_bind (wpS_mono (wpS_forRange (I := fun x c st' => st' = st /\ ∃ l f, c = (none, l, f) /\ x + 1 <= f /\ l <= hint /\ le key (at' X (base + (hint - l))))
   (Q := fun c st' => st' = st /\ ∃ l f, c = (none, l, f) /\ l <= hint /\ le key (at' X (base + (hint - l))) /\ (f < hint + 1 -> le (at' X (base + (hint - f))) key)) ?s1 ?f1 ?i1) ?p1)
  case i1 => exact ⟨rfl, 0, 1, rfl, by lia, by lia, c2 rfl⟩
  case f1 =>
   rintro c st' ⟨rfl, l, f, rfl, h1, h2, h3⟩
   exact ⟨rfl, l, f, rfl, h2, h3, fun _ => by lia⟩
  case s1 =>
   rintro x c st' _ hx ⟨rfl, l, f, rfl, h1, h2, h3⟩
   dsimp only
   by_cases hge : f ≥ hint + 1
   ·rw [NF hge]
    exact wpS_pure ⟨rfl, l, f, rfl, h2, h3, fun _ => by lia⟩
   ·rw [NG hge]
    refine wpS_bind (bey (hint - f) (by lia) _ fun c d1 d2 => ?_)
    dsimp only
    cases c with
    | true => exact wpS_pure ⟨rfl, l, f, rfl, h2, h3, fun _ => d1 rfl⟩
    | false => exact wpS_pure ⟨rfl, f, 2 * f + 1, rfl, by lia, by lia, d2 rfl⟩
  case p1 =>
   rintro c st' ⟨rfl, l, f, rfl, h2, h3, h4⟩
   dsimp only
   have g1 : ∀ i, i < hint + 1 - min f (hint + 1) -> i < m -> le (at' X (base + i)) key := fun i hi _ => lo' (hint - f) (by lia) (h4 (by lia)) i (by lia)
   have g2 : ∀ i, hint - l <= i -> i < m -> le key (at' X (base + i)) := fun i hi him => hi' (hint - l) (by lia) h3 i (by lia) him
   have g3 : hint - l <= m := by lia
   generalize hint + 1 - min f (hint + 1) = L at g1 ⊢
   generalize hint - l = H at g2 g3 ⊢
   refine wpS_bind (wpS_mono (wpS_forRange (I := fun x c st2 => st2 = st' /\ ∃ l h, c = (none, l, h) /\ h <= m /\ h - l <= m - x /\ (∀ i, i < l -> i < m -> le (at' X (base + i)) key) /\ (∀ i, h <= i -> i < m -> le key (at' X (base + i))))
    (Q := fun c st2 => st2 = st' /\ ∃ l h, c = (none, l, h) /\ h <= m /\ h <= l /\ (∀ i, i < l -> i < m -> le (at' X (base + i)) key) /\ (∀ i, h <= i -> i < m -> le key (at' X (base + i)))) ?s2 ?f2 ?i2) ?p2)
   case i2 => exact ⟨rfl, L, H, rfl, g3, by lia, g1, g2⟩
   case f2 =>
    rintro c st2 ⟨rfl, l, h, rfl, k1, k2, k3, k4⟩
    exact ⟨rfl, l, h, rfl, k1, by lia, k3, k4⟩
   case s2 =>
    rintro x c st2 _ hx ⟨rfl, l, h, rfl, k1, k2, k3, k4⟩
    dsimp only
    by_cases hge : l ≥ h
    ·rw [NF hge]
     exact wpS_pure ⟨rfl, l, h, rfl, k1, hge, k3, k4⟩
    ·rw [NG hge]
     refine wpS_bind (bey (l + (h - l) / 2) (by lia) _ fun c d1 d2 => ?_)
     dsimp only
     cases c with
     | true => exact wpS_pure ⟨rfl, _, _, rfl, k1, by lia, fun i hi him => lo' _ (by lia) (d1 rfl) i (by lia), k4⟩
     | false => exact wpS_pure ⟨rfl, _, _, rfl, by lia, by lia, k3, fun i hi him => hi' _ (by lia) (d2 rfl) i hi him⟩
   case p2 =>
    rintro c st2 ⟨rfl, l, h', rfl, k1, k2, k3, k4⟩
    exact wpS_pure (h h' k1 (fun i hi => k3 i (by lia) (by lia)) k4)
end
end Srt
namespace Srt
section
variable {le : Nat -> Nat -> Prop} {tot out ra rb xs : List Nat}
def Inv (le : Nat -> Nat -> Prop) (tot out ra rb : List Nat) : Prop := (out ++ ra).Pairwise le /\ (out ++ rb).Pairwise le /\ (out ++ (ra ++ rb)).Perm tot
theorem Inv.symm (h : Inv le tot out ra rb) : Inv le tot out rb ra := ⟨h.2.1, h.1, (List.Perm.append_left _ List.perm_append_comm).trans h.2.2⟩
theorem Inv.block (h : Inv le tot out (xs ++ ra) rb) (k : ∀ x ∈ xs, ∀ y ∈ rb, le x y) : Inv le tot (out ++ xs) ra rb := by
 obtain ⟨h1, h2, h3⟩ := h
 refine ⟨by rw [N9]; exact h1, ?_, by rw [N9, <- N9 xs]; exact h3⟩
 rw [N7] at h1 h2
 rw [N9, N7]
 obtain ⟨a1, a2, a3⟩ := h1
 obtain ⟨b1, b2, b3⟩ := h2
 rw [N7] at a2
 refine ⟨a1, N7.mpr ⟨a2.1, b2, k⟩, fun x hx y hy => ?_⟩
 rcases NM.mp hy with hy | hy
 ·exact a3 x hx y (NR _ hy)
 ·exact b3 x hx y hy
theorem Inv.doneA (h : Inv le tot out ra []) : (out ++ ra).Pairwise le /\ (out ++ ra).Perm tot := ⟨h.1, by have := h.2.2; rwa [Ol] at this⟩
theorem Inv.lastA {x : Nat} (h : Inv le tot out [x] rb) (k : ∀ y ∈ rb, le y x) : (out ++ (rb ++ [x])).Pairwise le /\ (out ++ (rb ++ [x])).Perm tot := by
 refine ⟨?_, (List.Perm.append_left _ List.perm_append_comm).trans h.2.2⟩
 obtain ⟨h1, h2, _⟩ := h
 rw [N7] at h1 h2
 rw [N7]
 refine ⟨h1.1, N7.mpr ⟨h2.2.1, List.pairwise_singleton _ _, fun y hy z hz => ?_⟩, fun a ha b hb => ?_⟩
 ·rw [NI] at hz; subst hz; exact k y hy
 ·rcases NM.mp hb with hb | hb
  ·exact h2.2.2 a ha b hb
  ·exact h1.2.2 a ha b hb
end
section
variable {X Y O : Array Nat} {le : Nat -> Nat -> Prop} {tot : List Nat}
theorem JM {i : Nat} (h : i < X.size) : at' X i = X[i] := by simp [at', h]
theorem lP {i : Nat} (h : i < X.size) : X.toList[i]'(by simpa using h) = at' X i := by rw [JM h]; simp
theorem zi {i : Nat} (h : i < X.size) : X.toList.drop i = at' X i :: X.toList.drop (i + 1) := by
 rw [List.drop_eq_getElem_cons (by simpa using h), lP h]
theorem rm {i j : Nat} (h : i <= j) : X.toList.drop i = (X.extract i j).toList ++ X.toList.drop j := by
 rw [Array.toList_extract, List.extract_eq_take_drop]
 have e : X.toList.drop j = (X.toList.drop i).drop (j - i) := by rw [List.drop_drop]; congr 1; lia
 rw [e, List.take_append_drop]
theorem ww {i x : Nat} (h : x ∈ X.toList.drop i) : ∃ j, i <= j /\ j < X.size /\ at' X j = x := by
 obtain ⟨k, hk⟩ := OS h
 rw [List.getElem?_drop] at hk
 obtain ⟨h1, h2⟩ := Og.mp hk
 have h1' : i + k < X.size := by simpa using h1
 exact ⟨i + k, by lia, h1', by rw [<- lP h1']; exact h2⟩
theorem vk {i j x : Nat} (h : x ∈ (X.extract i j).toList) : ∃ k, i <= k /\ k < j /\ k < X.size /\ at' X k = x := by
 obtain ⟨k, hk⟩ := OS h
 rw [Array.toList_extract, List.extract_eq_take_drop, List.getElem?_take] at hk
 split at hk
 ·rw [List.getElem?_drop] at hk
  obtain ⟨h1, h2⟩ := Og.mp hk
  have h1' : i + k < X.size := by simpa using h1
  exact ⟨i + k, by lia, by lia, h1', by rw [<- lP h1']; exact h2⟩
 ·cases hk
abbrev J (le : Nat -> Nat -> Prop) (tot : List Nat) (X Y O : Array Nat) (ia ib : Nat) : Prop := Inv le tot O.toList (X.toList.drop ia) (Y.toList.drop ib)
variable {ia ib : Nat}
theorem J.one (j : J le tot X Y O ia ib) (h : ia < X.size) (k : ∀ i, ib <= i -> i < Y.size -> le (at' X ia) (at' Y i)) : J le tot X Y (O.push (at' X ia)) (ia + 1) ib := by
 unfold J at j ⊢
 rw [zi h] at j
 have := Inv.block (xs := [at' X ia]) j (fun x hx y hy => by
  rw [NI] at hx
  subst hx
  obtain ⟨i, h1, h2, rfl⟩ := ww hy
  exact k i h1 h2)
 rwa [Array.toList_push]
theorem J.blk {m : Nat} (j : J le tot X Y O ia ib) (k : ∀ i l, ia <= i -> i < ia + m -> i < X.size -> ib <= l -> l < Y.size -> le (at' X i) (at' Y l)) : J le tot X Y (O ++ X.extract ia (ia + m)) (ia + m) ib := by
 unfold J at j ⊢
 rw [rm (j := ia + m) (by lia)] at j
 have := Inv.block j (fun x hx y hy => by
  obtain ⟨i, h1, h2, h3, rfl⟩ := vk hx
  obtain ⟨l, h4, h5, rfl⟩ := ww hy
  exact k i l h1 h2 h3 h4 h5)
 rwa [Array.toList_append]
theorem J.sy (j : J le tot X Y O ia ib) : J le tot Y X O ib ia := Inv.symm j
abbrev mK (le : Nat -> Nat -> Prop) (tot : List Nat) (R : Array Nat) : Prop := R.toList.Pairwise le /\ R.toList.Perm tot
theorem J.done1 (j : J le tot X Y O ia ib) (h : Y.size <= ib) (h2 : ia <= X.size) : mK le tot (O ++ X.extract ia X.size ++ Y.extract ib Y.size) := by
 unfold J at j
 rw [OL (l := Y.toList) (by simpa using h)] at j
 have e : (Y.extract ib Y.size) = #[] := by simp; lia
 have e2 : X.toList.drop ia = (X.extract ia X.size).toList := by rw [rm h2]; simp
 rw [e, Array.append_empty]
 unfold mK
 rw [Array.toList_append, <- e2]
 exact j.doneA
theorem J.done2 (j : J le tot X Y O ia ib) (h : X.size <= ia) (h2 : ib <= Y.size) : mK le tot (O ++ X.extract ia X.size ++ Y.extract ib Y.size) := by
 have e : (X.extract ia X.size) = #[] := by simp; lia
 have := j.sy.done1 h h2
 rw [e, Array.append_empty] at this ⊢
 exact this
theorem J.last (j : J le tot X Y O ia ib) (h : ia + 1 = X.size) (h2 : ib <= Y.size) (k : ∀ i, i < Y.size -> le (at' Y i) (at' X ia)) : mK le tot (O ++ Y.extract ib Y.size ++ X.extract ia X.size) := by
 unfold J at j
 rw [zi (by lia), OL (l := X.toList) (i := ia + 1) (by simp; lia)] at j
 have := j.lastA fun y hy => by
  obtain ⟨i, h1, h2, rfl⟩ := ww hy
  exact k i h2
 have e : (X.extract ia X.size).toList = [at' X ia] := by
  have e2 : X.toList.drop ia = (X.extract ia X.size).toList := by rw [rm (j := X.size) (by lia)]; simp
  rw [<- e2, zi (by lia), OL (l := X.toList) (i := ia + 1) (by simp; lia)]
 have e3 : Y.toList.drop ib = (Y.extract ib Y.size).toList := by rw [rm h2]; simp
 unfold mK
 rw [Array.toList_append, Array.toList_append, e, <- e3, N9]
 exact this
end
end Srt
namespace Srt
open PySem PySem.W PyProof.Rows
section
variable {prog : Program} {w : World} {A : Around} {E : Value -> Shared -> Prop} {s : Shared} {κ : SortKind} {it : Array Keyed} {n : Nat} {lt : Nat -> Nat -> Bool} {le : Nat -> Nat -> Prop}
def Same (κ : SortKind) (st st' : SortSt) : Prop := kindOf st' = κ /\ arrOf st' = arrOf st /\ pendingOf st' = pendingOf st /\ failedOf st' = failedOf st
theorem Same.g {st st2 : SortSt} (h : Same κ st st2) (g : Nat) : Same κ st (SortSt.mk' (kindOf st2) (arrOf st2) (pendingOf st2) g (failedOf st2)) := h
theorem cn {σ α : Type} {M : Model} {c : Prop} [Decidable c] {a b : StateT σ Sem α} {Q : α -> σ -> Prop} {st : σ} (h1 : wpS M A E s a Q st) (h2 : wpS M A E s b Q st) : wpS M A E s (if c then a else b) Q st := by
 by_cases h : c
 ·rw [NF h]; exact h1
 ·rw [NG h]; exact h2
theorem exm (f : Nat -> Keyed) (Z : Array Nat) : (Z.map f).extract 0 Z.size = Z.map f := by
 have : Z.size = (Z.map f).size := by simp
 rw [this]; simp
theorem Df {X : Array Nat} (h : ∀ i j, i <= j -> j < X.size -> le (at' X i) (at' X j)) : X.toList.Pairwise le := by
 rw [OQ]
 intro i j hi hj hij
 have h2 : j < X.size := by simpa using hj
 rw [lP (by lia), lP h2]
 exact h i j (by lia) h2
theorem Eh (o : Ord lt le) (hc : xr prog w A s κ it n lt) {X Y : Array Nat} {Q : Array Keyed -> SortSt -> Prop} {st : SortSt} (hk : kindOf st = κ) (hx : ∀ i, i < X.size -> at' X i < n) (hy : ∀ i, i < Y.size -> at' Y i < n)
  (x1 : 1 <= X.size) (y1 : 1 <= Y.size) (sx : ∀ i j, i <= j -> j < X.size -> le (at' X i) (at' X j)) (sy : ∀ i j, i <= j -> j < Y.size -> le (at' Y i) (at' Y j)) (hf : ∀ i, i < X.size -> le (at' Y 0) (at' X i)) (hl : ∀ i, i < Y.size -> le (at' Y i) (at' X (X.size - 1)))
  (h : ∀ R st', Same κ st st' -> mK le (X.toList ++ Y.toList) R -> Q (R.map (kas_item it)) st') :
  wpS (model prog w) A E s (G7 (X.map (kas_item it)) (Y.map (kas_item it))) Q st := by
 have sm0 : Same κ st st := ⟨hk, rfl, rfl, rfl⟩
 have j0 : J le (X.toList ++ Y.toList) X Y #[] 0 0 := ⟨by simpa using Df sx, by simpa using Df sy, by simp⟩
 have j1 : J le (X.toList ++ Y.toList) X Y #[at' Y 0] 0 1 := (j0.sy.one (by lia) fun i _ h2 => hf i h2).sy
 refine wpS_bind (wpS_lift (wpAny_rule ⟨rfl, ?_⟩))
 refine wpS_bind (aJ (by lia) ?_)
 dsimp only
 simp only [Array.size_map, beq_iff_eq]
 by_cases e1 : 1 = Y.size
 ·rw [NF e1]
  refine wpS_pure ?_
  have := h _ st sm0 (j1.done1 (by lia) (by lia))
  simpa [exm] using this
 rw [NG e1]
 by_cases e2 : 0 + 1 = X.size
 ·rw [NF e2]
  refine wpS_pure ?_
  have := h _ st sm0 (j1.last (by lia) (by lia) fun i hi => by have := hl i hi; rwa [show X.size - 1 = 0 by lia] at this)
  simpa [exm] using this
 rw [NG e2]
 refine wpS_bind (wpS_get ?_)
 refine wpS_bind (wpS_mono (wpS_forRange (I := fun x c st2 => Same κ st st2 /\ ∃ O ia ib g, c = (none, O.map (kas_item it), ia, ib, g) /\ ia + 1 < X.size /\ ib < Y.size /\ x + 1 <= ia + ib /\ J le (X.toList ++ Y.toList) X Y O ia ib)
  (Q := fun c st2 => ∃ R, c.1 = some (R.map (kas_item it)) /\ mK le (X.toList ++ Y.toList) R /\ Same κ st st2) ?s1 ?f1 ?i1) ?p1)
 case i1 => exact ⟨sm0, #[at' Y 0], 0, 1, _, by simp; rfl, by lia, by lia, by lia, j1⟩
 case f1 =>
  rintro c st2 ⟨sm, O, ia, ib, g, rfl, la, lb, ls, j⟩
  lia
 case p1 =>
  rintro ⟨c, c'⟩ st2 ⟨R, hc1, hR, sm⟩
  dsimp only at hc1
  subst hc1
  exact wpS_pure (h R st2 sm hR)
 case s1 =>
  rintro x c st2 _ hx0 ⟨sm, O, ia, ib, g, rfl, la, lb, ls, j⟩
  dsimp only
  -- one by one
  refine wpS_bind (wpS_mono (wpS_forRange (I := fun y c st2 => Same κ st st2 /\ ∃ O ia ib a b, c = (none, O.map (kas_item it), ia, ib, a, b) /\ ia + 1 < X.size /\ ib < Y.size /\ x + 1 + y <= ia + ib /\ J le (X.toList ++ Y.toList) X Y O ia ib)
   (Q := fun c st2 => (∃ R, c.1 = some (R.map (kas_item it)) /\ mK le (X.toList ++ Y.toList) R /\ Same κ st st2) \/ (Same κ st st2 /\ ∃ O ia ib a b, c = (none, O.map (kas_item it), ia, ib, a, b) /\ ia + 1 < X.size /\ ib < Y.size /\ x + 1 + 1 <= ia + ib /\ J le (X.toList ++ Y.toList) X Y O ia ib)) ?s2 ?f2 ?i2) ?p2)
  case i2 => exact ⟨sm, O, ia, ib, 0, 0, rfl, la, lb, ls, j⟩
  case f2 =>
   rintro c st2 ⟨sm, O, ia, ib, a, b, rfl, la, lb, ls, j⟩
   lia
  case s2 =>
   clear la lb ls j sm
   rintro y c st2 _ hy0 ⟨sm, O, ia, ib, a, b, rfl, la, lb, ls, j⟩
   dsimp only
   refine wpS_bind (aJ lb ?_)
   refine wpS_bind (aJ (by lia) ?_)
   refine wpS_bind (w_lt hc sm.1 (hy ib lb) (hx ia (by lia)) ?_)
   dsimp only
   cases cw : lt (at' Y ib) (at' X ia) with
   | true =>
    rw [NF rfl]
    have l0 := o.yes _ _ cw
    have j2 : J le (X.toList ++ Y.toList) X Y (O.push (at' Y ib)) ia (ib + 1) := (j.sy.one lb fun i h1 h2 => o.tr _ _ _ l0 (sx _ _ h1 h2)).sy
    refine wpS_bind (aJ lb ?_)
    by_cases e3 : ib + 1 = Y.size
    ·rw [NF e3]
     refine wpS_pure (.inl ⟨(O.push (at' Y ib)) ++ X.extract ia X.size ++ Y.extract (ib + 1) Y.size, ?_, j2.done1 (by lia) (by lia), sm⟩)
     simp
    ·rw [NG e3]
     refine cn ?_ ?_
     ·exact wpS_pure (.inr ⟨sm, O.push (at' Y ib), ia, ib + 1, _, _, by rw [Array.map_push], by lia, by lia, by lia, j2⟩)
     ·exact wpS_pure ⟨sm, O.push (at' Y ib), ia, ib + 1, _, _, by rw [Array.map_push], by lia, by lia, by lia, j2⟩
   | false =>
    rw [NG (by decide)]
    have l0 := o.no _ _ cw
    have j2 := j.one (by lia) fun i h1 h2 => o.tr _ _ _ l0 (sy _ _ h1 h2)
    refine wpS_bind (aJ (by lia) ?_)
    by_cases e3 : ia + 1 + 1 = X.size
    ·rw [NF e3]
     refine wpS_pure (.inl ⟨(O.push (at' X ia)) ++ Y.extract ib Y.size ++ X.extract (ia + 1) X.size, ?_, j2.last (by lia) (by lia) (fun i hi => by have := hl i hi; rwa [show X.size - 1 = ia + 1 by lia] at this), sm⟩)
     simp
    ·rw [NG e3]
     refine cn ?_ ?_
     ·exact wpS_pure (.inr ⟨sm, O.push (at' X ia), ia + 1, ib, _, _, by rw [Array.map_push], by lia, by lia, by lia, j2⟩)
     ·exact wpS_pure ⟨sm, O.push (at' X ia), ia + 1, ib, _, _, by rw [Array.map_push], by lia, by lia, by lia, j2⟩
  case p2 =>
   clear la lb ls j sm
   rintro ⟨c, c'⟩ st2 (⟨R, hc1, hR, sm⟩ | ⟨sm, O, ia, ib, a, b, hcc, la, lb, ls, j⟩)
   ·dsimp only at hc1
    subst hc1
    exact wpS_pure ⟨R, rfl, hR, sm⟩
   cases hcc
   dsimp only
   refine wpS_bind (wpS_lift (wpAny_rule ⟨rfl, ?_⟩))
   have hst : ∃ aI, aI = x + 1 + 1 := ⟨_, rfl⟩
   obtain ⟨aI, hst⟩ := hst
   rw [<- hst] at ls
   refine wpS_bind (wpS_mono (wpS_forRange (I := fun y c st2 => Same κ st st2 /\ ∃ O ia ib m a b, c = (none, O.map (kas_item it), ia, ib, m, a, b) /\ ia + 1 < X.size /\ ib < Y.size /\ aI <= ia + ib /\ J le (X.toList ++ Y.toList) X Y O ia ib)
    (Q := fun c st2 => (∃ R, c.1 = some (R.map (kas_item it)) /\ mK le (X.toList ++ Y.toList) R /\ Same κ st st2) \/ (Same κ st st2 /\ ∃ O ia ib m a b, c = (none, O.map (kas_item it), ia, ib, m, a, b) /\ ia + 1 < X.size /\ ib < Y.size /\ aI <= ia + ib /\ J le (X.toList ++ Y.toList) X Y O ia ib)) ?s3 ?f3 ?i3) ?p3)
   case i3 => exact ⟨sm, O, ia, ib, _, _, _, rfl, la, lb, ls, j⟩
   case f3 => exact fun c st2 h => .inr h
   case p3 =>
    clear la lb ls j sm
    rintro ⟨c, c'⟩ st2 (⟨R, hc1, hR, sm⟩ | ⟨sm, O, ia, ib, m, a, b, hcc, la, lb, ls, j⟩)
    ·dsimp only at hc1
     subst hc1
     exact wpS_pure ⟨R, rfl, hR, sm⟩
    cases hcc
    dsimp only
    refine wpS_bind (wpS_modify (wpS_pure ?_))
    exact ⟨sm.g _, O, ia, ib, _, rfl, la, lb, by lia, j⟩
   case s3 =>
    clear la lb ls j sm
    rintro y c st2 _ hy0 ⟨sm, O, ia, ib, m, a, b, rfl, la, lb, ls, j⟩
    dsimp only
    by_cases hm : m > 1
    ·rw [NF hm]
     refine wpS_bind (wpS_modify ?_)
     replace sm := sm.g (m - 1)
     refine wpS_bind (aJ lb ?_)
     refine wpS_bind (c6 o hc sm.1 hx (hy ib lb) (by lia) (by lia) (fun i k h1 h2 => sx _ _ (by lia) (by lia)) fun k k1 k2 k3 => ?_)
     dsimp only
     have k2' : ∀ i, ia <= i -> i < ia + k -> le (at' X i) (at' Y ib) := fun i h1 h2 => by
      have := k2 (i - ia) (by lia)
      rwa [show ia + (i - ia) = i by lia] at this
     have ky : ∀ i, ia + k <= i -> i < X.size -> le (at' Y ib) (at' X i) := fun i h1 h2 => by
      have := k3 (i - ia) (by lia) (by lia)
      rwa [show ia + (i - ia) = i by lia] at this
     by_cases k0 : k > 0
     ·rw [NF k0]
      replace j := j.blk (m := k) fun i l h1 h2 h3 h4 h5 => o.tr _ _ _ (k2' i h1 h2) (sy _ _ h4 h5)
      have eO : O.map (kas_item it) ++ (X.map (kas_item it)).extract ia (ia + k) = (O ++ X.extract ia (ia + k)).map (kas_item it) := by simp
      rw [eO]
      by_cases e1 : ia + k + 1 = X.size
      ·rw [NF e1]
       refine wpS_pure (.inl ⟨O ++ X.extract ia (ia + k) ++ Y.extract ib Y.size ++ X.extract (ia + k) X.size, ?_, j.last (by lia) (by lia) (fun i hi => by have := hl i hi; rwa [show X.size - 1 = ia + k by lia] at this), sm⟩)
       simp
      rw [NG e1]
      by_cases e2 : ia + k = X.size
      ·rw [NF e2]
       refine wpS_pure (.inl ⟨O ++ X.extract ia (ia + k) ++ X.extract (ia + k) X.size ++ Y.extract ib Y.size, ?_, j.done2 (by lia) (by lia), sm⟩)
       simp
      rw [NG e2]
      have la2 : ia + k + 1 < X.size := by lia
      have ls2 : aI <= ia + k + ib := by lia
      clear k2' k2 k3 eO e1 e2
      generalize O ++ X.extract ia (ia + k) = O at j ⊢
      generalize hia : ia + k = ia at j la2 ls2 ky ⊢
      clear la ls k1 hia
      rename_i ia0 _
      clear k0
      have la := la2
      have ls := ls2
      -- y0
      refine wpS_bind (aJ lb ?_)
      have j2 : J le (X.toList ++ Y.toList) X Y (O.push (at' Y ib)) ia (ib + 1) := (j.sy.one lb fun i h1 h2 => ky i h1 h2).sy
      by_cases e3 : ib + 1 = Y.size
      ·rw [NF e3]
       refine wpS_pure (.inl ⟨(O.push (at' Y ib)) ++ X.extract ia X.size ++ Y.extract (ib + 1) Y.size, ?_, j2.done1 (by lia) (by lia), sm⟩)
       simp
      ·rw [NG e3]
       refine wpS_bind (aJ (by lia) ?_)
       refine wpS_bind (c6 o hc sm.1 hy (hx ia (by lia)) (by lia) (by lia) (fun i k h1 h2 => sy _ _ (by lia) (by lia)) fun k k1 k2 k3 => ?_)
       dsimp only
       have k2' : ∀ i, ib + 1 <= i -> i < ib + 1 + k -> le (at' Y i) (at' X ia) := fun i h1 h2 => by
        have := k2 (i - (ib + 1)) (by lia)
        rwa [show ib + 1 + (i - (ib + 1)) = i by lia] at this
       have k3' : ∀ i, ib + 1 + k <= i -> i < Y.size -> le (at' X ia) (at' Y i) := fun i h1 h2 => by
        have := k3 (i - (ib + 1)) (by lia) (by lia)
        rwa [show ib + 1 + (i - (ib + 1)) = i by lia] at this
       have j3 : J le (X.toList ++ Y.toList) X Y (O.push (at' Y ib) ++ Y.extract (ib + 1) (ib + 1 + k)) ia (ib + 1 + k) := (j2.sy.blk fun i l h1 h2 h3 h4 h5 => o.tr _ _ _ (k2' i h1 h2) (sx _ _ h4 h5)).sy
       by_cases k0 : k > 0
       ·rw [NF k0]
        by_cases e4 : ib + 1 + k = Y.size
        ·rw [NF e4]
         refine wpS_pure (.inl ⟨(O.push (at' Y ib)) ++ Y.extract (ib + 1) (ib + 1 + k) ++ X.extract ia X.size ++ Y.extract (ib + 1 + k) Y.size, ?_, j3.done1 (by lia) (by lia), sm⟩)
         simp
        ·rw [NG e4]
         refine wpS_bind (aJ (by lia) ?_)
         have j4 := j3.one (by lia) fun i h1 h2 => k3' i h1 h2
         by_cases e5 : ia + 1 + 1 = X.size
         ·rw [NF e5]
          refine wpS_pure (.inl ⟨(O.push (at' Y ib) ++ Y.extract (ib + 1) (ib + 1 + k)).push (at' X ia) ++ Y.extract (ib + 1 + k) Y.size ++ X.extract (ia + 1) X.size, ?_, j4.last (by lia) (by lia) (fun i hi => by have := hl i hi; rwa [show X.size - 1 = ia + 1 by lia] at this), sm⟩)
          simp
         ·rw [NG e5]
          have fin : ∀ m c d, ∃ O' ia' ib' m' c' d', ((none, ((O.map (kas_item it)).push (kas_item it (at' Y ib)) ++ (Y.map (kas_item it)).extract (ib + 1) (ib + 1 + k)).push (kas_item it (at' X ia)), ia + 1, ib + 1 + k, m, c, d) : Option (Array Keyed) × Array Keyed × Nat × Nat × Nat × Nat × Nat) = (none, O'.map (kas_item it), ia', ib', m', c', d') /\ ia' + 1 < X.size /\ ib' < Y.size /\ aI <= ia' + ib' /\ J le (X.toList ++ Y.toList) X Y O' ia' ib' := fun m c d => ⟨_, _, _, m, c, d, by rw [show (((O.map (kas_item it)).push (kas_item it (at' Y ib)) ++ (Y.map (kas_item it)).extract (ib + 1) (ib + 1 + k)).push (kas_item it (at' X ia))) = ((O.push (at' Y ib) ++ Y.extract (ib + 1) (ib + 1 + k)).push (at' X ia)).map (kas_item it) by simp], by lia, by lia, by lia, j4⟩
          refine cn ?_ ?_
          ·exact wpS_pure (.inr ⟨sm, fin _ _ _⟩)
          ·exact wpS_pure ⟨sm, fin _ _ _⟩
       ·rw [NG k0]
        have k00 : k = 0 := by lia
        subst k00
        have j3' : J le (X.toList ++ Y.toList) X Y (O.push (at' Y ib)) ia (ib + 1) := j2
        refine wpS_bind (aJ (by lia) ?_)
        have j4 := j3'.one (by lia) fun i h1 h2 => k3' i (by lia) h2
        by_cases e5 : ia + 1 + 1 = X.size
        ·rw [NF e5]
         refine wpS_pure (.inl ⟨(O.push (at' Y ib)).push (at' X ia) ++ Y.extract (ib + 1) Y.size ++ X.extract (ia + 1) X.size, ?_, j4.last (by lia) (by lia) (fun i hi => by have := hl i hi; rwa [show X.size - 1 = ia + 1 by lia] at this), sm⟩)
         simp
        ·rw [NG e5]
         have fin : ∀ m c d, ∃ O' ia' ib' m' c' d', ((none, ((O.map (kas_item it)).push (kas_item it (at' Y ib))).push (kas_item it (at' X ia)), ia + 1, ib + 1, m, c, d) : Option (Array Keyed) × Array Keyed × Nat × Nat × Nat × Nat × Nat) = (none, O'.map (kas_item it), ia', ib', m', c', d') /\ ia' + 1 < X.size /\ ib' < Y.size /\ aI <= ia' + ib' /\ J le (X.toList ++ Y.toList) X Y O' ia' ib' := fun m c d => ⟨_, _, _, m, c, d, by rw [show ((O.map (kas_item it)).push (kas_item it (at' Y ib))).push (kas_item it (at' X ia)) = ((O.push (at' Y ib)).push (at' X ia)).map (kas_item it) by simp], by lia, by lia, by lia, j4⟩
         refine cn ?_ ?_
         ·exact wpS_pure (.inr ⟨sm, fin _ _ _⟩)
         ·exact wpS_pure ⟨sm, fin _ _ _⟩
     ·rw [NG k0]
      have k00 : k = 0 := by lia
      subst k00
      replace ky : ∀ i, ia <= i -> i < X.size -> le (at' Y ib) (at' X i) := ky
      -- y0
      refine wpS_bind (aJ lb ?_)
      have j2 : J le (X.toList ++ Y.toList) X Y (O.push (at' Y ib)) ia (ib + 1) := (j.sy.one lb fun i h1 h2 => ky i h1 h2).sy
      by_cases e3 : ib + 1 = Y.size
      ·rw [NF e3]
       refine wpS_pure (.inl ⟨(O.push (at' Y ib)) ++ X.extract ia X.size ++ Y.extract (ib + 1) Y.size, ?_, j2.done1 (by lia) (by lia), sm⟩)
       simp
      ·rw [NG e3]
       refine wpS_bind (aJ (by lia) ?_)
       refine wpS_bind (c6 o hc sm.1 hy (hx ia (by lia)) (by lia) (by lia) (fun i k h1 h2 => sy _ _ (by lia) (by lia)) fun k k1 k2 k3 => ?_)
       dsimp only
       have k2' : ∀ i, ib + 1 <= i -> i < ib + 1 + k -> le (at' Y i) (at' X ia) := fun i h1 h2 => by
        have := k2 (i - (ib + 1)) (by lia)
        rwa [show ib + 1 + (i - (ib + 1)) = i by lia] at this
       have k3' : ∀ i, ib + 1 + k <= i -> i < Y.size -> le (at' X ia) (at' Y i) := fun i h1 h2 => by
        have := k3 (i - (ib + 1)) (by lia) (by lia)
        rwa [show ib + 1 + (i - (ib + 1)) = i by lia] at this
       have j3 : J le (X.toList ++ Y.toList) X Y (O.push (at' Y ib) ++ Y.extract (ib + 1) (ib + 1 + k)) ia (ib + 1 + k) := (j2.sy.blk fun i l h1 h2 h3 h4 h5 => o.tr _ _ _ (k2' i h1 h2) (sx _ _ h4 h5)).sy
       by_cases k0 : k > 0
       ·rw [NF k0]
        by_cases e4 : ib + 1 + k = Y.size
        ·rw [NF e4]
         refine wpS_pure (.inl ⟨(O.push (at' Y ib)) ++ Y.extract (ib + 1) (ib + 1 + k) ++ X.extract ia X.size ++ Y.extract (ib + 1 + k) Y.size, ?_, j3.done1 (by lia) (by lia), sm⟩)
         simp
        ·rw [NG e4]
         refine wpS_bind (aJ (by lia) ?_)
         have j4 := j3.one (by lia) fun i h1 h2 => k3' i h1 h2
         by_cases e5 : ia + 1 + 1 = X.size
         ·rw [NF e5]
          refine wpS_pure (.inl ⟨(O.push (at' Y ib) ++ Y.extract (ib + 1) (ib + 1 + k)).push (at' X ia) ++ Y.extract (ib + 1 + k) Y.size ++ X.extract (ia + 1) X.size, ?_, j4.last (by lia) (by lia) (fun i hi => by have := hl i hi; rwa [show X.size - 1 = ia + 1 by lia] at this), sm⟩)
          simp
         ·rw [NG e5]
          have fin : ∀ m c d, ∃ O' ia' ib' m' c' d', ((none, ((O.map (kas_item it)).push (kas_item it (at' Y ib)) ++ (Y.map (kas_item it)).extract (ib + 1) (ib + 1 + k)).push (kas_item it (at' X ia)), ia + 1, ib + 1 + k, m, c, d) : Option (Array Keyed) × Array Keyed × Nat × Nat × Nat × Nat × Nat) = (none, O'.map (kas_item it), ia', ib', m', c', d') /\ ia' + 1 < X.size /\ ib' < Y.size /\ aI <= ia' + ib' /\ J le (X.toList ++ Y.toList) X Y O' ia' ib' := fun m c d => ⟨_, _, _, m, c, d, by rw [show (((O.map (kas_item it)).push (kas_item it (at' Y ib)) ++ (Y.map (kas_item it)).extract (ib + 1) (ib + 1 + k)).push (kas_item it (at' X ia))) = ((O.push (at' Y ib) ++ Y.extract (ib + 1) (ib + 1 + k)).push (at' X ia)).map (kas_item it) by simp], by lia, by lia, by lia, j4⟩
          refine cn ?_ ?_
          ·exact wpS_pure (.inr ⟨sm, fin _ _ _⟩)
          ·exact wpS_pure ⟨sm, fin _ _ _⟩
       ·rw [NG k0]
        have k00 : k = 0 := by lia
        subst k00
        have j3' : J le (X.toList ++ Y.toList) X Y (O.push (at' Y ib)) ia (ib + 1) := j2
        refine wpS_bind (aJ (by lia) ?_)
        have j4 := j3'.one (by lia) fun i h1 h2 => k3' i (by lia) h2
        by_cases e5 : ia + 1 + 1 = X.size
        ·rw [NF e5]
         refine wpS_pure (.inl ⟨(O.push (at' Y ib)).push (at' X ia) ++ Y.extract (ib + 1) Y.size ++ X.extract (ia + 1) X.size, ?_, j4.last (by lia) (by lia) (fun i hi => by have := hl i hi; rwa [show X.size - 1 = ia + 1 by lia] at this), sm⟩)
         simp
        ·rw [NG e5]
         have fin : ∀ m c d, ∃ O' ia' ib' m' c' d', ((none, ((O.map (kas_item it)).push (kas_item it (at' Y ib))).push (kas_item it (at' X ia)), ia + 1, ib + 1, m, c, d) : Option (Array Keyed) × Array Keyed × Nat × Nat × Nat × Nat × Nat) = (none, O'.map (kas_item it), ia', ib', m', c', d') /\ ia' + 1 < X.size /\ ib' < Y.size /\ aI <= ia' + ib' /\ J le (X.toList ++ Y.toList) X Y O' ia' ib' := fun m c d => ⟨_, _, _, m, c, d, by rw [show ((O.map (kas_item it)).push (kas_item it (at' Y ib))).push (kas_item it (at' X ia)) = ((O.push (at' Y ib)).push (at' X ia)).map (kas_item it) by simp], by lia, by lia, by lia, j4⟩
         refine cn ?_ ?_
         ·exact wpS_pure (.inr ⟨sm, fin _ _ _⟩)
         ·exact wpS_pure ⟨sm, fin _ _ _⟩
    ·rw [NG hm]
     refine wpS_bind (wpS_modify ?_)
     replace sm := sm.g (m)
     refine wpS_bind (aJ lb ?_)
     refine wpS_bind (c6 o hc sm.1 hx (hy ib lb) (by lia) (by lia) (fun i k h1 h2 => sx _ _ (by lia) (by lia)) fun k k1 k2 k3 => ?_)
     dsimp only
     have k2' : ∀ i, ia <= i -> i < ia + k -> le (at' X i) (at' Y ib) := fun i h1 h2 => by
      have := k2 (i - ia) (by lia)
      rwa [show ia + (i - ia) = i by lia] at this
     have ky : ∀ i, ia + k <= i -> i < X.size -> le (at' Y ib) (at' X i) := fun i h1 h2 => by
      have := k3 (i - ia) (by lia) (by lia)
      rwa [show ia + (i - ia) = i by lia] at this
     by_cases k0 : k > 0
     ·rw [NF k0]
      replace j := j.blk (m := k) fun i l h1 h2 h3 h4 h5 => o.tr _ _ _ (k2' i h1 h2) (sy _ _ h4 h5)
      have eO : O.map (kas_item it) ++ (X.map (kas_item it)).extract ia (ia + k) = (O ++ X.extract ia (ia + k)).map (kas_item it) := by simp
      rw [eO]
      by_cases e1 : ia + k + 1 = X.size
      ·rw [NF e1]
       refine wpS_pure (.inl ⟨O ++ X.extract ia (ia + k) ++ Y.extract ib Y.size ++ X.extract (ia + k) X.size, ?_, j.last (by lia) (by lia) (fun i hi => by have := hl i hi; rwa [show X.size - 1 = ia + k by lia] at this), sm⟩)
       simp
      rw [NG e1]
      by_cases e2 : ia + k = X.size
      ·rw [NF e2]
       refine wpS_pure (.inl ⟨O ++ X.extract ia (ia + k) ++ X.extract (ia + k) X.size ++ Y.extract ib Y.size, ?_, j.done2 (by lia) (by lia), sm⟩)
       simp
      rw [NG e2]
      have la2 : ia + k + 1 < X.size := by lia
      have ls2 : aI <= ia + k + ib := by lia
      clear k2' k2 k3 eO e1 e2
      generalize O ++ X.extract ia (ia + k) = O at j ⊢
      generalize hia : ia + k = ia at j la2 ls2 ky ⊢
      clear la ls k1 hia
      rename_i ia0 _
      clear k0
      have la := la2
      have ls := ls2
      -- y0
      refine wpS_bind (aJ lb ?_)
      have j2 : J le (X.toList ++ Y.toList) X Y (O.push (at' Y ib)) ia (ib + 1) := (j.sy.one lb fun i h1 h2 => ky i h1 h2).sy
      by_cases e3 : ib + 1 = Y.size
      ·rw [NF e3]
       refine wpS_pure (.inl ⟨(O.push (at' Y ib)) ++ X.extract ia X.size ++ Y.extract (ib + 1) Y.size, ?_, j2.done1 (by lia) (by lia), sm⟩)
       simp
      ·rw [NG e3]
       refine wpS_bind (aJ (by lia) ?_)
       refine wpS_bind (c6 o hc sm.1 hy (hx ia (by lia)) (by lia) (by lia) (fun i k h1 h2 => sy _ _ (by lia) (by lia)) fun k k1 k2 k3 => ?_)
       dsimp only
       have k2' : ∀ i, ib + 1 <= i -> i < ib + 1 + k -> le (at' Y i) (at' X ia) := fun i h1 h2 => by
        have := k2 (i - (ib + 1)) (by lia)
        rwa [show ib + 1 + (i - (ib + 1)) = i by lia] at this
       have k3' : ∀ i, ib + 1 + k <= i -> i < Y.size -> le (at' X ia) (at' Y i) := fun i h1 h2 => by
        have := k3 (i - (ib + 1)) (by lia) (by lia)
        rwa [show ib + 1 + (i - (ib + 1)) = i by lia] at this
       have j3 : J le (X.toList ++ Y.toList) X Y (O.push (at' Y ib) ++ Y.extract (ib + 1) (ib + 1 + k)) ia (ib + 1 + k) := (j2.sy.blk fun i l h1 h2 h3 h4 h5 => o.tr _ _ _ (k2' i h1 h2) (sx _ _ h4 h5)).sy
       by_cases k0 : k > 0
       ·rw [NF k0]
        by_cases e4 : ib + 1 + k = Y.size
        ·rw [NF e4]
         refine wpS_pure (.inl ⟨(O.push (at' Y ib)) ++ Y.extract (ib + 1) (ib + 1 + k) ++ X.extract ia X.size ++ Y.extract (ib + 1 + k) Y.size, ?_, j3.done1 (by lia) (by lia), sm⟩)
         simp
        ·rw [NG e4]
         refine wpS_bind (aJ (by lia) ?_)
         have j4 := j3.one (by lia) fun i h1 h2 => k3' i h1 h2
         by_cases e5 : ia + 1 + 1 = X.size
         ·rw [NF e5]
          refine wpS_pure (.inl ⟨(O.push (at' Y ib) ++ Y.extract (ib + 1) (ib + 1 + k)).push (at' X ia) ++ Y.extract (ib + 1 + k) Y.size ++ X.extract (ia + 1) X.size, ?_, j4.last (by lia) (by lia) (fun i hi => by have := hl i hi; rwa [show X.size - 1 = ia + 1 by lia] at this), sm⟩)
          simp
         ·rw [NG e5]
          have fin : ∀ m c d, ∃ O' ia' ib' m' c' d', ((none, ((O.map (kas_item it)).push (kas_item it (at' Y ib)) ++ (Y.map (kas_item it)).extract (ib + 1) (ib + 1 + k)).push (kas_item it (at' X ia)), ia + 1, ib + 1 + k, m, c, d) : Option (Array Keyed) × Array Keyed × Nat × Nat × Nat × Nat × Nat) = (none, O'.map (kas_item it), ia', ib', m', c', d') /\ ia' + 1 < X.size /\ ib' < Y.size /\ aI <= ia' + ib' /\ J le (X.toList ++ Y.toList) X Y O' ia' ib' := fun m c d => ⟨_, _, _, m, c, d, by rw [show (((O.map (kas_item it)).push (kas_item it (at' Y ib)) ++ (Y.map (kas_item it)).extract (ib + 1) (ib + 1 + k)).push (kas_item it (at' X ia))) = ((O.push (at' Y ib) ++ Y.extract (ib + 1) (ib + 1 + k)).push (at' X ia)).map (kas_item it) by simp], by lia, by lia, by lia, j4⟩
          refine cn ?_ ?_
          ·exact wpS_pure (.inr ⟨sm, fin _ _ _⟩)
          ·exact wpS_pure ⟨sm, fin _ _ _⟩
       ·rw [NG k0]
        have k00 : k = 0 := by lia
        subst k00
        have j3' : J le (X.toList ++ Y.toList) X Y (O.push (at' Y ib)) ia (ib + 1) := j2
        refine wpS_bind (aJ (by lia) ?_)
        have j4 := j3'.one (by lia) fun i h1 h2 => k3' i (by lia) h2
        by_cases e5 : ia + 1 + 1 = X.size
        ·rw [NF e5]
         refine wpS_pure (.inl ⟨(O.push (at' Y ib)).push (at' X ia) ++ Y.extract (ib + 1) Y.size ++ X.extract (ia + 1) X.size, ?_, j4.last (by lia) (by lia) (fun i hi => by have := hl i hi; rwa [show X.size - 1 = ia + 1 by lia] at this), sm⟩)
         simp
        ·rw [NG e5]
         have fin : ∀ m c d, ∃ O' ia' ib' m' c' d', ((none, ((O.map (kas_item it)).push (kas_item it (at' Y ib))).push (kas_item it (at' X ia)), ia + 1, ib + 1, m, c, d) : Option (Array Keyed) × Array Keyed × Nat × Nat × Nat × Nat × Nat) = (none, O'.map (kas_item it), ia', ib', m', c', d') /\ ia' + 1 < X.size /\ ib' < Y.size /\ aI <= ia' + ib' /\ J le (X.toList ++ Y.toList) X Y O' ia' ib' := fun m c d => ⟨_, _, _, m, c, d, by rw [show ((O.map (kas_item it)).push (kas_item it (at' Y ib))).push (kas_item it (at' X ia)) = ((O.push (at' Y ib)).push (at' X ia)).map (kas_item it) by simp], by lia, by lia, by lia, j4⟩
         refine cn ?_ ?_
         ·exact wpS_pure (.inr ⟨sm, fin _ _ _⟩)
         ·exact wpS_pure ⟨sm, fin _ _ _⟩
     ·rw [NG k0]
      have k00 : k = 0 := by lia
      subst k00
      replace ky : ∀ i, ia <= i -> i < X.size -> le (at' Y ib) (at' X i) := ky
      -- y0
      refine wpS_bind (aJ lb ?_)
      have j2 : J le (X.toList ++ Y.toList) X Y (O.push (at' Y ib)) ia (ib + 1) := (j.sy.one lb fun i h1 h2 => ky i h1 h2).sy
      by_cases e3 : ib + 1 = Y.size
      ·rw [NF e3]
       refine wpS_pure (.inl ⟨(O.push (at' Y ib)) ++ X.extract ia X.size ++ Y.extract (ib + 1) Y.size, ?_, j2.done1 (by lia) (by lia), sm⟩)
       simp
      ·rw [NG e3]
       refine wpS_bind (aJ (by lia) ?_)
       refine wpS_bind (c6 o hc sm.1 hy (hx ia (by lia)) (by lia) (by lia) (fun i k h1 h2 => sy _ _ (by lia) (by lia)) fun k k1 k2 k3 => ?_)
       dsimp only
       have k2' : ∀ i, ib + 1 <= i -> i < ib + 1 + k -> le (at' Y i) (at' X ia) := fun i h1 h2 => by
        have := k2 (i - (ib + 1)) (by lia)
        rwa [show ib + 1 + (i - (ib + 1)) = i by lia] at this
       have k3' : ∀ i, ib + 1 + k <= i -> i < Y.size -> le (at' X ia) (at' Y i) := fun i h1 h2 => by
        have := k3 (i - (ib + 1)) (by lia) (by lia)
        rwa [show ib + 1 + (i - (ib + 1)) = i by lia] at this
       have j3 : J le (X.toList ++ Y.toList) X Y (O.push (at' Y ib) ++ Y.extract (ib + 1) (ib + 1 + k)) ia (ib + 1 + k) := (j2.sy.blk fun i l h1 h2 h3 h4 h5 => o.tr _ _ _ (k2' i h1 h2) (sx _ _ h4 h5)).sy
       by_cases k0 : k > 0
       ·rw [NF k0]
        by_cases e4 : ib + 1 + k = Y.size
        ·rw [NF e4]
         refine wpS_pure (.inl ⟨(O.push (at' Y ib)) ++ Y.extract (ib + 1) (ib + 1 + k) ++ X.extract ia X.size ++ Y.extract (ib + 1 + k) Y.size, ?_, j3.done1 (by lia) (by lia), sm⟩)
         simp
        ·rw [NG e4]
         refine wpS_bind (aJ (by lia) ?_)
         have j4 := j3.one (by lia) fun i h1 h2 => k3' i h1 h2
         by_cases e5 : ia + 1 + 1 = X.size
         ·rw [NF e5]
          refine wpS_pure (.inl ⟨(O.push (at' Y ib) ++ Y.extract (ib + 1) (ib + 1 + k)).push (at' X ia) ++ Y.extract (ib + 1 + k) Y.size ++ X.extract (ia + 1) X.size, ?_, j4.last (by lia) (by lia) (fun i hi => by have := hl i hi; rwa [show X.size - 1 = ia + 1 by lia] at this), sm⟩)
          simp
         ·rw [NG e5]
          have fin : ∀ m c d, ∃ O' ia' ib' m' c' d', ((none, ((O.map (kas_item it)).push (kas_item it (at' Y ib)) ++ (Y.map (kas_item it)).extract (ib + 1) (ib + 1 + k)).push (kas_item it (at' X ia)), ia + 1, ib + 1 + k, m, c, d) : Option (Array Keyed) × Array Keyed × Nat × Nat × Nat × Nat × Nat) = (none, O'.map (kas_item it), ia', ib', m', c', d') /\ ia' + 1 < X.size /\ ib' < Y.size /\ aI <= ia' + ib' /\ J le (X.toList ++ Y.toList) X Y O' ia' ib' := fun m c d => ⟨_, _, _, m, c, d, by rw [show (((O.map (kas_item it)).push (kas_item it (at' Y ib)) ++ (Y.map (kas_item it)).extract (ib + 1) (ib + 1 + k)).push (kas_item it (at' X ia))) = ((O.push (at' Y ib) ++ Y.extract (ib + 1) (ib + 1 + k)).push (at' X ia)).map (kas_item it) by simp], by lia, by lia, by lia, j4⟩
          refine cn ?_ ?_
          ·exact wpS_pure (.inr ⟨sm, fin _ _ _⟩)
          ·exact wpS_pure ⟨sm, fin _ _ _⟩
       ·rw [NG k0]
        have k00 : k = 0 := by lia
        subst k00
        have j3' : J le (X.toList ++ Y.toList) X Y (O.push (at' Y ib)) ia (ib + 1) := j2
        refine wpS_bind (aJ (by lia) ?_)
        have j4 := j3'.one (by lia) fun i h1 h2 => k3' i (by lia) h2
        by_cases e5 : ia + 1 + 1 = X.size
        ·rw [NF e5]
         refine wpS_pure (.inl ⟨(O.push (at' Y ib)).push (at' X ia) ++ Y.extract (ib + 1) Y.size ++ X.extract (ia + 1) X.size, ?_, j4.last (by lia) (by lia) (fun i hi => by have := hl i hi; rwa [show X.size - 1 = ia + 1 by lia] at this), sm⟩)
         simp
        ·rw [NG e5]
         have fin : ∀ m c d, ∃ O' ia' ib' m' c' d', ((none, ((O.map (kas_item it)).push (kas_item it (at' Y ib))).push (kas_item it (at' X ia)), ia + 1, ib + 1, m, c, d) : Option (Array Keyed) × Array Keyed × Nat × Nat × Nat × Nat × Nat) = (none, O'.map (kas_item it), ia', ib', m', c', d') /\ ia' + 1 < X.size /\ ib' < Y.size /\ aI <= ia' + ib' /\ J le (X.toList ++ Y.toList) X Y O' ia' ib' := fun m c d => ⟨_, _, _, m, c, d, by rw [show ((O.map (kas_item it)).push (kas_item it (at' Y ib))).push (kas_item it (at' X ia)) = ((O.push (at' Y ib)).push (at' X ia)).map (kas_item it) by simp], by lia, by lia, by lia, j4⟩
         refine cn ?_ ?_
         ·exact wpS_pure (.inr ⟨sm, fin _ _ _⟩)
         ·exact wpS_pure ⟨sm, fin _ _ _⟩
end
section
variable {X Y O : Array Nat} {le : Nat -> Nat -> Prop} {tot : List Nat} {na nb : Nat}
theorem Du {i : Nat} (h : i < X.size) : X.toList.take (i + 1) = X.toList.take i ++ [at' X i] := by
 rw [List.take_succ_eq_append_getElem (by simpa using h), lP h]
theorem nP {i j : Nat} (h : i <= j) : X.toList.take j = X.toList.take i ++ (X.extract i j).toList := by
 rw [Array.toList_extract, List.extract_eq_take_drop]
 have e : j = i + (j - i) := by lia
 conv => lhs; rw [e, List.take_add]
theorem wW {i x : Nat} (h : x ∈ X.toList.take i) : ∃ j, j < i /\ j < X.size /\ at' X j = x := by
 obtain ⟨k, hk⟩ := OS h
 rw [List.getElem?_take] at hk
 split at hk
 ·obtain ⟨h1, h2⟩ := Og.mp hk
  have h1' : k < X.size := by simpa using h1
  exact ⟨k, by lia, h1', by rw [<- lP h1']; exact h2⟩
 ·cases hk
abbrev JH (le : Nat -> Nat -> Prop) (tot : List Nat) (X Y O : Array Nat) (na nb : Nat) : Prop := Inv (fun a b => le b a) tot O.toList (X.toList.take na).reverse (Y.toList.take nb).reverse
theorem JH.sy (j : JH le tot X Y O na nb) : JH le tot Y X O nb na := Inv.symm j
theorem JH.one (j : JH le tot X Y O na nb) (h : 1 <= na) (h2 : na <= X.size) (k : ∀ i, i < nb -> le (at' Y i) (at' X (na - 1))) : JH le tot X Y (O.push (at' X (na - 1))) (na - 1) nb := by
 unfold JH at j ⊢
 obtain ⟨m, rfl⟩ : ∃ m, na = m + 1 := ⟨na - 1, by lia⟩
 rw [Du (by lia), List.reverse_append] at j
 rw [Nat.add_sub_cancel] at k ⊢
 have := Inv.block (xs := [at' X m]) j (fun x hx y hy => by
  rw [NI] at hx
  subst hx
  obtain ⟨i, h1, h2, rfl⟩ := wW (List.mem_reverse.mp hy)
  exact k i h1)
 rwa [Array.toList_push]
theorem JH.blk {m : Nat} (j : JH le tot X Y O na nb) (h : m <= na) (h2 : na <= X.size) (k : ∀ i l, m <= i -> i < na -> l < nb -> le (at' Y l) (at' X i)) : JH le tot X Y (O ++ (X.extract m na).reverse) m nb := by
 unfold JH at j ⊢
 rw [nP h, List.reverse_append] at j
 have := Inv.block j (fun x hx y hy => by
  obtain ⟨i, h1, h2, h3, rfl⟩ := vk (List.mem_reverse.mp hx)
  obtain ⟨l, h4, h5, rfl⟩ := wW (List.mem_reverse.mp hy)
  exact k i l h1 h2 h4)
 rwa [Array.toList_append, Array.toList_reverse]
theorem AY {l r : List Nat} (h : l.Pairwise (fun a b => le b a) /\ l.Perm tot) (e : l = r.reverse) : r.Pairwise le /\ r.Perm tot := by
 subst e
 exact ⟨List.pairwise_reverse.mp h.1, (List.reverse_perm _).symm.trans h.2⟩
theorem J2 (m : Nat) : (X.extract 0 m).toList = X.toList.take m := by rw [Array.toList_extract, List.extract_eq_take_drop]; simp
theorem JH.done1 (j : JH le tot X Y O na nb) (h : nb = 0) (h2 : na <= X.size) : mK le tot (X.extract 0 na ++ Y.extract 0 nb ++ O.reverse) := by
 subst h
 refine AY (l := O.toList ++ (X.toList.take na).reverse) (Inv.doneA (by unfold JH at j; simpa using j)) ?_
 simp [J2]
theorem JH.done2 (j : JH le tot X Y O na nb) (h : na = 0) (h2 : nb <= Y.size) : mK le tot (X.extract 0 na ++ Y.extract 0 nb ++ O.reverse) := by
 have := j.sy.done1 h h2
 subst h
 simpa using this
theorem JH.first (j : JH le tot X Y O na nb) (h : nb = 1) (y1 : 1 <= Y.size) (h2 : na <= X.size) (k : ∀ i, i < X.size -> le (at' Y 0) (at' X i)) : mK le tot (Y.extract 0 nb ++ X.extract 0 na ++ O.reverse) := by
 subst h
 have e : Y.toList.take 1 = [at' Y 0] := by rw [Du (i := 0) (by lia)]; simp
 have j2 : Inv (fun a b => le b a) tot O.toList [at' Y 0] (X.toList.take na).reverse := by have := j.sy; unfold JH at this; rw [e] at this; exact this
 refine AY (j2.lastA fun y hy => ?_) ?_
 ·obtain ⟨i, h1, h2, rfl⟩ := wW (List.mem_reverse.mp hy)
  exact k i h2
 ·rw [Array.toList_append, Array.toList_append, J2, J2, e]
  simp
end
section
variable {prog : Program} {w : World} {A : Around} {E : Value -> Shared -> Prop} {s : Shared} {κ : SortKind} {it : Array Keyed} {n : Nat} {lt : Nat -> Nat -> Bool} {le : Nat -> Nat -> Prop}
theorem EV (o : Ord lt le) (hc : xr prog w A s κ it n lt) {X Y : Array Nat} {Q : Array Keyed -> SortSt -> Prop} {st : SortSt} (hk : kindOf st = κ) (hx : ∀ i, i < X.size -> at' X i < n) (hy : ∀ i, i < Y.size -> at' Y i < n)
  (x1 : 1 <= X.size) (y1 : 1 <= Y.size) (sx : ∀ i j, i <= j -> j < X.size -> le (at' X i) (at' X j)) (sy : ∀ i j, i <= j -> j < Y.size -> le (at' Y i) (at' Y j)) (hf : ∀ i, i < X.size -> le (at' Y 0) (at' X i)) (hl : ∀ i, i < Y.size -> le (at' Y i) (at' X (X.size - 1)))
  (h : ∀ R st', Same κ st st' -> mK le (X.toList ++ Y.toList) R -> Q (R.map (kas_item it)) st') :
  wpS (model prog w) A E s (Fk (X.map (kas_item it)) (Y.map (kas_item it))) Q st := by
 have sm0 : Same κ st st := ⟨hk, rfl, rfl, rfl⟩
 have j0 : JH le (X.toList ++ Y.toList) X Y #[] X.size Y.size := by
  have ex : X.toList.take X.size = X.toList := List.take_of_length_le (by simp)
  have ey : Y.toList.take Y.size = Y.toList := List.take_of_length_le (by simp)
  unfold JH
  rw [ex, ey]
  exact ⟨by simpa using List.pairwise_reverse.mpr (Df sx), by simpa using List.pairwise_reverse.mpr (Df sy), by simpa using (List.reverse_perm X.toList).append (List.reverse_perm Y.toList)⟩
 have j1 : JH le (X.toList ++ Y.toList) X Y #[at' X (X.size - 1)] (X.size - 1) Y.size := j0.one x1 (NK _) fun i h2 => hl i h2
 refine wpS_bind (wpS_lift (wpAny_rule ⟨rfl, ?_⟩))
 dsimp only
 simp only [Array.size_map, beq_iff_eq]
 refine wpS_bind (aJ (X := X) (by lia) ?_)
 by_cases e1 : X.size - 1 = 0
 ·rw [NF e1]
  refine wpS_pure ?_
  have := h _ st sm0 (j1.done2 e1 (by lia))
  simpa [exm] using this
 rw [NG e1]
 by_cases e2 : Y.size = 1
 ·rw [NF e2]
  refine wpS_pure ?_
  have := h _ st sm0 (j1.first e2 (by lia) (by lia) hf)
  simpa [exm] using this
 rw [NG e2]
 refine wpS_bind (wpS_get ?_)
 refine wpS_bind (wpS_mono (wpS_forRange (I := fun x c st2 => Same κ st st2 /\ ∃ O na nb g, c = (none, na, nb, O.map (kas_item it), g) /\ 1 <= na /\ 1 < nb /\ na < X.size /\ nb <= Y.size /\ na + nb + (x + 1) <= X.size + Y.size /\ JH le (X.toList ++ Y.toList) X Y O na nb)
  (Q := fun c st2 => ∃ R, c.1 = some (R.map (kas_item it)) /\ mK le (X.toList ++ Y.toList) R /\ Same κ st st2) ?s1 ?f1 ?i1) ?p1)
 case i1 => exact ⟨sm0, #[at' X (X.size - 1)], X.size - 1, Y.size, _, by simp; rfl, by lia, by lia, by lia, by lia, by lia, j1⟩
 case f1 =>
  rintro c st2 ⟨sm, O, na, nb, g, rfl, la, lb, lx, ly, ls, j⟩
  lia
 case p1 =>
  rintro ⟨c, c'⟩ st2 ⟨R, hc1, hR, sm⟩
  dsimp only at hc1
  subst hc1
  exact wpS_pure (h R st2 sm hR)
 case s1 =>
  rintro x c st2 _ hx0 ⟨sm, O, na, nb, g, rfl, la, lb, lx, ly, ls, j⟩
  dsimp only
  refine wpS_bind (wpS_mono (wpS_forRange (I := fun y c st2 => Same κ st st2 /\ ∃ O na nb a b, c = (none, na, nb, O.map (kas_item it), a, b) /\ 1 <= na /\ 1 < nb /\ na < X.size /\ nb <= Y.size /\ na + nb + (x + 1 + y) <= X.size + Y.size /\ JH le (X.toList ++ Y.toList) X Y O na nb)
   (Q := fun c st2 => (∃ R, c.1 = some (R.map (kas_item it)) /\ mK le (X.toList ++ Y.toList) R /\ Same κ st st2) \/ (Same κ st st2 /\ ∃ O na nb a b, c = (none, na, nb, O.map (kas_item it), a, b) /\ 1 <= na /\ 1 < nb /\ na < X.size /\ nb <= Y.size /\ na + nb + (x + 1 + 1) <= X.size + Y.size /\ JH le (X.toList ++ Y.toList) X Y O na nb)) ?s2 ?f2 ?i2) ?p2)
  case i2 => exact ⟨sm, O, na, nb, 0, 0, rfl, la, lb, lx, ly, ls, j⟩
  case f2 =>
   rintro c st2 ⟨sm, O, na, nb, a, b, rfl, la, lb, lx, ly, ls, j⟩
   lia
  case s2 =>
   clear la lb lx ly ls j sm
   rintro y c st2 _ hy0 ⟨sm, O, na, nb, a, b, rfl, la, lb, lx, ly, ls, j⟩
   dsimp only
   refine wpS_bind (aJ (by lia) ?_)
   refine wpS_bind (aJ (by lia) ?_)
   refine wpS_bind (w_lt hc sm.1 (hy (nb - 1) (by lia)) (hx (na - 1) (by lia)) ?_)
   dsimp only
   cases cw : lt (at' Y (nb - 1)) (at' X (na - 1)) with
   | true =>
    rw [NF rfl]
    have l0 := o.yes _ _ cw
    have j2 := j.one la (by lia) fun i h1 => o.tr _ _ _ (sy i (nb - 1) (by lia) (by lia)) l0
    refine wpS_bind (aJ (by lia) ?_)
    by_cases e3 : na - 1 = 0
    ·rw [NF e3]
     refine wpS_pure (.inl ⟨X.extract 0 (na - 1) ++ Y.extract 0 nb ++ (O.push (at' X (na - 1))).reverse, ?_, j2.done2 e3 (by lia), sm⟩)
     simp [N0]
    ·rw [NG e3]
     refine cn ?_ ?_
     ·exact wpS_pure (.inr ⟨sm, O.push (at' X (na - 1)), na - 1, nb, _, _, by rw [Array.map_push], by lia, by lia, by lia, by lia, by lia, j2⟩)
     ·exact wpS_pure ⟨sm, O.push (at' X (na - 1)), na - 1, nb, _, _, by rw [Array.map_push], by lia, by lia, by lia, by lia, by lia, j2⟩
   | false =>
    rw [NG (by decide)]
    have l0 := o.no _ _ cw
    have j2 : JH le (X.toList ++ Y.toList) X Y (O.push (at' Y (nb - 1))) na (nb - 1) := (j.sy.one (by lia) (by lia) fun i h1 => o.tr _ _ _ (sx i (na - 1) (by lia) (by lia)) l0).sy
    refine wpS_bind (aJ (by lia) ?_)
    by_cases e3 : nb - 1 = 1
    ·rw [NF e3]
     refine wpS_pure (.inl ⟨Y.extract 0 (nb - 1) ++ X.extract 0 na ++ (O.push (at' Y (nb - 1))).reverse, ?_, j2.first e3 (by lia) (by lia) hf, sm⟩)
     simp [N0]
    ·rw [NG e3]
     refine cn ?_ ?_
     ·exact wpS_pure (.inr ⟨sm, O.push (at' Y (nb - 1)), na, nb - 1, _, _, by rw [Array.map_push], by lia, by lia, by lia, by lia, by lia, j2⟩)
     ·exact wpS_pure ⟨sm, O.push (at' Y (nb - 1)), na, nb - 1, _, _, by rw [Array.map_push], by lia, by lia, by lia, by lia, by lia, j2⟩
  case p2 =>
   clear la lb lx ly ls j sm
   rintro ⟨c, c'⟩ st2 (⟨R, hc1, hR, sm⟩ | ⟨sm, O, na, nb, a, b, hcc, la, lb, lx, ly, ls, j⟩)
   ·dsimp only at hc1
    subst hc1
    exact wpS_pure ⟨R, rfl, hR, sm⟩
   cases hcc
   dsimp only
   refine wpS_bind (wpS_lift (wpAny_rule ⟨rfl, ?_⟩))
   have hst : ∃ aI, aI = x + 1 + 1 := ⟨_, rfl⟩
   obtain ⟨aI, hst⟩ := hst
   rw [<- hst] at ls
   refine wpS_bind (wpS_mono (wpS_forRange (I := fun y c st2 => Same κ st st2 /\ ∃ O na nb m a b, c = (none, na, nb, O.map (kas_item it), m, a, b) /\ 1 <= na /\ 1 < nb /\ na < X.size /\ nb <= Y.size /\ na + nb + aI <= X.size + Y.size /\ JH le (X.toList ++ Y.toList) X Y O na nb)
    (Q := fun c st2 => (∃ R, c.1 = some (R.map (kas_item it)) /\ mK le (X.toList ++ Y.toList) R /\ Same κ st st2) \/ (Same κ st st2 /\ ∃ O na nb m a b, c = (none, na, nb, O.map (kas_item it), m, a, b) /\ 1 <= na /\ 1 < nb /\ na < X.size /\ nb <= Y.size /\ na + nb + aI <= X.size + Y.size /\ JH le (X.toList ++ Y.toList) X Y O na nb)) ?s3 ?f3 ?i3) ?p3)
   case i3 => exact ⟨sm, O, na, nb, _, _, _, rfl, la, lb, lx, ly, ls, j⟩
   case f3 => exact fun c st2 h => .inr h
   case p3 =>
    clear la lb lx ly ls j sm
    rintro ⟨c, c'⟩ st2 (⟨R, hc1, hR, sm⟩ | ⟨sm, O, na, nb, m, a, b, hcc, la, lb, lx, ly, ls, j⟩)
    ·dsimp only at hc1
     subst hc1
     exact wpS_pure ⟨R, rfl, hR, sm⟩
    cases hcc
    dsimp only
    refine wpS_bind (wpS_modify (wpS_pure ?_))
    exact ⟨sm.g _, O, na, nb, _, rfl, la, lb, lx, ly, by lia, j⟩
   case s3 =>
    clear la lb lx ly ls j sm
    rintro y c st2 _ hy0 ⟨sm, O, na, nb, m, a, b, rfl, la, lb, lx, ly, ls, j⟩
    dsimp only
    by_cases hm : m > 1
    ·rw [NF hm]
     refine wpS_bind (wpS_modify ?_)
     replace sm := sm.g (m - 1)
     refine wpS_bind (aJ (by lia) ?_)
     refine wpS_bind (c6 o hc sm.1 hx (hy (nb - 1) (by lia)) (by lia) (by lia) (fun i k h1 h2 => sx _ _ (by lia) (by lia)) fun k k1 k2 k3 => ?_)
     dsimp only
     simp only [Nat.zero_add] at k2 k3
     by_cases k0 : na - k > 0
     ·rw [NF k0]
      replace j := j.blk (m := k) (by lia) (by lia) fun i l h1 h2 h3 => o.tr _ _ _ (sy l (nb - 1) (by lia) (by lia)) (k3 i h1 h2)
      have eO : O.map (kas_item it) ++ ((X.map (kas_item it)).extract k na).reverse = (O ++ (X.extract k na).reverse).map (kas_item it) := by simp [N0]
      rw [eO]
      by_cases e1 : k = 0
      ·rw [NF e1]
       refine wpS_pure (.inl ⟨X.extract 0 k ++ Y.extract 0 nb ++ (O ++ (X.extract k na).reverse).reverse, ?_, j.done2 e1 (by lia), sm⟩)
       simp [N0]
      rw [NG e1]
      have la2 : 1 <= k := by lia
      have lx2 : k < X.size := by lia
      have ls2 : k + nb + aI <= X.size + Y.size := by lia
      have ky : ∀ i, i < k -> le (at' X i) (at' Y (nb - 1)) := k2
      clear k2 k3 eO e1
      generalize O ++ (X.extract k na).reverse = O at j ⊢
      generalize na - k = kk at k0 ⊢
      clear k0 k1 la lx ls
      have la := la2
      have lx := lx2
      have ls := ls2
      clear la2 lx2 ls2
      obtain ⟨na, hna⟩ : ∃ na, na = k := ⟨k, rfl⟩
      subst hna
      refine wpS_bind (aJ (by lia) ?_)
      have j2 : JH le (X.toList ++ Y.toList) X Y (O.push (at' Y (nb - 1))) na (nb - 1) := (j.sy.one (by lia) (by lia) fun i h1 => ky i h1).sy
      by_cases e3 : nb - 1 = 1
      ·rw [NF e3]
       refine wpS_pure (.inl ⟨Y.extract 0 (nb - 1) ++ X.extract 0 na ++ (O.push (at' Y (nb - 1))).reverse, ?_, j2.first e3 (by lia) (by lia) hf, sm⟩)
       simp [N0]
      ·rw [NG e3]
       refine wpS_bind (aJ (by lia) ?_)
       refine wpS_bind (c6 o hc sm.1 hy (hx (na - 1) (by lia)) (by lia) (by lia) (fun i k h1 h2 => sy _ _ (by lia) (by lia)) fun k k1 k2 k3 => ?_)
       dsimp only
       simp only [Nat.zero_add] at k2 k3
       have j3 : JH le (X.toList ++ Y.toList) X Y (O.push (at' Y (nb - 1)) ++ (Y.extract k (nb - 1)).reverse) na k := (j2.sy.blk (by lia) (by lia) fun i l h1 h2 h3 => o.tr _ _ _ (sx l (na - 1) (by lia) (by lia)) (k3 i h1 h2)).sy
       by_cases k0 : nb - 1 - k > 0
       ·rw [NF k0]
        by_cases e4 : k = 1
        ·rw [NF e4]
         refine wpS_pure (.inl ⟨Y.extract 0 k ++ X.extract 0 na ++ (O.push (at' Y (nb - 1)) ++ (Y.extract k (nb - 1)).reverse).reverse, ?_, j3.first e4 (by lia) (by lia) hf, sm⟩)
         simp [N0]
        rw [NG e4]
        by_cases e5 : k = 0
        ·rw [NF e5]
         refine wpS_pure (.inl ⟨X.extract 0 na ++ Y.extract 0 k ++ (O.push (at' Y (nb - 1)) ++ (Y.extract k (nb - 1)).reverse).reverse, ?_, j3.done1 e5 (by lia), sm⟩)
         simp [N0]
        rw [NG e5]
        refine wpS_bind (aJ (by lia) ?_)
        have j4 := j3.one (by lia) (by lia) fun i h1 => k2 i h1
        have eO : ((O.map (kas_item it)).push (kas_item it (at' Y (nb - 1))) ++ ((Y.map (kas_item it)).extract k (nb - 1)).reverse).push (kas_item it (at' X (na - 1))) = ((O.push (at' Y (nb - 1)) ++ (Y.extract k (nb - 1)).reverse).push (at' X (na - 1))).map (kas_item it) := by simp [N0]
        by_cases e6 : na - 1 = 0
        ·rw [NF e6]
         refine wpS_pure (.inl ⟨X.extract 0 (na - 1) ++ Y.extract 0 k ++ ((O.push (at' Y (nb - 1)) ++ (Y.extract k (nb - 1)).reverse).push (at' X (na - 1))).reverse, ?_, j4.done2 e6 (by lia), sm⟩)
         simp [N0]
        ·rw [NG e6]
         have fin : ∀ m c d, ∃ O' na' nb' m' c' d', ((none, na - 1, k, ((O.map (kas_item it)).push (kas_item it (at' Y (nb - 1))) ++ ((Y.map (kas_item it)).extract k (nb - 1)).reverse).push (kas_item it (at' X (na - 1))), m, c, d) : Option (Array Keyed) × Nat × Nat × Array Keyed × Nat × Nat × Nat) = (none, na', nb', O'.map (kas_item it), m', c', d') /\ 1 <= na' /\ 1 < nb' /\ na' < X.size /\ nb' <= Y.size /\ na' + nb' + aI <= X.size + Y.size /\ JH le (X.toList ++ Y.toList) X Y O' na' nb' := fun m c d => ⟨_, _, _, m, c, d, by rw [eO], by lia, by lia, by lia, by lia, by lia, j4⟩
         refine cn ?_ ?_
         ·exact wpS_pure (.inr ⟨sm, fin _ _ _⟩)
         ·exact wpS_pure ⟨sm, fin _ _ _⟩
       ·rw [NG k0]
        have k00 : k = nb - 1 := by lia
        subst k00
        refine wpS_bind (aJ (by lia) ?_)
        have j4 := j2.one (by lia) (by lia) fun i h1 => k2 i h1
        have eO : ((O.map (kas_item it)).push (kas_item it (at' Y (nb - 1)))).push (kas_item it (at' X (na - 1))) = ((O.push (at' Y (nb - 1))).push (at' X (na - 1))).map (kas_item it) := by simp
        by_cases e6 : na - 1 = 0
        ·rw [NF e6]
         refine wpS_pure (.inl ⟨X.extract 0 (na - 1) ++ Y.extract 0 (nb - 1) ++ ((O.push (at' Y (nb - 1))).push (at' X (na - 1))).reverse, ?_, j4.done2 e6 (by lia), sm⟩)
         simp [N0]
        ·rw [NG e6]
         have fin : ∀ m c d, ∃ O' na' nb' m' c' d', ((none, na - 1, nb - 1, ((O.map (kas_item it)).push (kas_item it (at' Y (nb - 1)))).push (kas_item it (at' X (na - 1))), m, c, d) : Option (Array Keyed) × Nat × Nat × Array Keyed × Nat × Nat × Nat) = (none, na', nb', O'.map (kas_item it), m', c', d') /\ 1 <= na' /\ 1 < nb' /\ na' < X.size /\ nb' <= Y.size /\ na' + nb' + aI <= X.size + Y.size /\ JH le (X.toList ++ Y.toList) X Y O' na' nb' := fun m c d => ⟨_, _, _, m, c, d, by rw [eO], by lia, by lia, by lia, by lia, by lia, j4⟩
         refine cn ?_ ?_
         ·exact wpS_pure (.inr ⟨sm, fin _ _ _⟩)
         ·exact wpS_pure ⟨sm, fin _ _ _⟩
     ·rw [NG k0]
      have k00 : na = k := by lia
      subst k00
      have ky : ∀ i, i < na -> le (at' X i) (at' Y (nb - 1)) := k2
      refine wpS_bind (aJ (by lia) ?_)
      have j2 : JH le (X.toList ++ Y.toList) X Y (O.push (at' Y (nb - 1))) na (nb - 1) := (j.sy.one (by lia) (by lia) fun i h1 => ky i h1).sy
      by_cases e3 : nb - 1 = 1
      ·rw [NF e3]
       refine wpS_pure (.inl ⟨Y.extract 0 (nb - 1) ++ X.extract 0 na ++ (O.push (at' Y (nb - 1))).reverse, ?_, j2.first e3 (by lia) (by lia) hf, sm⟩)
       simp [N0]
      ·rw [NG e3]
       refine wpS_bind (aJ (by lia) ?_)
       refine wpS_bind (c6 o hc sm.1 hy (hx (na - 1) (by lia)) (by lia) (by lia) (fun i k h1 h2 => sy _ _ (by lia) (by lia)) fun k k1 k2 k3 => ?_)
       dsimp only
       simp only [Nat.zero_add] at k2 k3
       have j3 : JH le (X.toList ++ Y.toList) X Y (O.push (at' Y (nb - 1)) ++ (Y.extract k (nb - 1)).reverse) na k := (j2.sy.blk (by lia) (by lia) fun i l h1 h2 h3 => o.tr _ _ _ (sx l (na - 1) (by lia) (by lia)) (k3 i h1 h2)).sy
       by_cases k0 : nb - 1 - k > 0
       ·rw [NF k0]
        by_cases e4 : k = 1
        ·rw [NF e4]
         refine wpS_pure (.inl ⟨Y.extract 0 k ++ X.extract 0 na ++ (O.push (at' Y (nb - 1)) ++ (Y.extract k (nb - 1)).reverse).reverse, ?_, j3.first e4 (by lia) (by lia) hf, sm⟩)
         simp [N0]
        rw [NG e4]
        by_cases e5 : k = 0
        ·rw [NF e5]
         refine wpS_pure (.inl ⟨X.extract 0 na ++ Y.extract 0 k ++ (O.push (at' Y (nb - 1)) ++ (Y.extract k (nb - 1)).reverse).reverse, ?_, j3.done1 e5 (by lia), sm⟩)
         simp [N0]
        rw [NG e5]
        refine wpS_bind (aJ (by lia) ?_)
        have j4 := j3.one (by lia) (by lia) fun i h1 => k2 i h1
        have eO : ((O.map (kas_item it)).push (kas_item it (at' Y (nb - 1))) ++ ((Y.map (kas_item it)).extract k (nb - 1)).reverse).push (kas_item it (at' X (na - 1))) = ((O.push (at' Y (nb - 1)) ++ (Y.extract k (nb - 1)).reverse).push (at' X (na - 1))).map (kas_item it) := by simp [N0]
        by_cases e6 : na - 1 = 0
        ·rw [NF e6]
         refine wpS_pure (.inl ⟨X.extract 0 (na - 1) ++ Y.extract 0 k ++ ((O.push (at' Y (nb - 1)) ++ (Y.extract k (nb - 1)).reverse).push (at' X (na - 1))).reverse, ?_, j4.done2 e6 (by lia), sm⟩)
         simp [N0]
        ·rw [NG e6]
         have fin : ∀ m c d, ∃ O' na' nb' m' c' d', ((none, na - 1, k, ((O.map (kas_item it)).push (kas_item it (at' Y (nb - 1))) ++ ((Y.map (kas_item it)).extract k (nb - 1)).reverse).push (kas_item it (at' X (na - 1))), m, c, d) : Option (Array Keyed) × Nat × Nat × Array Keyed × Nat × Nat × Nat) = (none, na', nb', O'.map (kas_item it), m', c', d') /\ 1 <= na' /\ 1 < nb' /\ na' < X.size /\ nb' <= Y.size /\ na' + nb' + aI <= X.size + Y.size /\ JH le (X.toList ++ Y.toList) X Y O' na' nb' := fun m c d => ⟨_, _, _, m, c, d, by rw [eO], by lia, by lia, by lia, by lia, by lia, j4⟩
         refine cn ?_ ?_
         ·exact wpS_pure (.inr ⟨sm, fin _ _ _⟩)
         ·exact wpS_pure ⟨sm, fin _ _ _⟩
       ·rw [NG k0]
        have k00 : k = nb - 1 := by lia
        subst k00
        refine wpS_bind (aJ (by lia) ?_)
        have j4 := j2.one (by lia) (by lia) fun i h1 => k2 i h1
        have eO : ((O.map (kas_item it)).push (kas_item it (at' Y (nb - 1)))).push (kas_item it (at' X (na - 1))) = ((O.push (at' Y (nb - 1))).push (at' X (na - 1))).map (kas_item it) := by simp
        by_cases e6 : na - 1 = 0
        ·rw [NF e6]
         refine wpS_pure (.inl ⟨X.extract 0 (na - 1) ++ Y.extract 0 (nb - 1) ++ ((O.push (at' Y (nb - 1))).push (at' X (na - 1))).reverse, ?_, j4.done2 e6 (by lia), sm⟩)
         simp [N0]
        ·rw [NG e6]
         have fin : ∀ m c d, ∃ O' na' nb' m' c' d', ((none, na - 1, nb - 1, ((O.map (kas_item it)).push (kas_item it (at' Y (nb - 1)))).push (kas_item it (at' X (na - 1))), m, c, d) : Option (Array Keyed) × Nat × Nat × Array Keyed × Nat × Nat × Nat) = (none, na', nb', O'.map (kas_item it), m', c', d') /\ 1 <= na' /\ 1 < nb' /\ na' < X.size /\ nb' <= Y.size /\ na' + nb' + aI <= X.size + Y.size /\ JH le (X.toList ++ Y.toList) X Y O' na' nb' := fun m c d => ⟨_, _, _, m, c, d, by rw [eO], by lia, by lia, by lia, by lia, by lia, j4⟩
         refine cn ?_ ?_
         ·exact wpS_pure (.inr ⟨sm, fin _ _ _⟩)
         ·exact wpS_pure ⟨sm, fin _ _ _⟩
    ·rw [NG hm]
     refine wpS_bind (wpS_modify ?_)
     replace sm := sm.g (m)
     refine wpS_bind (aJ (by lia) ?_)
     refine wpS_bind (c6 o hc sm.1 hx (hy (nb - 1) (by lia)) (by lia) (by lia) (fun i k h1 h2 => sx _ _ (by lia) (by lia)) fun k k1 k2 k3 => ?_)
     dsimp only
     simp only [Nat.zero_add] at k2 k3
     by_cases k0 : na - k > 0
     ·rw [NF k0]
      replace j := j.blk (m := k) (by lia) (by lia) fun i l h1 h2 h3 => o.tr _ _ _ (sy l (nb - 1) (by lia) (by lia)) (k3 i h1 h2)
      have eO : O.map (kas_item it) ++ ((X.map (kas_item it)).extract k na).reverse = (O ++ (X.extract k na).reverse).map (kas_item it) := by simp [N0]
      rw [eO]
      by_cases e1 : k = 0
      ·rw [NF e1]
       refine wpS_pure (.inl ⟨X.extract 0 k ++ Y.extract 0 nb ++ (O ++ (X.extract k na).reverse).reverse, ?_, j.done2 e1 (by lia), sm⟩)
       simp [N0]
      rw [NG e1]
      have la2 : 1 <= k := by lia
      have lx2 : k < X.size := by lia
      have ls2 : k + nb + aI <= X.size + Y.size := by lia
      have ky : ∀ i, i < k -> le (at' X i) (at' Y (nb - 1)) := k2
      clear k2 k3 eO e1
      generalize O ++ (X.extract k na).reverse = O at j ⊢
      generalize na - k = kk at k0 ⊢
      clear k0 k1 la lx ls
      have la := la2
      have lx := lx2
      have ls := ls2
      clear la2 lx2 ls2
      obtain ⟨na, hna⟩ : ∃ na, na = k := ⟨k, rfl⟩
      subst hna
      refine wpS_bind (aJ (by lia) ?_)
      have j2 : JH le (X.toList ++ Y.toList) X Y (O.push (at' Y (nb - 1))) na (nb - 1) := (j.sy.one (by lia) (by lia) fun i h1 => ky i h1).sy
      by_cases e3 : nb - 1 = 1
      ·rw [NF e3]
       refine wpS_pure (.inl ⟨Y.extract 0 (nb - 1) ++ X.extract 0 na ++ (O.push (at' Y (nb - 1))).reverse, ?_, j2.first e3 (by lia) (by lia) hf, sm⟩)
       simp [N0]
      ·rw [NG e3]
       refine wpS_bind (aJ (by lia) ?_)
       refine wpS_bind (c6 o hc sm.1 hy (hx (na - 1) (by lia)) (by lia) (by lia) (fun i k h1 h2 => sy _ _ (by lia) (by lia)) fun k k1 k2 k3 => ?_)
       dsimp only
       simp only [Nat.zero_add] at k2 k3
       have j3 : JH le (X.toList ++ Y.toList) X Y (O.push (at' Y (nb - 1)) ++ (Y.extract k (nb - 1)).reverse) na k := (j2.sy.blk (by lia) (by lia) fun i l h1 h2 h3 => o.tr _ _ _ (sx l (na - 1) (by lia) (by lia)) (k3 i h1 h2)).sy
       by_cases k0 : nb - 1 - k > 0
       ·rw [NF k0]
        by_cases e4 : k = 1
        ·rw [NF e4]
         refine wpS_pure (.inl ⟨Y.extract 0 k ++ X.extract 0 na ++ (O.push (at' Y (nb - 1)) ++ (Y.extract k (nb - 1)).reverse).reverse, ?_, j3.first e4 (by lia) (by lia) hf, sm⟩)
         simp [N0]
        rw [NG e4]
        by_cases e5 : k = 0
        ·rw [NF e5]
         refine wpS_pure (.inl ⟨X.extract 0 na ++ Y.extract 0 k ++ (O.push (at' Y (nb - 1)) ++ (Y.extract k (nb - 1)).reverse).reverse, ?_, j3.done1 e5 (by lia), sm⟩)
         simp [N0]
        rw [NG e5]
        refine wpS_bind (aJ (by lia) ?_)
        have j4 := j3.one (by lia) (by lia) fun i h1 => k2 i h1
        have eO : ((O.map (kas_item it)).push (kas_item it (at' Y (nb - 1))) ++ ((Y.map (kas_item it)).extract k (nb - 1)).reverse).push (kas_item it (at' X (na - 1))) = ((O.push (at' Y (nb - 1)) ++ (Y.extract k (nb - 1)).reverse).push (at' X (na - 1))).map (kas_item it) := by simp [N0]
        by_cases e6 : na - 1 = 0
        ·rw [NF e6]
         refine wpS_pure (.inl ⟨X.extract 0 (na - 1) ++ Y.extract 0 k ++ ((O.push (at' Y (nb - 1)) ++ (Y.extract k (nb - 1)).reverse).push (at' X (na - 1))).reverse, ?_, j4.done2 e6 (by lia), sm⟩)
         simp [N0]
        ·rw [NG e6]
         have fin : ∀ m c d, ∃ O' na' nb' m' c' d', ((none, na - 1, k, ((O.map (kas_item it)).push (kas_item it (at' Y (nb - 1))) ++ ((Y.map (kas_item it)).extract k (nb - 1)).reverse).push (kas_item it (at' X (na - 1))), m, c, d) : Option (Array Keyed) × Nat × Nat × Array Keyed × Nat × Nat × Nat) = (none, na', nb', O'.map (kas_item it), m', c', d') /\ 1 <= na' /\ 1 < nb' /\ na' < X.size /\ nb' <= Y.size /\ na' + nb' + aI <= X.size + Y.size /\ JH le (X.toList ++ Y.toList) X Y O' na' nb' := fun m c d => ⟨_, _, _, m, c, d, by rw [eO], by lia, by lia, by lia, by lia, by lia, j4⟩
         refine cn ?_ ?_
         ·exact wpS_pure (.inr ⟨sm, fin _ _ _⟩)
         ·exact wpS_pure ⟨sm, fin _ _ _⟩
       ·rw [NG k0]
        have k00 : k = nb - 1 := by lia
        subst k00
        refine wpS_bind (aJ (by lia) ?_)
        have j4 := j2.one (by lia) (by lia) fun i h1 => k2 i h1
        have eO : ((O.map (kas_item it)).push (kas_item it (at' Y (nb - 1)))).push (kas_item it (at' X (na - 1))) = ((O.push (at' Y (nb - 1))).push (at' X (na - 1))).map (kas_item it) := by simp
        by_cases e6 : na - 1 = 0
        ·rw [NF e6]
         refine wpS_pure (.inl ⟨X.extract 0 (na - 1) ++ Y.extract 0 (nb - 1) ++ ((O.push (at' Y (nb - 1))).push (at' X (na - 1))).reverse, ?_, j4.done2 e6 (by lia), sm⟩)
         simp [N0]
        ·rw [NG e6]
         have fin : ∀ m c d, ∃ O' na' nb' m' c' d', ((none, na - 1, nb - 1, ((O.map (kas_item it)).push (kas_item it (at' Y (nb - 1)))).push (kas_item it (at' X (na - 1))), m, c, d) : Option (Array Keyed) × Nat × Nat × Array Keyed × Nat × Nat × Nat) = (none, na', nb', O'.map (kas_item it), m', c', d') /\ 1 <= na' /\ 1 < nb' /\ na' < X.size /\ nb' <= Y.size /\ na' + nb' + aI <= X.size + Y.size /\ JH le (X.toList ++ Y.toList) X Y O' na' nb' := fun m c d => ⟨_, _, _, m, c, d, by rw [eO], by lia, by lia, by lia, by lia, by lia, j4⟩
         refine cn ?_ ?_
         ·exact wpS_pure (.inr ⟨sm, fin _ _ _⟩)
         ·exact wpS_pure ⟨sm, fin _ _ _⟩
     ·rw [NG k0]
      have k00 : na = k := by lia
      subst k00
      have ky : ∀ i, i < na -> le (at' X i) (at' Y (nb - 1)) := k2
      refine wpS_bind (aJ (by lia) ?_)
      have j2 : JH le (X.toList ++ Y.toList) X Y (O.push (at' Y (nb - 1))) na (nb - 1) := (j.sy.one (by lia) (by lia) fun i h1 => ky i h1).sy
      by_cases e3 : nb - 1 = 1
      ·rw [NF e3]
       refine wpS_pure (.inl ⟨Y.extract 0 (nb - 1) ++ X.extract 0 na ++ (O.push (at' Y (nb - 1))).reverse, ?_, j2.first e3 (by lia) (by lia) hf, sm⟩)
       simp [N0]
      ·rw [NG e3]
       refine wpS_bind (aJ (by lia) ?_)
       refine wpS_bind (c6 o hc sm.1 hy (hx (na - 1) (by lia)) (by lia) (by lia) (fun i k h1 h2 => sy _ _ (by lia) (by lia)) fun k k1 k2 k3 => ?_)
       dsimp only
       simp only [Nat.zero_add] at k2 k3
       have j3 : JH le (X.toList ++ Y.toList) X Y (O.push (at' Y (nb - 1)) ++ (Y.extract k (nb - 1)).reverse) na k := (j2.sy.blk (by lia) (by lia) fun i l h1 h2 h3 => o.tr _ _ _ (sx l (na - 1) (by lia) (by lia)) (k3 i h1 h2)).sy
       by_cases k0 : nb - 1 - k > 0
       ·rw [NF k0]
        by_cases e4 : k = 1
        ·rw [NF e4]
         refine wpS_pure (.inl ⟨Y.extract 0 k ++ X.extract 0 na ++ (O.push (at' Y (nb - 1)) ++ (Y.extract k (nb - 1)).reverse).reverse, ?_, j3.first e4 (by lia) (by lia) hf, sm⟩)
         simp [N0]
        rw [NG e4]
        by_cases e5 : k = 0
        ·rw [NF e5]
         refine wpS_pure (.inl ⟨X.extract 0 na ++ Y.extract 0 k ++ (O.push (at' Y (nb - 1)) ++ (Y.extract k (nb - 1)).reverse).reverse, ?_, j3.done1 e5 (by lia), sm⟩)
         simp [N0]
        rw [NG e5]
        refine wpS_bind (aJ (by lia) ?_)
        have j4 := j3.one (by lia) (by lia) fun i h1 => k2 i h1
        have eO : ((O.map (kas_item it)).push (kas_item it (at' Y (nb - 1))) ++ ((Y.map (kas_item it)).extract k (nb - 1)).reverse).push (kas_item it (at' X (na - 1))) = ((O.push (at' Y (nb - 1)) ++ (Y.extract k (nb - 1)).reverse).push (at' X (na - 1))).map (kas_item it) := by simp [N0]
        by_cases e6 : na - 1 = 0
        ·rw [NF e6]
         refine wpS_pure (.inl ⟨X.extract 0 (na - 1) ++ Y.extract 0 k ++ ((O.push (at' Y (nb - 1)) ++ (Y.extract k (nb - 1)).reverse).push (at' X (na - 1))).reverse, ?_, j4.done2 e6 (by lia), sm⟩)
         simp [N0]
        ·rw [NG e6]
         have fin : ∀ m c d, ∃ O' na' nb' m' c' d', ((none, na - 1, k, ((O.map (kas_item it)).push (kas_item it (at' Y (nb - 1))) ++ ((Y.map (kas_item it)).extract k (nb - 1)).reverse).push (kas_item it (at' X (na - 1))), m, c, d) : Option (Array Keyed) × Nat × Nat × Array Keyed × Nat × Nat × Nat) = (none, na', nb', O'.map (kas_item it), m', c', d') /\ 1 <= na' /\ 1 < nb' /\ na' < X.size /\ nb' <= Y.size /\ na' + nb' + aI <= X.size + Y.size /\ JH le (X.toList ++ Y.toList) X Y O' na' nb' := fun m c d => ⟨_, _, _, m, c, d, by rw [eO], by lia, by lia, by lia, by lia, by lia, j4⟩
         refine cn ?_ ?_
         ·exact wpS_pure (.inr ⟨sm, fin _ _ _⟩)
         ·exact wpS_pure ⟨sm, fin _ _ _⟩
       ·rw [NG k0]
        have k00 : k = nb - 1 := by lia
        subst k00
        refine wpS_bind (aJ (by lia) ?_)
        have j4 := j2.one (by lia) (by lia) fun i h1 => k2 i h1
        have eO : ((O.map (kas_item it)).push (kas_item it (at' Y (nb - 1)))).push (kas_item it (at' X (na - 1))) = ((O.push (at' Y (nb - 1))).push (at' X (na - 1))).map (kas_item it) := by simp
        by_cases e6 : na - 1 = 0
        ·rw [NF e6]
         refine wpS_pure (.inl ⟨X.extract 0 (na - 1) ++ Y.extract 0 (nb - 1) ++ ((O.push (at' Y (nb - 1))).push (at' X (na - 1))).reverse, ?_, j4.done2 e6 (by lia), sm⟩)
         simp [N0]
        ·rw [NG e6]
         have fin : ∀ m c d, ∃ O' na' nb' m' c' d', ((none, na - 1, nb - 1, ((O.map (kas_item it)).push (kas_item it (at' Y (nb - 1)))).push (kas_item it (at' X (na - 1))), m, c, d) : Option (Array Keyed) × Nat × Nat × Array Keyed × Nat × Nat × Nat) = (none, na', nb', O'.map (kas_item it), m', c', d') /\ 1 <= na' /\ 1 < nb' /\ na' < X.size /\ nb' <= Y.size /\ na' + nb' + aI <= X.size + Y.size /\ JH le (X.toList ++ Y.toList) X Y O' na' nb' := fun m c d => ⟨_, _, _, m, c, d, by rw [eO], by lia, by lia, by lia, by lia, by lia, j4⟩
         refine cn ?_ ?_
         ·exact wpS_pure (.inr ⟨sm, fin _ _ _⟩)
         ·exact wpS_pure ⟨sm, fin _ _ _⟩
end
section
variable {α : Type}
theorem Gr (lo : Nat) : ∀ (R : List α) (p : Array α) (j : Nat), lo + j + R.length <= p.size -> ((R.zipIdx j).foldl (fun a x => a.setIfInBounds (lo + x.2) x.1) p).toList = p.toList.take (lo + j) ++ R ++ p.toList.drop (lo + j + R.length)
 | [], p, j, _ => by simp
 | r :: R, p, j, h => by
  have hl : lo + j < p.toList.length := by simp at h ⊢; lia
  rw [List.zipIdx_cons, List.foldl_cons, Gr lo R _ (j + 1) (by simp at h ⊢; lia)]
  have e1 : (p.setIfInBounds (lo + j) r).toList = p.toList.set (lo + j) r := by simp
  have e2 : (p.toList.set (lo + j) r).take (lo + (j + 1)) = p.toList.take (lo + j) ++ [r] := by
   rw [<- Nat.add_assoc, List.take_succ_eq_append_getElem (by simpa using hl), List.take_set_of_le (NK _)]
   simp
  have e3 : (p.toList.set (lo + j) r).drop (lo + (j + 1) + R.length) = p.toList.drop (lo + j + (r :: R).length) := by
   rw [List.drop_set_of_lt (by lia), NV]
   congr 1; lia
  rw [e1, e2, e3]
  simp
end
section
variable {prog : Program} {w : World} {A : Around} {E : Value -> Shared -> Prop} {s : Shared} {κ : SortKind} {it : Array Keyed} {n : Nat} {lt : Nat -> Nat -> Bool} {le : Nat -> Nat -> Prop}
def Stt (κ : SortKind) (it : Array Keyed) (st : SortSt) (p : Array Nat) (pend : Array (Nat × Nat × Nat)) : Prop := kindOf st = κ /\ arrOf st = p.map (kas_item it) /\ pendingOf st = pend /\ failedOf st = none
structure Srtd (le : Nat -> Nat -> Prop) (p p' : Array Nat) (lo hi : Nat) : Prop where
 perm : p'.Perm p
 out : ∀ k, k < lo \/ hi <= k -> at' p' k = at' p k
 asc : ∀ i j, lo <= i -> i <= j -> j < hi -> le (at' p' i) (at' p' j)
theorem Hw {σ : Type} {M : Model} {x : σ} {Q : PUnit -> σ -> Prop} {st : σ} (h : Q ⟨⟩ x) : wpS M A E s (set x : StateT σ Sem PUnit) Q st := by
 unfold wpS
 rw [StateT.run_set]
 exact NJ ⟨rfl, h⟩
theorem MA (l : List Nat) (k : Nat) : at' l.toArray k = (l[k]?).getD 0 := by simp [at']
theorem Kf (p : Array Nat) (k : Nat) : at' p k = (p.toList[k]?).getD 0 := by simp [at']
theorem CB {p : Array Nat} {R : List Nat} {lo : Nat} (h : lo + R.length <= p.size) (k : Nat) : at' (p.toList.take lo ++ R ++ p.toList.drop (lo + R.length)).toArray k = if lo <= k /\ k < lo + R.length then (R[k - lo]?).getD 0 else at' p k := by
 rw [MA, Kf]
 have hl : (p.toList.take lo).length = lo := by rw [List.length_take]; simp; lia
 by_cases h1 : k < lo
 ·rw [NG (by lia), N9, OK (by lia), List.getElem?_take, NF h1]
 ·by_cases h2 : k < lo + R.length
  ·rw [NF ⟨by lia, h2⟩, N9, OE (by lia), hl, OK (by lia)]
  ·rw [NG (by lia), OE (by rw [NO, hl]; lia), NO, hl, List.getElem?_drop]
   congr 2; lia
theorem E9 {p : Array Nat} {R : List Nat} {lo : Nat} (h : R.Perm (p.extract lo (lo + R.length)).toList) : (p.toList.take lo ++ R ++ p.toList.drop (lo + R.length)).toArray.Perm p := by
 rw [Array.perm_iff_toList_perm]
 show (p.toList.take lo ++ R ++ p.toList.drop (lo + R.length)).Perm p.toList
 refine ((h.append_left _).append_right _).trans ?_
 rw [<- nP (by lia), List.take_append_drop]
theorem GZ {p : Array Nat} {i j k : Nat} (h : i + k < j) : at' (p.extract i j) k = at' p (i + k) := by
 rw [Kf, Kf, Array.toList_extract, List.extract_eq_take_drop, List.getElem?_take, NF (by lia), List.getElem?_drop]
theorem AA {p : Array Nat} {i j : Nat} (h : j <= p.size) : (p.extract i j).size = j - i := by simp; lia
theorem EN (o : Ord lt le) (hc : xr prog w A s κ it n lt) {i sa na pw sb nb q : Nat} {p : Array Nat} {pend : Array (Nat × Nat × Nat)} {Q : Bool -> SortSt -> Prop} {st : SortSt} (S : Stt κ it st p pend) (h1 : pend[i]? = some (sa, na, pw)) (h2 : pend[i + 1]? = some (sb, nb, q))
  (hsb : sb = sa + na) (na1 : 1 <= na) (nb1 : 1 <= nb) (hz : sb + nb <= p.size) (hp : ∀ i, i < p.size -> at' p i < n) (sA : ∀ i j, i <= j -> j < na -> le (at' p (sa + i)) (at' p (sa + j))) (sB : ∀ i j, i <= j -> j < nb -> le (at' p (sb + i)) (at' p (sb + j)))
  (h : ∀ p' st', Stt κ it st' p' ((pend.setIfInBounds i (sa, na + nb, pw)).eraseIdxIfInBounds (i + 1)) -> Srtd le p p' sa (sa + (na + nb)) -> Q true st') : wpS (model prog w) A E s (mergeAt' i) Q st := by
 obtain ⟨S1, S2, S3, S4⟩ := S
 refine wpS_bind (wpS_get ?_)
 have S3' : (sortPriv% PySem.Builtin.SortState.pending) st = pend := S3
 have S2' : (sortPriv% PySem.Builtin.SortState.a) st = p.map (kas_item it) := S2
 rw [S3', h1, h2]
 refine wpS_bind (Hw ?_)
 rw [S2']
 generalize hst : (sortPriv% PySem.Builtin.SortState.mk) _ _ _ _ _ = st2
 have T : Stt κ it st2 p ((pend.setIfInBounds i (sa, na + nb, pw)).eraseIdxIfInBounds (i + 1)) := by subst hst; exact ⟨S1, rfl, rfl, S4⟩
 clear hst S1 S2 S3 S4 S2' S3' h1 h2
 generalize ((pend.setIfInBounds i (sa, na + nb, pw)).eraseIdxIfInBounds (i + 1)) = pend2 at T h
 have sA' : ∀ i j, sa <= i -> i <= j -> j < sb -> le (at' p i) (at' p j) := fun i j a1 a2 a3 => by
  have := sA (i - sa) (j - sa) (by lia) (by lia)
  rwa [show sa + (i - sa) = i by lia, show sa + (j - sa) = j by lia] at this
 have sB' : ∀ i j, sb <= i -> i <= j -> j < sb + nb -> le (at' p i) (at' p j) := fun i j a1 a2 a3 => by
  have := sB (i - sb) (j - sb) (by lia) (by lia)
  rwa [show sb + (i - sb) = i by lia, show sb + (j - sb) = j by lia] at this
 refine wpS_bind (aJ (by lia) ?_)
 refine wpS_bind (c6 o hc T.1 hp (hp sb (by lia)) (by lia) (by lia) sA fun k k1 k2 k3 => ?_)
 have k2' : ∀ i, sa <= i -> i < sa + k -> le (at' p i) (at' p sb) := fun i a1 a2 => by
  have := k2 (i - sa) (by lia)
  rwa [show sa + (i - sa) = i by lia] at this
 have k3' : ∀ i, sa + k <= i -> i < sb -> le (at' p sb) (at' p i) := fun i a1 a2 => by
  have := k3 (i - sa) (by lia) (by lia)
  rwa [show sa + (i - sa) = i by lia] at this
 clear k2 k3
 dsimp only
 simp only [beq_iff_eq]
 by_cases e1 : na - k = 0
 ·rw [NF e1]
  refine wpS_pure (h p st2 T ⟨.refl _, fun _ _ => rfl, fun i j a1 a2 a3 => ?_⟩)
  by_cases b1 : j < sb
  ·exact sA' i j a1 a2 b1
  ·by_cases b2 : sb <= i
   ·exact sB' i j b2 a2 (by lia)
   ·exact o.tr _ _ _ (k2' i a1 (by lia)) (sB' sb j (NK _) (by lia) (by lia))
 rw [NG e1]
 refine wpS_bind (aJ (by lia) ?_)
 have e2 : sa + k + (na - k) - 1 = sb - 1 := by lia
 rw [e2]
 refine wpS_bind (c6 o hc T.1 hp (hp (sb - 1) (by lia)) (by lia) (by lia) sB fun m m1 k2 k3 => ?_)
 have m2' : ∀ i, sb <= i -> i < sb + m -> le (at' p i) (at' p (sb - 1)) := fun i a1 a2 => by
  have := k2 (i - sb) (by lia)
  rwa [show sb + (i - sb) = i by lia] at this
 have m3' : ∀ i, sb + m <= i -> i < sb + nb -> le (at' p (sb - 1)) (at' p i) := fun i a1 a2 => by
  have := k3 (i - sb) (by lia) (by lia)
  rwa [show sb + (i - sb) = i by lia] at this
 clear k2 k3
 dsimp only
 by_cases e3 : m = 0
 ·rw [NF e3]
  subst e3
  refine wpS_pure (h p st2 T ⟨.refl _, fun _ _ => rfl, fun i j a1 a2 a3 => ?_⟩)
  by_cases b1 : j < sb
  ·exact sA' i j a1 a2 b1
  ·by_cases b2 : sb <= i
   ·exact sB' i j b2 a2 (by lia)
   ·exact o.tr _ _ _ (sA' i (sb - 1) a1 (by lia) (by lia)) (m3' j (by lia) (by lia))
 rw [NG e3]
 generalize hr : na - k = r
 have hr1 : na = k + r := by lia
 have hr0 : 0 < r := by lia
 clear hr e1 e2
 have zx : (p.extract (sa + k) sb).size = r := by rw [AA (by lia)]; lia
 have zy : (p.extract sb (sb + m)).size = m := by rw [AA (by lia)]; lia
 have ax : ∀ i, i < r -> at' (p.extract (sa + k) sb) i = at' p (sa + k + i) := fun i hi => GZ (by lia)
 have ay : ∀ i, i < m -> at' (p.extract sb (sb + m)) i = at' p (sb + i) := fun i hi => GZ (by lia)
 have exy : (p.extract (sa + k) sb).toList ++ (p.extract sb (sb + m)).toList = (p.extract (sa + k) (sb + m)).toList := by
  have a1 := nP (X := p) (i := sa + k) (j := sb) (by lia)
  have a2 := nP (X := p) (i := sb) (j := sb + m) (by lia)
  have a3 := nP (X := p) (i := sa + k) (j := sb + m) (by lia)
  rw [a1, a3, N9] at a2
  exact (List.append_cancel_left a2).symm
 have key : ∀ R : Array Nat, mK le ((p.extract (sa + k) sb).toList ++ (p.extract sb (sb + m)).toList) R -> R.toList.length = r + m /\ Srtd le p (p.toList.take (sa + k) ++ R.toList ++ p.toList.drop (sa + k + R.toList.length)).toArray sa (sa + (na + nb)) := fun R g => by
  have hlen : R.toList.length = r + m := by
   rw [g.2.length_eq, NO, Ox, Ox, zx, zy]
  refine ⟨hlen, ?_, fun i hi => ?_, fun i j a1 a2 a3 => ?_⟩
  ·refine E9 ?_
   rw [hlen, show sa + k + (r + m) = sb + m by lia, <- exy]
   exact g.2
  ·rw [CB (by lia), NG (by lia)]
  ·rw [CB (by lia), CB (by lia), hlen]
   have memR : ∀ i, i < r + m -> ∃ c, (R.toList[i]?).getD 0 = at' p c /\ ((sa + k <= c /\ c < sb) \/ (sb <= c /\ c < sb + m)) := fun i hi => by
    have hi' : i < R.toList.length := by lia
    have hm : R.toList[i] ∈ R.toList := List.getElem_mem hi'
    have e : (R.toList[i]?).getD 0 = R.toList[i] := by rw [OA hi']; rfl
    rw [e]
    rcases NM.mp (g.2.mem_iff.mp hm) with hm | hm
    ·obtain ⟨c, c1, c2, c3, c4⟩ := vk hm
     exact ⟨c, c4.symm, .inl ⟨c1, c2⟩⟩
    ·obtain ⟨c, c1, c2, c3, c4⟩ := vk hm
     exact ⟨c, c4.symm, .inr ⟨c1, c2⟩⟩
   by_cases b1 : sa + k <= i /\ i < sa + k + (r + m)
   ·rw [NF b1]
    by_cases b2 : sa + k <= j /\ j < sa + k + (r + m)
    ·rw [NF b2]
     by_cases b3 : i = j
     ·subst b3; exact o.rf _
     ·have := OQ.mp g.1 (i - (sa + k)) (j - (sa + k)) (by lia) (by lia) (by lia)
      rw [OA (by lia), OA (by lia)]
      exact this
    ·rw [NG b2]
     obtain ⟨c, c1, c2⟩ := memR (i - (sa + k)) (by lia)
     rw [c1]
     rcases c2 with c2 | c2
     ·exact o.tr _ _ _ (sA' c (sb - 1) (by lia) (by lia) (by lia)) (m3' j (by lia) (by lia))
     ·exact sB' c j (by lia) (by lia) (by lia)
   ·rw [NG b1]
    by_cases b2 : sa + k <= j /\ j < sa + k + (r + m)
    ·rw [NF b2]
     obtain ⟨c, c1, c2⟩ := memR (j - (sa + k)) (by lia)
     rw [c1]
     rcases c2 with c2 | c2
     ·exact sA' i c (by lia) (by lia) (by lia)
     ·exact o.tr _ _ _ (k2' i (by lia) (by lia)) (sB' sb c (NK _) (by lia) (by lia))
    ·rw [NG b2]
     by_cases b3 : j < sb
     ·exact sA' i j a1 a2 b3
     ·by_cases b4 : sb <= i
      ·exact sB' i j b4 a2 (by lia)
      ·exact o.tr _ _ _ (k2' i a1 (by lia)) (sB' sb j (NK _) (by lia) (by lia))
 have fin : ∀ (R : Array Nat) (st3 : SortSt), Same κ st2 st3 -> mK le ((p.extract (sa + k) sb).toList ++ (p.extract sb (sb + m)).toList) R ->
   Q (failedOf st3).isNone (setArr st3 ((R.map (kas_item it)).toList.zipIdx.foldl (fun a x => a.setIfInBounds (sa + k + x.2) x.1) (arrOf st3))) := fun R st3 sm g => by
  obtain ⟨hlen, S⟩ := key R g
  have ea : arrOf st3 = p.map (kas_item it) := sm.2.1.trans T.2.1
  have ef : failedOf st3 = none := sm.2.2.2.trans T.2.2.2
  rw [ef]
  refine h _ _ ⟨sm.1, ?_, sm.2.2.1.trans T.2.2.1, ef⟩ S
  show (R.map (kas_item it)).toList.zipIdx.foldl (fun a x => a.setIfInBounds (sa + k + x.2) x.1) (arrOf st3) = _
  rw [ea]
  apply Array.toList_inj.mp
  rw [Gr (sa + k) _ _ 0 (by simp at hlen ⊢; lia)]
  simp
 have cx : (p.map (kas_item it)).extract (sa + k) sb = (p.extract (sa + k) sb).map (kas_item it) := by simp
 have cy : (p.map (kas_item it)).extract sb (sb + m) = (p.extract sb (sb + m)).map (kas_item it) := by simp
 rw [cx, cy]
 have hx : ∀ i, i < (p.extract (sa + k) sb).size -> at' (p.extract (sa + k) sb) i < n := fun i hi => by rw [ax i (by lia)]; exact hp _ (by lia)
 have hy : ∀ i, i < (p.extract sb (sb + m)).size -> at' (p.extract sb (sb + m)) i < n := fun i hi => by rw [ay i (by lia)]; exact hp _ (by lia)
 have sx : ∀ i j, i <= j -> j < (p.extract (sa + k) sb).size -> le (at' (p.extract (sa + k) sb) i) (at' (p.extract (sa + k) sb) j) := fun i j a1 a2 => by rw [ax i (by lia), ax j (by lia)]; exact sA' _ _ (by lia) (by lia) (by lia)
 have sy : ∀ i j, i <= j -> j < (p.extract sb (sb + m)).size -> le (at' (p.extract sb (sb + m)) i) (at' (p.extract sb (sb + m)) j) := fun i j a1 a2 => by rw [ay i (by lia), ay j (by lia)]; exact sB' _ _ (by lia) (by lia) (by lia)
 have hf : ∀ i, i < (p.extract (sa + k) sb).size -> le (at' (p.extract sb (sb + m)) 0) (at' (p.extract (sa + k) sb) i) := fun i a1 => by rw [ay 0 (by lia), ax i (by lia)]; exact k3' _ (by lia) (by lia)
 have hl : ∀ i, i < (p.extract sb (sb + m)).size -> le (at' (p.extract sb (sb + m)) i) (at' (p.extract (sa + k) sb) ((p.extract (sa + k) sb).size - 1)) := fun i a1 => by
  rw [zx, ay i (by lia), ax _ (by lia), show sa + k + (r - 1) = sb - 1 by lia]
  exact m2' _ (by lia) (by lia)
 by_cases e4 : r <= m
 ·rw [NF e4]
  refine wpS_bind (Eh o hc T.1 hx hy (by lia) (by lia) sx sy hf hl fun R st3 sm g => ?_)
  exact wpS_bind (wpS_modify (wpS_bind (wpS_get (wpS_pure (fin R st3 sm g)))))
 ·rw [NG e4]
  refine wpS_bind (EV o hc T.1 hx hy (by lia) (by lia) sx sy hf hl fun R st3 sm g => ?_)
  exact wpS_bind (wpS_modify (wpS_bind (wpS_get (wpS_pure (fin R st3 sm g)))))
end
section
variable {le : Nat -> Nat -> Prop} {lt : Nat -> Nat -> Bool} {p p' p2 : Array Nat} {a b c : Nat}
def Up (le : Nat -> Nat -> Prop) (p : Array Nat) (a b : Nat) : Prop := ∀ i j, a <= i -> i <= j -> j < b -> le (at' p i) (at' p j)
def Dn (le : Nat -> Nat -> Prop) (p : Array Nat) (a b : Nat) : Prop := ∀ i j, a <= i -> i <= j -> j < b -> le (at' p j) (at' p i)
def Es (le : Nat -> Nat -> Prop) (p : Array Nat) (a b : Nat) : Prop := ∀ k, a <= k -> k < b -> le (at' p k) (at' p (b - 1)) /\ le (at' p (b - 1)) (at' p k)
def Near (p p' : Array Nat) (lo hi : Nat) : Prop := p'.Perm p /\ ∀ k, k < lo \/ hi <= k -> at' p' k = at' p k
theorem Near.rf : Near p p a b := ⟨.refl _, fun _ _ => rfl⟩
theorem Near.tr (h : Near p p' a b) (h2 : Near p' p2 a b) : Near p p2 a b := ⟨h2.1.trans h.1, fun k hk => (h2.2 k hk).trans (h.2 k hk)⟩
theorem Near.wide {d e : Nat} (h : Near p p' a b) (h1 : d <= a) (h2 : b <= e) : Near p p' d e := ⟨h.1, fun k hk => h.2 k (by lia)⟩
theorem Near.size (h : Near p p' a b) : p'.size = p.size := h.1.size_eq
theorem gt (h : b <= p.size) : Near p (kas_rev p a b) a b := ⟨mirror_perm _ _ _ _, fun k hk => by rw [c0 h, NG (by lia)]⟩
theorem AV {d : Nat} (h : b < p.size) (hd : d <= b) : Near p (bubble p b d) (b - d) (b + 1) := ⟨bubble_perm _ _ _, fun k hk => by rw [tp h hd, NG (by lia), NG (by lia)]⟩
theorem Up.succ (o : Ord lt le) (h : Up le p a b) (hab : a < b) (hl : le (at' p (b - 1)) (at' p b)) : Up le p a (b + 1) := fun i j h1 h2 h3 => by
 by_cases e : j = b
 ·subst e
  by_cases e2 : i = j
  ·subst e2; exact o.rf _
  ·exact o.tr _ _ _ (h i (j - 1) h1 (by lia) (by lia)) hl
 ·exact h i j h1 h2 (by lia)
theorem Dn.succ (o : Ord lt le) (h : Dn le p a b) (hab : a < b) (hl : le (at' p b) (at' p (b - 1))) : Dn le p a (b + 1) := fun i j h1 h2 h3 => by
 by_cases e : j = b
 ·subst e
  by_cases e2 : i = j
  ·subst e2; exact o.rf _
  ·exact o.tr _ _ _ hl (h i (j - 1) h1 (by lia) (by lia))
 ·exact h i j h1 h2 (by lia)
theorem Kp (o : Ord lt le) : Up le p a (a + 1) := fun i j h1 h2 h3 => by
 have : i = j := by lia
 subst this; exact o.rf _
theorem Up.of (h : Up le p a b) (k : ∀ i, a <= i -> i < b -> at' p' i = at' p i) : Up le p' a b := fun i j h1 h2 h3 => by
 rw [k i h1 (by lia), k j (by lia) h3]; exact h i j h1 h2 h3
theorem Dn.rev (o : Ord lt le) (h : Dn le p a b) (hb : b <= p.size) (hc : a <= c) (he : Es le p c b) : Dn le (kas_rev p c b) a b := by
 have key : ∀ k, a <= k -> k < b -> ∃ k', a <= k' /\ k' < b /\ at' (kas_rev p c b) k = at' p k' /\ le (at' p k') (at' p k) /\ le (at' p k) (at' p k') := fun k hk0 hk => by
  rw [c0 hb]
  split
  ·rename_i h1
   refine ⟨c + b - 1 - k, by lia, by lia, rfl, ?_⟩
   obtain ⟨a1, a2⟩ := he k h1.1 hk
   obtain ⟨b1, b2⟩ := he (c + b - 1 - k) (by lia) (by lia)
   exact ⟨o.tr _ _ _ b1 a2, o.tr _ _ _ a1 b2⟩
  ·exact ⟨k, hk0, hk, rfl, o.rf _, o.rf _⟩
 intro i j h0 hij hj
 obtain ⟨i', _, _, e1, x1, x2⟩ := key i h0 (by lia)
 obtain ⟨j', _, _, e2, y1, y2⟩ := key j (by lia) hj
 rw [e1, e2]
 exact o.tr _ _ _ y1 (o.tr _ _ _ (h i j h0 hij hj) x2)
theorem Dn.turn (h : Dn le p a b) (hb : b <= p.size) : Up le (kas_rev p a b) a b := by
 intro i j h0 hij hj
 rw [c0 hb, c0 hb, NF ⟨h0, by lia⟩, NF ⟨by lia, hj⟩]
 exact h _ _ (by lia) (by lia) (by lia)
theorem tz (o : Ord lt le) (h : a + 1 = b) : Es le p a b := fun k h1 h2 => by
 have : k = b - 1 := by lia
 subst this
 exact ⟨o.rf _, o.rf _⟩
end
section
variable {prog : Program} {w : World} {A : Around} {E : Value -> Shared -> Prop} {s : Shared} {κ : SortKind} {it : Array Keyed} {n : Nat} {lt : Nat -> Nat -> Bool} {le : Nat -> Nat -> Prop} {p : Array Nat} {pend : Array (Nat × Nat × Nat)} {st : SortSt}
theorem ke (hc : xr prog w A s κ it n lt) (S : Stt κ it st p pend) (hp : ∀ i, i < p.size -> at' p i < n) {i j : Nat} {Q : Option Bool -> SortSt -> Prop} (hi : i < p.size) (hj : j < p.size) (h : Q (some (lt (at' p i) (at' p j))) st) : wpS (model prog w) A E s (ltAt' i j) Q st := by
 rw [ltAt'_eq]
 refine wpS_bind (wpS_get ?_)
 dsimp only
 rw [S.2.1]
 exact wpS_bind (aJ hi (wpS_bind (aJ hj (w_lt hc S.1 (hp _ hi) (hp _ hj) h))))
theorem rT (S : Stt κ it st p pend) {i j : Nat} {Q : Unit -> SortSt -> Prop} (h : ∀ st', Stt κ it st' (kas_rev p i j) pend -> Q () st') : wpS (model prog w) A E s (reverseSlice' i j) Q st := by
 rw [reverseSlice'_eq]
 refine wpS_modify (h _ ⟨S.1, ?_, S.2.2⟩)
 show mirror (arrOf st) i j ((j - i) / 2) = _
 rw [S.2.1]
 exact kas_swaps_map (kas_item it) (fun k => i + k) (fun k => j - 1 - k) _ p
theorem JS (S : Stt κ it st p pend) {i j : Nat} {Q : Unit -> SortSt -> Prop} (h : ∀ st', Stt κ it st' (bubble p i (i - j)) pend -> Q () st') : wpS (model prog w) A E s (moveDown' i j) Q st := by
 rw [moveDown'_eq]
 refine wpS_modify (h _ ⟨S.1, ?_, S.2.2⟩)
 show bubble (arrOf st) i (i - j) = _
 rw [S.2.1]
 exact kas_swaps_map (kas_item it) (fun k => i - k) (fun k => i - k - 1) _ p
theorem KU (o : Ord lt le) (hc : xr prog w A s κ it n lt) (S : Stt κ it st p pend) (hp : ∀ p' : Array Nat, p'.Perm p -> ∀ i, i < p'.size -> at' p' i < n) {lo m ok : Nat} {Q : Bool -> SortSt -> Prop} (hz : lo + m <= p.size) (hok : ok <= m) (ok1 : 1 <= ok) (hs : Up le p lo (lo + ok))
  (h : ∀ p' st', Stt κ it st' p' pend -> Near p p' lo (lo + m) -> Up le p' lo (lo + m) -> Q true st') : wpS (model prog w) A E s (binarySort' lo m ok) Q st := by
 refine wpS_bind (wpS_mono (wpS_forRange (I := fun k c st' => c = (none, ()) /\ ∃ p', Stt κ it st' p' pend /\ Near p p' lo (lo + m) /\ Up le p' lo (lo + min k m))
  (Q := fun c st' => c = (none, ()) /\ ∃ p', Stt κ it st' p' pend /\ Near p p' lo (lo + m) /\ Up le p' lo (lo + m)) ?step ?fin ?init) ?post)
 case post =>
  rintro c st' ⟨rfl, p', S', N, U⟩
  exact wpS_pure (h p' st' S' N U)
 case init => exact ⟨rfl, p, S, .rf, by rw [show min (max ok 1) m = ok by lia]; exact hs⟩
 case fin =>
  rintro c st' ⟨hc', p', S', N, U⟩
  exact ⟨hc', p', S', N, by rwa [show min (max (max ok 1) m) m = m by lia] at U⟩
 case step =>
  rintro k c st' hak hkn ⟨rfl, p', S', N, U⟩
  rw [show min k m = k by lia] at U
  have hsz := N.size
  have hk1 : 1 <= k := by lia
  have hkm : k < m := by lia
  clear hak hkn hok ok1 hs
  refine wpS_bind (wpS_mono (wpS_forRange (I := fun x c st'' => st'' = st' /\ ∃ l r, c = (none, l, r) /\ l <= r /\ r <= k /\ r - l <= k - x /\
    (∀ i, i < l -> le (at' p' (lo + i)) (at' p' (lo + k))) /\ (∀ i, r <= i -> i < k -> le (at' p' (lo + k)) (at' p' (lo + i))))
   (Q := fun c st'' => st'' = st' /\ ∃ l r, c = (none, l, r) /\ l <= k /\
    (∀ i, i < l -> le (at' p' (lo + i)) (at' p' (lo + k))) /\ (∀ i, l <= i -> i < k -> le (at' p' (lo + k)) (at' p' (lo + i)))) ?istep ?ifin ?iinit) ?ipost)
  case iinit => exact ⟨rfl, 0, k, rfl, by lia, by lia, by lia, fun i hi => by lia, fun i h1 h2 => by lia⟩
  case ifin =>
   rintro c st'' ⟨rfl, l, r, rfl, hlr, hrk, hm, hlo, hhi⟩
   have : l = r := by lia
   subst this
   exact ⟨rfl, l, l, rfl, hrk, hlo, hhi⟩
  case istep =>
   rintro x c st'' _ hxk ⟨rfl, l, r, rfl, hlr, hrk, hm, hlo, hhi⟩
   dsimp only
   by_cases hge : l ≥ r
   ·rw [NF hge]
    have : l = r := by lia
    subst this
    exact wpS_pure ⟨rfl, l, l, rfl, hrk, hlo, hhi⟩
   ·rw [NG hge]
    refine wpS_bind (ke hc S' (hp _ N.1) (by lia) (by lia) ?_)
    dsimp only
    cases cw : lt (at' p' (lo + k)) (at' p' (lo + (l + r) / 2)) with
    | true =>
     rw [NF rfl]
     exact wpS_pure ⟨rfl, l, (l + r) / 2, rfl, by lia, by lia, by lia, hlo, fun i h1 h2 => o.tr _ _ _ (o.yes _ _ cw) (U _ _ (by lia) (by lia) (by lia))⟩
    | false =>
     rw [NG (by decide)]
     exact wpS_pure ⟨rfl, (l + r) / 2 + 1, r, rfl, by lia, by lia, by lia, fun i h1 => o.tr _ _ _ (U _ _ (by lia) (by lia) (by lia)) (o.no _ _ cw), hhi⟩
  case ipost =>
   rintro c st'' ⟨rfl, l, r, rfl, hlk, hlo, hhi⟩
   dsimp only
   refine wpS_bind (JS S' fun st3 S3 => wpS_pure ⟨rfl, _, S3, N.tr ((AV (by lia) (by lia)).wide (by lia) (by lia)), ?_⟩)
   rw [show min (k + 1) m = k + 1 by lia, show lo + k - (lo + l) = k - l by lia]
   intro i j h1 h2 h3
   rw [tp (by lia) (by lia), tp (by lia) (by lia)]
   rw [show lo + k - (k - l) = lo + l by lia]
   by_cases i1 : i = lo + l
   ·rw [NF i1]
    by_cases j1 : j = lo + l
    ·rw [NF j1]; exact o.rf _
    ·rw [NG j1]
     rw [NF (by lia)]
     have := hhi (j - 1 - lo) (by lia) (by lia)
     rwa [show lo + (j - 1 - lo) = j - 1 by lia] at this
   ·rw [NG i1]
    by_cases j1 : j = lo + l
    ·rw [NF j1, NG (by lia)]
     have := hlo (i - lo) (by lia)
     rwa [show lo + (i - lo) = i by lia] at this
    ·rw [NG j1]
     by_cases i2 : lo + l < i /\ i <= lo + k
     ·rw [NF i2, NF (by lia)]
      exact U _ _ (by lia) (by lia) (by lia)
     ·rw [NG i2]
      by_cases j2 : lo + l < j /\ j <= lo + k
      ·rw [NF j2]
       exact U _ _ (by lia) (by lia) (by lia)
      ·rw [NG j2]
       exact U _ _ (by lia) (by lia) (by lia)
end
section
variable {prog : Program} {w : World} {A : Around} {E : Value -> Shared -> Prop} {s : Shared} {κ : SortKind} {it : Array Keyed} {n : Nat} {lt : Nat -> Nat -> Bool} {le : Nat -> Nat -> Prop} {p : Array Nat} {pend : Array (Nat × Nat × Nat)} {st : SortSt}
theorem Hx (o : Ord lt le) (hc : xr prog w A s κ it n lt) (S : Stt κ it st p pend) (hp : ∀ p' : Array Nat, p'.Perm p -> ∀ i, i < p'.size -> at' p' i < n) {lo nrem : Nat} {Q : Option Nat -> SortSt -> Prop} (h1 : 1 <= nrem) (hz : lo + nrem <= p.size)
  (h : ∀ m p' st', Stt κ it st' p' pend -> 1 <= m -> m <= nrem -> Near p p' lo (lo + m) -> Up le p' lo (lo + m) -> Q (some m) st') : wpS (model prog w) A E s (countRun' lo nrem) Q st := by
 refine wpS_bind (wpS_mono (wpS_forRange (I := fun x c st' => st' = st /\ c = (none, x) /\ x <= nrem /\ Up le p lo (lo + x))
  (Q := fun c st' => st' = st /\ ∃ m, c = (none, m) /\ 1 <= m /\ m <= nrem /\ Up le p lo (lo + m) /\ (m < nrem -> le (at' p (lo + m)) (at' p (lo + m - 1)))) ?s1 ?f1 ?i1) ?p1)
 case i1 => exact ⟨rfl, rfl, h1, Kp o⟩
 case f1 =>
  rintro c st' ⟨rfl, rfl, k1, k2⟩
  exact ⟨rfl, _, rfl, by lia, k1, k2, fun _ => by lia⟩
 case s1 =>
  rintro x c st' hx0 hx ⟨rfl, rfl, k1, k2⟩
  dsimp only
  refine wpS_bind (ke hc S (hp p (.refl _)) (by lia) (by lia) ?_)
  dsimp only
  cases cw : lt (at' p (lo + x)) (at' p (lo + x - 1)) with
  | true =>
   rw [NF rfl]
   exact wpS_pure ⟨rfl, x, rfl, hx0, k1, k2, fun _ => o.yes _ _ cw⟩
  | false =>
   rw [NG (by decide)]
   exact wpS_pure ⟨rfl, rfl, by lia, Up.succ (b := lo + x) o k2 (by lia) (o.no _ _ cw)⟩
 case p1 =>
  rintro c st' ⟨rfl, m, rfl, m1, m2, U, hd⟩
  dsimp only
  simp only [beq_iff_eq]
  by_cases e1 : m = nrem
  ·rw [NF e1]
   exact wpS_pure (h m p st' S m1 m2 .rf U)
  rw [NG e1]
  have e1' : m < nrem := by lia
  clear e1
  by_cases e2 : m > 1
  ·rw [NF e2]
   refine wpS_bind (ke hc S (hp p (.refl _)) (by lia) (by lia) ?_)
   dsimp only
   cases cw : lt (at' p lo) (at' p (lo + m - 1)) with
   | true =>
    rw [NF rfl]
    exact wpS_pure (h m p st' S m1 m2 .rf U)
   | false =>
    rw [NG (by decide)]
    have g0 := o.no _ _ cw
    refine wpS_bind (rT S fun stx Sx => ?_)
    have same : ∀ i j, lo <= i -> i < lo + m -> lo <= j -> j < lo + m -> le (at' p i) (at' p j) := fun i j a1 a2 a3 a4 => o.tr _ _ _ (U i (lo + m - 1) a1 (by lia) (by lia)) (o.tr _ _ _ g0 (U lo j (NK _) a3 a4))
    have d0 : Dn le (kas_rev p lo (lo + m)) lo (lo + m) := fun i j a1 a2 a3 => by
     rw [c0 (by lia), c0 (by lia), NF (by lia), NF (by lia)]
     exact same _ _ (by lia) (by lia) (by lia) (by lia)
    have Dx : Dn le (kas_rev p lo (lo + m)) lo (lo + (m + 1)) := Dn.succ (b := lo + m) o d0 (by lia) (by
     rw [c0 (by lia), c0 (by lia), NG (by lia), NF (by lia)]
     exact o.tr _ _ _ (hd (by lia)) (same _ _ (by lia) (by lia) (by lia) (by lia)))
    have Nx : Near p (kas_rev p lo (lo + m)) lo (lo + (m + 1)) := (gt (by lia)).wide (NK _) (by lia)
    generalize kas_rev p lo (lo + m) = px at Sx Dx Nx
    refine wpS_bind (wpS_lift (wpAny_rule ⟨rfl, ?_⟩))
    refine wpS_bind (wpS_mono (wpS_forRange (I := fun x c st' => ∃ q p', c = (none, x, q) /\ Stt κ it st' p' pend /\ Near p p' lo (lo + x) /\ x <= nrem /\ q + 1 <= x /\ Dn le p' lo (lo + x) /\ Es le p' (lo + x - (q + 1)) (lo + x))
     (Q := fun c st' => ∃ x q p', c = (none, x, q) /\ m + 1 <= x /\ Stt κ it st' p' pend /\ Near p p' lo (lo + x) /\ x <= nrem /\ q + 1 <= x /\ Dn le p' lo (lo + x) /\ Es le p' (lo + x - (q + 1)) (lo + x)) ?s2 ?f2 ?i2) ?p2)
    case i2 => exact ⟨0, px, rfl, Sx, Nx, by lia, by lia, Dx, tz o (by lia)⟩
    case f2 =>
     rintro c st' ⟨q, p', rfl, S', N', k1, k2, D', E'⟩
     exact ⟨_, q, p', rfl, by lia, S', N', k1, k2, D', E'⟩
    case s2 =>
     rintro x c st' hx0 hx ⟨q, p', rfl, S', N', k1, k2, D', E'⟩
     dsimp only
     have hs2 := N'.size
     refine wpS_bind (ke hc S' (hp _ N'.1) (by lia) (by lia) ?_)
     dsimp only
     cases cw : lt (at' p' (lo + x)) (at' p' (lo + x - 1)) with
     | true =>
      rw [NF rfl]
      have hl := o.yes _ _ cw
      by_cases q0 : q > 0
      ·rw [NF q0]
       refine wpS_bind (rT S' fun st4 S4 => wpS_pure ?_)
       have d1 := D'.rev o (by lia) (by lia) E'
       have b1 : at' (kas_rev p' (lo + x - (q + 1)) (lo + x)) (lo + x) = at' p' (lo + x) := by rw [c0 (by lia), NG (by lia)]
       have b2 : at' (kas_rev p' (lo + x - (q + 1)) (lo + x)) (lo + x - 1) = at' p' (lo + x - (q + 1)) := by
        rw [c0 (by lia), NF (by lia)]
        congr 1; lia
       exact ⟨0, _, rfl, S4, (N'.tr ((gt (by lia)).wide (by lia) (by lia))).wide (by lia) (by lia), by lia, by lia, Dn.succ (b := lo + x) o d1 (by lia) (by rw [b1, b2]; exact o.tr _ _ _ hl (E' _ (NK _) (by lia)).2), tz o (by lia)⟩
      ·rw [NG q0]
       exact wpS_pure ⟨0, p', rfl, S', N'.wide (by lia) (by lia), by lia, by lia, Dn.succ (b := lo + x) o D' (by lia) hl, tz o (by lia)⟩
     | false =>
      rw [NG (by decide)]
      have g1 := o.no _ _ cw
      refine wpS_bind (ke hc S' (hp _ N'.1) (by lia) (by lia) ?_)
      dsimp only
      cases cw2 : lt (at' p' (lo + x - 1)) (at' p' (lo + x)) with
      | true =>
       rw [NF rfl]
       exact wpS_pure ⟨x, q, p', rfl, hx0, S', N', k1, k2, D', E'⟩
      | false =>
       rw [NG (by decide)]
       have g2 := o.no _ _ cw2
       refine wpS_pure ⟨q + 1, p', rfl, S', N'.wide (by lia) (by lia), by lia, by lia, Dn.succ (b := lo + x) o D' (by lia) g2, fun k a1 a2 => ?_⟩
       rw [show lo + (x + 1) - 1 = lo + x by lia]
       by_cases hk : k = lo + x
       ·subst hk; exact ⟨o.rf _, o.rf _⟩
       ·obtain ⟨x1, x2⟩ := E' k (by lia) (by lia)
        exact ⟨o.tr _ _ _ x1 g1, o.tr _ _ _ g2 x2⟩
    case p2 =>
     rintro c st' ⟨x, q, p', rfl, x1, S', N', x2, x3, D', E'⟩
     dsimp only
     have hs2 := N'.size
     by_cases q0 : q > 0
     ·rw [NF q0]
      refine wpS_bind (rT S' fun stX SX => ?_)
      have DX := D'.rev o (by lia) (by lia) E'
      have NX := N'.tr ((gt (by lia)).wide (a := lo + x - (q + 1)) (b := lo + x) (d := lo) (e := lo + x) (by lia) (by lia))
      generalize kas_rev p' (lo + x - (q + 1)) (lo + x) = pX at SX DX NX
      refine wpS_bind (rT SX fun st4 S4 => ?_)
      have hs4 := NX.size
      have N4 := NX.tr (gt (a := lo) (b := lo + x) (by lia))
      have U4 := DX.turn (by lia)
      refine wpS_bind (wpS_mono (wpS_forRange (I := fun y c st' => st' = st4 /\ c = (none, y) /\ y <= nrem /\ Up le (kas_rev pX lo (lo + x)) lo (lo + y))
       (Q := fun c st' => st' = st4 /\ ∃ y, c = (none, y) /\ x <= y /\ y <= nrem /\ Up le (kas_rev pX lo (lo + x)) lo (lo + y)) ?s3 ?f3 ?i3) ?p3)
      case i3 => exact ⟨rfl, rfl, x2, U4⟩
      case f3 =>
       rintro c st' ⟨rfl, rfl, k1, k2⟩
       exact ⟨rfl, _, rfl, by lia, k1, k2⟩
      case s3 =>
       rintro y c st' hy0 hy ⟨rfl, rfl, k1, k2⟩
       dsimp only
       have hs5 := N4.size
       refine wpS_bind (ke hc S4 (hp _ N4.1) (by lia) (by lia) ?_)
       dsimp only
       cases cw : lt (at' (kas_rev pX lo (lo + x)) (lo + y)) (at' (kas_rev pX lo (lo + x)) (lo + y - 1)) with
       | true =>
        rw [NF rfl]
        exact wpS_pure ⟨rfl, y, rfl, hy0, k1, k2⟩
       | false =>
        rw [NG (by decide)]
        exact wpS_pure ⟨rfl, rfl, by lia, Up.succ (b := lo + y) o k2 (by lia) (o.no _ _ cw)⟩
      case p3 =>
       rintro c st' ⟨rfl, y, rfl, y1, y2, U⟩
       exact wpS_pure (h y _ st' S4 (by lia) y2 (N4.wide (NK _) (by lia)) U)
     ·rw [NG q0]
      have DX := D'
      have NX := N'
      have SX := S'
      generalize p' = pX at SX DX NX
      refine wpS_bind (rT SX fun st4 S4 => ?_)
      have hs4 := NX.size
      have N4 := NX.tr (gt (a := lo) (b := lo + x) (by lia))
      have U4 := DX.turn (by lia)
      refine wpS_bind (wpS_mono (wpS_forRange (I := fun y c st' => st' = st4 /\ c = (none, y) /\ y <= nrem /\ Up le (kas_rev pX lo (lo + x)) lo (lo + y))
       (Q := fun c st' => st' = st4 /\ ∃ y, c = (none, y) /\ x <= y /\ y <= nrem /\ Up le (kas_rev pX lo (lo + x)) lo (lo + y)) ?s3 ?f3 ?i3) ?p3)
      case i3 => exact ⟨rfl, rfl, x2, U4⟩
      case f3 =>
       rintro c st' ⟨rfl, rfl, k1, k2⟩
       exact ⟨rfl, _, rfl, by lia, k1, k2⟩
      case s3 =>
       rintro y c st' hy0 hy ⟨rfl, rfl, k1, k2⟩
       dsimp only
       have hs5 := N4.size
       refine wpS_bind (ke hc S4 (hp _ N4.1) (by lia) (by lia) ?_)
       dsimp only
       cases cw : lt (at' (kas_rev pX lo (lo + x)) (lo + y)) (at' (kas_rev pX lo (lo + x)) (lo + y - 1)) with
       | true =>
        rw [NF rfl]
        exact wpS_pure ⟨rfl, y, rfl, hy0, k1, k2⟩
       | false =>
        rw [NG (by decide)]
        exact wpS_pure ⟨rfl, rfl, by lia, Up.succ (b := lo + y) o k2 (by lia) (o.no _ _ cw)⟩
      case p3 =>
       rintro c st' ⟨rfl, y, rfl, y1, y2, U⟩
       exact wpS_pure (h y _ st' S4 (by lia) y2 (N4.wide (NK _) (by lia)) U)
  ·rw [NG e2]
   have m11 : m = 1 := by lia
   have Sx := S
   have Dx : Dn le p lo (lo + (m + 1)) := Dn.succ (b := lo + m) o (fun i j a1 a2 a3 => by
    have : i = j := by lia
    subst this; exact o.rf _) (by lia) (hd (by lia))
   have Nx : Near p p lo (lo + (m + 1)) := .rf
   obtain ⟨px, hpx⟩ : ∃ px, px = p := ⟨p, rfl⟩
   rw [<- hpx] at Sx Dx
   replace Nx : Near p px lo (lo + (m + 1)) := by rw [hpx]; exact .rf
   refine wpS_bind (wpS_lift (wpAny_rule ⟨rfl, ?_⟩))
   refine wpS_bind (wpS_mono (wpS_forRange (I := fun x c st' => ∃ q p', c = (none, x, q) /\ Stt κ it st' p' pend /\ Near p p' lo (lo + x) /\ x <= nrem /\ q + 1 <= x /\ Dn le p' lo (lo + x) /\ Es le p' (lo + x - (q + 1)) (lo + x))
    (Q := fun c st' => ∃ x q p', c = (none, x, q) /\ m + 1 <= x /\ Stt κ it st' p' pend /\ Near p p' lo (lo + x) /\ x <= nrem /\ q + 1 <= x /\ Dn le p' lo (lo + x) /\ Es le p' (lo + x - (q + 1)) (lo + x)) ?s2 ?f2 ?i2) ?p2)
   case i2 => exact ⟨0, px, rfl, Sx, Nx, by lia, by lia, Dx, tz o (by lia)⟩
   case f2 =>
    rintro c st' ⟨q, p', rfl, S', N', k1, k2, D', E'⟩
    exact ⟨_, q, p', rfl, by lia, S', N', k1, k2, D', E'⟩
   case s2 =>
    rintro x c st' hx0 hx ⟨q, p', rfl, S', N', k1, k2, D', E'⟩
    dsimp only
    have hs2 := N'.size
    refine wpS_bind (ke hc S' (hp _ N'.1) (by lia) (by lia) ?_)
    dsimp only
    cases cw : lt (at' p' (lo + x)) (at' p' (lo + x - 1)) with
    | true =>
     rw [NF rfl]
     have hl := o.yes _ _ cw
     by_cases q0 : q > 0
     ·rw [NF q0]
      refine wpS_bind (rT S' fun st4 S4 => wpS_pure ?_)
      have d1 := D'.rev o (by lia) (by lia) E'
      have b1 : at' (kas_rev p' (lo + x - (q + 1)) (lo + x)) (lo + x) = at' p' (lo + x) := by rw [c0 (by lia), NG (by lia)]
      have b2 : at' (kas_rev p' (lo + x - (q + 1)) (lo + x)) (lo + x - 1) = at' p' (lo + x - (q + 1)) := by
       rw [c0 (by lia), NF (by lia)]
       congr 1; lia
      exact ⟨0, _, rfl, S4, (N'.tr ((gt (by lia)).wide (by lia) (by lia))).wide (by lia) (by lia), by lia, by lia, Dn.succ (b := lo + x) o d1 (by lia) (by rw [b1, b2]; exact o.tr _ _ _ hl (E' _ (NK _) (by lia)).2), tz o (by lia)⟩
     ·rw [NG q0]
      exact wpS_pure ⟨0, p', rfl, S', N'.wide (by lia) (by lia), by lia, by lia, Dn.succ (b := lo + x) o D' (by lia) hl, tz o (by lia)⟩
    | false =>
     rw [NG (by decide)]
     have g1 := o.no _ _ cw
     refine wpS_bind (ke hc S' (hp _ N'.1) (by lia) (by lia) ?_)
     dsimp only
     cases cw2 : lt (at' p' (lo + x - 1)) (at' p' (lo + x)) with
     | true =>
      rw [NF rfl]
      exact wpS_pure ⟨x, q, p', rfl, hx0, S', N', k1, k2, D', E'⟩
     | false =>
      rw [NG (by decide)]
      have g2 := o.no _ _ cw2
      refine wpS_pure ⟨q + 1, p', rfl, S', N'.wide (by lia) (by lia), by lia, by lia, Dn.succ (b := lo + x) o D' (by lia) g2, fun k a1 a2 => ?_⟩
      rw [show lo + (x + 1) - 1 = lo + x by lia]
      by_cases hk : k = lo + x
      ·subst hk; exact ⟨o.rf _, o.rf _⟩
      ·obtain ⟨x1, x2⟩ := E' k (by lia) (by lia)
       exact ⟨o.tr _ _ _ x1 g1, o.tr _ _ _ g2 x2⟩
   case p2 =>
    rintro c st' ⟨x, q, p', rfl, x1, S', N', x2, x3, D', E'⟩
    dsimp only
    have hs2 := N'.size
    by_cases q0 : q > 0
    ·rw [NF q0]
     refine wpS_bind (rT S' fun stX SX => ?_)
     have DX := D'.rev o (by lia) (by lia) E'
     have NX := N'.tr ((gt (by lia)).wide (a := lo + x - (q + 1)) (b := lo + x) (d := lo) (e := lo + x) (by lia) (by lia))
     generalize kas_rev p' (lo + x - (q + 1)) (lo + x) = pX at SX DX NX
     refine wpS_bind (rT SX fun st4 S4 => ?_)
     have hs4 := NX.size
     have N4 := NX.tr (gt (a := lo) (b := lo + x) (by lia))
     have U4 := DX.turn (by lia)
     refine wpS_bind (wpS_mono (wpS_forRange (I := fun y c st' => st' = st4 /\ c = (none, y) /\ y <= nrem /\ Up le (kas_rev pX lo (lo + x)) lo (lo + y))
      (Q := fun c st' => st' = st4 /\ ∃ y, c = (none, y) /\ x <= y /\ y <= nrem /\ Up le (kas_rev pX lo (lo + x)) lo (lo + y)) ?s3 ?f3 ?i3) ?p3)
     case i3 => exact ⟨rfl, rfl, x2, U4⟩
     case f3 =>
      rintro c st' ⟨rfl, rfl, k1, k2⟩
      exact ⟨rfl, _, rfl, by lia, k1, k2⟩
     case s3 =>
      rintro y c st' hy0 hy ⟨rfl, rfl, k1, k2⟩
      dsimp only
      have hs5 := N4.size
      refine wpS_bind (ke hc S4 (hp _ N4.1) (by lia) (by lia) ?_)
      dsimp only
      cases cw : lt (at' (kas_rev pX lo (lo + x)) (lo + y)) (at' (kas_rev pX lo (lo + x)) (lo + y - 1)) with
      | true =>
       rw [NF rfl]
       exact wpS_pure ⟨rfl, y, rfl, hy0, k1, k2⟩
      | false =>
       rw [NG (by decide)]
       exact wpS_pure ⟨rfl, rfl, by lia, Up.succ (b := lo + y) o k2 (by lia) (o.no _ _ cw)⟩
     case p3 =>
      rintro c st' ⟨rfl, y, rfl, y1, y2, U⟩
      exact wpS_pure (h y _ st' S4 (by lia) y2 (N4.wide (NK _) (by lia)) U)
    ·rw [NG q0]
     have DX := D'
     have NX := N'
     have SX := S'
     generalize p' = pX at SX DX NX
     refine wpS_bind (rT SX fun st4 S4 => ?_)
     have hs4 := NX.size
     have N4 := NX.tr (gt (a := lo) (b := lo + x) (by lia))
     have U4 := DX.turn (by lia)
     refine wpS_bind (wpS_mono (wpS_forRange (I := fun y c st' => st' = st4 /\ c = (none, y) /\ y <= nrem /\ Up le (kas_rev pX lo (lo + x)) lo (lo + y))
      (Q := fun c st' => st' = st4 /\ ∃ y, c = (none, y) /\ x <= y /\ y <= nrem /\ Up le (kas_rev pX lo (lo + x)) lo (lo + y)) ?s3 ?f3 ?i3) ?p3)
     case i3 => exact ⟨rfl, rfl, x2, U4⟩
     case f3 =>
      rintro c st' ⟨rfl, rfl, k1, k2⟩
      exact ⟨rfl, _, rfl, by lia, k1, k2⟩
     case s3 =>
      rintro y c st' hy0 hy ⟨rfl, rfl, k1, k2⟩
      dsimp only
      have hs5 := N4.size
      refine wpS_bind (ke hc S4 (hp _ N4.1) (by lia) (by lia) ?_)
      dsimp only
      cases cw : lt (at' (kas_rev pX lo (lo + x)) (lo + y)) (at' (kas_rev pX lo (lo + x)) (lo + y - 1)) with
      | true =>
       rw [NF rfl]
       exact wpS_pure ⟨rfl, y, rfl, hy0, k1, k2⟩
      | false =>
       rw [NG (by decide)]
       exact wpS_pure ⟨rfl, rfl, by lia, Up.succ (b := lo + y) o k2 (by lia) (o.no _ _ cw)⟩
     case p3 =>
      rintro c st' ⟨rfl, y, rfl, y1, y2, U⟩
      exact wpS_pure (h y _ st' S4 (by lia) y2 (N4.wide (NK _) (by lia)) U)
end
section
variable {le : Nat -> Nat -> Prop} {p p' : Array Nat} {a b c : Nat}
noncomputable def Rn (le : Nat -> Nat -> Prop) (p : Array Nat) : Nat -> List (Nat × Nat × Nat) -> Nat -> Prop
 | a, [], b => a = b
 | a, e :: es, b => e.1 = a /\ 1 <= e.2.1 /\ Up le p a (a + e.2.1) /\ Rn le p (a + e.2.1) es b
theorem Rn.len_le : ∀ {l : List (Nat × Nat × Nat)} {a : Nat}, Rn le p a l b -> a + l.length <= b
 | [], a, h => by have : a = b := h; simp [this]
 | e :: es, a, h => by
  have := Rn.len_le h.2.2.2
  have := h.2.1
  simp; lia
theorem Rn.of : ∀ {l : List (Nat × Nat × Nat)} {a : Nat}, Rn le p a l b -> (∀ k, a <= k -> k < b -> at' p' k = at' p k) -> Rn le p' a l b
 | [], a, h, _ => h
 | e :: es, a, h, k => ⟨h.1, h.2.1, h.2.2.1.of fun i h1 h2 => k i h1 (by have := Rn.len_le h.2.2.2; lia), Rn.of h.2.2.2 fun i h1 h2 => k i (by lia) h2⟩
theorem Rn.app : ∀ {l l' : List (Nat × Nat × Nat)} {a : Nat}, Rn le p a (l ++ l') b -> ∃ c, Rn le p a l c /\ Rn le p c l' b
 | [], l', a, h => ⟨a, rfl, h⟩
 | e :: es, l', a, h => by
  obtain ⟨c, h1, h2⟩ := Rn.app h.2.2.2
  exact ⟨c, ⟨h.1, h.2.1, h.2.2.1, h1⟩, h2⟩
theorem Rn.put : ∀ {l l' : List (Nat × Nat × Nat)} {a : Nat}, Rn le p a l c -> Rn le p c l' b -> Rn le p a (l ++ l') b
 | [], l', a, h, h2 => by have : a = c := h; subst this; exact h2
 | e :: es, l', a, h, h2 => ⟨h.1, h.2.1, h.2.2.1, Rn.put h.2.2.2 h2⟩
theorem Rn.same : ∀ {l l' : List (Nat × Nat × Nat)} {a : Nat}, (l.map fun e => (e.1, e.2.1)) = (l'.map fun e => (e.1, e.2.1)) -> Rn le p a l b -> Rn le p a l' b
 | [], [], a, _, h => h
 | [], _ :: _, a, h, _ => by simp at h
 | _ :: _, [], a, h, _ => by simp at h
 | e :: es, e' :: es', a, h, k => by
  simp only [N1, List.cons.injEq, Prod.mk.injEq] at h
  obtain ⟨⟨h1, h2⟩, h3⟩ := h
  obtain ⟨k1, k2, k3, k4⟩ := k
  rw [h1] at k1
  rw [h2] at k2 k3 k4
  exact ⟨k1, k2, k3, Rn.same h3 k4⟩
theorem Ik {c : Prop} [Decidable c] {k m : Nat} (h : k + 1 < m) : (if c then k - 1 else k) + 1 < m := by split <;> lia
theorem Kb {α : Type} (x z : α) (r : List α) : ∀ pre : List α, (pre ++ x :: r).set pre.length z = pre ++ z :: r
 | [] => rfl
 | y :: pre => by simp
theorem Fa {α : Type} (z y : α) (r : List α) : ∀ pre : List α, (pre ++ z :: y :: r).eraseIdx (pre.length + 1) = pre ++ z :: r
 | [] => rfl
 | x :: pre => by
  have := Fa z y r pre
  simp only [List.cons_append, NV, List.eraseIdx_cons_succ, this]
theorem Kd {α : Type} {l : List α} {i : Nat} (h : i + 1 < l.length) : ∃ pre x y post, l = pre ++ x :: y :: post /\ pre.length = i := by
 refine ⟨l.take i, l[i], l[i + 1], l.drop (i + 2), ?_, by rw [List.length_take]; lia⟩
 rw [<- List.drop_eq_getElem_cons h, <- List.drop_eq_getElem_cons (by lia), List.take_append_drop]
end
section
variable {prog : Program} {w : World} {A : Around} {E : Value -> Shared -> Prop} {s : Shared} {κ : SortKind} {it : Array Keyed} {n : Nat} {lt : Nat -> Nat -> Bool} {le : Nat -> Nat -> Prop} {p : Array Nat} {pend : Array (Nat × Nat × Nat)} {st : SortSt}
theorem tK (o : Ord lt le) (hc : xr prog w A s κ it n lt) (S : Stt κ it st p pend) (hp : ∀ i, i < p.size -> at' p i < n) {i b : Nat} {Q : Bool -> SortSt -> Prop} (hi : i + 1 < pend.size) (R : Rn le p 0 pend.toList b) (hb : b <= p.size)
  (h : ∀ p' pend' st', Stt κ it st' p' pend' -> Near p p' 0 b -> Rn le p' 0 pend'.toList b -> pend'.size + 1 = pend.size -> Q true st') : wpS (model prog w) A E s (mergeAt' i) Q st := by
 obtain ⟨pre, ⟨sa, na, pw⟩, ⟨sb, nb, q⟩, post, e, hl⟩ := Kd (l := pend.toList) (i := i) (by simpa using hi)
 rw [e] at R
 obtain ⟨c, R1, R2⟩ := R.app
 obtain ⟨r1, r2, r3, r4, r5, r6, r7⟩ := R2
 dsimp only at r1 r2 r3 r4 r5 r6 r7
 subst r1
 have hle := r7.len_le
 have g1 : pend[i]? = some (sa, na, pw) := by rw [<- Oz, e, OE (by lia)]; simp [hl]
 have g2 : pend[i + 1]? = some (sb, nb, q) := by rw [<- Oz, e, OE (by lia)]; simp [hl]
 refine EN o hc S g1 g2 r4 r2 r5 (by lia) hp (fun i j a1 a2 => r3 _ _ (by lia) (by lia) (by lia)) (fun i j a1 a2 => r6 _ _ (by lia) (by lia) (by lia)) fun p' st' S' so => ?_
 have en : ((pend.setIfInBounds i (sa, na + nb, pw)).eraseIdxIfInBounds (i + 1)).toList = pre ++ (sa, na + nb, pw) :: post := by
  have h2 : i + 1 < (pend.setIfInBounds i (sa, na + nb, pw)).size := by simpa using hi
  rw [Array.eraseIdxIfInBounds, dif_pos h2, Array.toList_eraseIdx, Array.toList_setIfInBounds, e, <- hl]
  rw [Kb, Fa]
 have hle1 := R1.len_le
 refine h p' _ st' S' ⟨so.perm, fun k hk => so.out k (by lia)⟩ ?_ ?_
 ·rw [en]
  refine Rn.put (R1.of fun k _ h2 => so.out k (by lia)) ⟨rfl, by dsimp only; lia, fun i j a1 a2 a3 => so.asc i j a1 a2 a3, ?_⟩
  dsimp only
  rw [show sa + (na + nb) = sa + na + nb by lia]
  exact r7.of fun k h1 h2 => so.out k (by lia)
 ·have e4 := congrArg List.length en
  have e3 := congrArg List.length e
  rw [Ox] at e4 e3
  rw [e4, e3]
  simp only [NO, NV]
  lia
theorem Jz (o : Ord lt le) (hc : xr prog w A s κ it n lt) (S : Stt κ it st p #[]) (hp : ∀ p' : Array Nat, p'.Perm p -> ∀ i, i < p'.size -> at' p' i < n) {Q : Unit -> SortSt -> Prop}
  (h : ∀ p' pend' st', Stt κ it st' p' pend' -> p'.Perm p -> Up le p' 0 p.size -> Q () st') : wpS (model prog w) A E s sortRuns' Q st := by
 rw [sortRuns'_eq]
 refine wpS_bind (wpS_get ?_)
 dsimp only
 rw [S.2.1, Array.size_map]
 generalize minRun' p.size p.size 0 = minrun
 refine wpS_bind (wpS_mono (wpS_forRange (I := fun x c st' => ∃ lo p' pend', c = (none, lo) /\ Stt κ it st' p' pend' /\ p'.Perm p /\ Rn le p' 0 pend'.toList lo /\ lo <= p.size /\ x <= lo)
  (Q := fun c st' => ∃ p' pend', c.1 = none /\ Stt κ it st' p' pend' /\ p'.Perm p /\ Rn le p' 0 pend'.toList p.size) ?s1 ?f1 ?i1) ?p1)
 case i1 => exact ⟨0, p, #[], rfl, S, .refl _, rfl, by lia, by lia⟩
 case f1 =>
  rintro c st' ⟨lo, p', pend', rfl, S', P', R', l1, l2⟩
  have : lo = p.size := by lia
  subst this
  exact ⟨p', pend', rfl, S', P', R'⟩
 case s1 =>
  rintro x c st' _ hx ⟨lo, p', pend', rfl, S', P', R', l1, l2⟩
  dsimp only
  by_cases e1 : lo ≥ p.size
  ·rw [NF e1]
   have : lo = p.size := by lia
   subst this
   exact wpS_pure ⟨p', pend', rfl, S', P', R'⟩
  rw [NG e1]
  have hs' := P'.size_eq
  refine wpS_bind (Hx o hc S' (fun q hq => hp q (hq.trans P')) (by lia) (by lia) fun m p2 st2 S2 m1 m2 N2 U2 => ?_)
  have P2 := N2.1.trans P'
  have hs2 := P2.size_eq
  have R2 : Rn le p2 0 pend'.toList lo := R'.of fun k _ h2 => N2.2 k (.inl h2)
  dsimp only
  by_cases e2 : m < minrun
  ·rw [NF e2]
   refine wpS_bind (wpS_lift (wpAny_rule ⟨rfl, ?_⟩))
   refine wpS_bind (KU o hc S2 (fun q hq => hp q (hq.trans P2)) (m := min (p.size - lo) minrun) (by lia) (by lia) m1 U2 fun p3 st3 S3 N3 U3 => ?_)
   replace R2 : Rn le p3 0 pend'.toList lo := R2.of fun k _ h2 => N3.2 k (.inl h2)
   replace P2 := N3.1.trans P2
   replace S2 := S3
   replace U2 := U3
   have hnn : 1 <= min (p.size - lo) minrun := by lia
   have hnn2 : lo + min (p.size - lo) minrun <= p.size := by lia
   clear S3 U3 N3 N2 hs2
   generalize min (p.size - lo) minrun = nn at *
   rw [NG (by decide)]
   clear st2 p2
   generalize p3 = p2 at *
   generalize st3 = st2 at *
   refine wpS_bind (wpS_get ?_)
   rw [S2.2.2.1]
   cases hbk : pend'.back? with
   | none =>
    dsimp only
    refine wpS_bind (wpS_modify (wpS_pure ⟨lo + nn, p2, pend'.push (lo, nn, 0), rfl, ⟨S2.1, S2.2.1, ?_, S2.2.2.2⟩, P2, ?_, by lia, by lia⟩))
    ·show (pendingOf st2).push _ = _
     rw [S2.2.2.1]
    ·rw [Array.toList_push]
     exact R2.put ⟨rfl, hnn, U2, rfl⟩
   | some e =>
    obtain ⟨s1, n1, z1⟩ := e
    dsimp only
    generalize power' _ _ _ _ = pw
    refine wpS_bind (wpS_mono (wpS_forRange (I := fun y c st3 => c = (none, ()) /\ ∃ p3 pend3, Stt κ it st3 p3 pend3 /\ p3.Perm p /\ Rn le p3 0 pend3.toList lo /\ Up le p3 lo (lo + nn))
     (Q := fun c st3 => c = (none, ()) /\ ∃ p3 pend3, Stt κ it st3 p3 pend3 /\ p3.Perm p /\ Rn le p3 0 pend3.toList lo /\ Up le p3 lo (lo + nn)) ?s2 ?f2 ?i2) ?p2)
    case i2 => exact ⟨rfl, p2, pend', S2, P2, R2, U2⟩
    case f2 => exact fun c st3 h => h
    case s2 =>
     rintro y c st3 _ hy ⟨rfl, p3, pend3, S3, P3, R3, U3⟩
     refine wpS_bind (wpS_get ?_)
     rw [S3.2.2.1]
     by_cases c1 : pend3.size > 1
     ·rw [NF c1]
      cases hg : pend3[pend3.size - 2]? with
      | none => exact wpS_pure ⟨rfl, p3, pend3, S3, P3, R3, U3⟩
      | some e =>
       obtain ⟨z2, z3, older⟩ := e
       dsimp only
       by_cases c2 : older <= pw
       ·rw [NF c2]
        exact wpS_pure ⟨rfl, p3, pend3, S3, P3, R3, U3⟩
       ·rw [NG c2]
        have hs3 := P3.size_eq
        refine wpS_bind (tK o hc S3 (hp _ P3) (i := pend3.size - 2) (by lia) R3 (by lia) fun p4 pend4 st4 S4 N4 R4 _ => ?_)
        exact wpS_pure ⟨rfl, p4, pend4, S4, N4.1.trans P3, R4, U3.of fun i h1 h2 => N4.2 i (.inr h1)⟩
     ·rw [NG c1]
      exact wpS_pure ⟨rfl, p3, pend3, S3, P3, R3, U3⟩
    case p2 =>
     rintro c st3 ⟨rfl, p3, pend3, S3, P3, R3, U3⟩
     dsimp only
     refine wpS_bind (wpS_modify (wpS_bind (wpS_modify (wpS_pure ⟨lo + nn, p3, (pend3.modify (pend3.size - 1) fun e => (e.1, e.2.1, pw)).push (lo, nn, 0), rfl, ⟨S3.1, S3.2.1, ?_, S3.2.2.2⟩, P3, ?_, by lia, by lia⟩))))
     ·show ((pendingOf st3).modify ((pendingOf st3).size - 1) _).push _ = _
      rw [S3.2.2.1]
     ·rw [Array.toList_push]
      refine Rn.put (R3.same ?_) ⟨rfl, hnn, U3, rfl⟩
      apply List.ext_getElem?
      intro k
      rw [Oh, Oh, Oz, Oz, Array.getElem?_modify]
      split
      ·cases pend3[k]? <;> rfl
      ·rfl
  ·rw [NG e2]
   have hnn := m1
   have hnn2 : lo + m <= p.size := by lia
   refine wpS_bind (wpS_get ?_)
   rw [S2.2.2.1]
   cases hbk : pend'.back? with
   | none =>
    dsimp only
    refine wpS_bind (wpS_modify (wpS_pure ⟨lo + m, p2, pend'.push (lo, m, 0), rfl, ⟨S2.1, S2.2.1, ?_, S2.2.2.2⟩, P2, ?_, by lia, by lia⟩))
    ·show (pendingOf st2).push _ = _
     rw [S2.2.2.1]
    ·rw [Array.toList_push]
     exact R2.put ⟨rfl, hnn, U2, rfl⟩
   | some e =>
    obtain ⟨s1, n1, z1⟩ := e
    dsimp only
    generalize power' _ _ _ _ = pw
    refine wpS_bind (wpS_mono (wpS_forRange (I := fun y c st3 => c = (none, ()) /\ ∃ p3 pend3, Stt κ it st3 p3 pend3 /\ p3.Perm p /\ Rn le p3 0 pend3.toList lo /\ Up le p3 lo (lo + m))
     (Q := fun c st3 => c = (none, ()) /\ ∃ p3 pend3, Stt κ it st3 p3 pend3 /\ p3.Perm p /\ Rn le p3 0 pend3.toList lo /\ Up le p3 lo (lo + m)) ?s2 ?f2 ?i2) ?p2)
    case i2 => exact ⟨rfl, p2, pend', S2, P2, R2, U2⟩
    case f2 => exact fun c st3 h => h
    case s2 =>
     rintro y c st3 _ hy ⟨rfl, p3, pend3, S3, P3, R3, U3⟩
     refine wpS_bind (wpS_get ?_)
     rw [S3.2.2.1]
     by_cases c1 : pend3.size > 1
     ·rw [NF c1]
      cases hg : pend3[pend3.size - 2]? with
      | none => exact wpS_pure ⟨rfl, p3, pend3, S3, P3, R3, U3⟩
      | some e =>
       obtain ⟨z2, z3, older⟩ := e
       dsimp only
       by_cases c2 : older <= pw
       ·rw [NF c2]
        exact wpS_pure ⟨rfl, p3, pend3, S3, P3, R3, U3⟩
       ·rw [NG c2]
        have hs3 := P3.size_eq
        refine wpS_bind (tK o hc S3 (hp _ P3) (i := pend3.size - 2) (by lia) R3 (by lia) fun p4 pend4 st4 S4 N4 R4 _ => ?_)
        exact wpS_pure ⟨rfl, p4, pend4, S4, N4.1.trans P3, R4, U3.of fun i h1 h2 => N4.2 i (.inr h1)⟩
     ·rw [NG c1]
      exact wpS_pure ⟨rfl, p3, pend3, S3, P3, R3, U3⟩
    case p2 =>
     rintro c st3 ⟨rfl, p3, pend3, S3, P3, R3, U3⟩
     dsimp only
     refine wpS_bind (wpS_modify (wpS_bind (wpS_modify (wpS_pure ⟨lo + m, p3, (pend3.modify (pend3.size - 1) fun e => (e.1, e.2.1, pw)).push (lo, m, 0), rfl, ⟨S3.1, S3.2.1, ?_, S3.2.2.2⟩, P3, ?_, by lia, by lia⟩))))
     ·show ((pendingOf st3).modify ((pendingOf st3).size - 1) _).push _ = _
      rw [S3.2.2.1]
     ·rw [Array.toList_push]
      refine Rn.put (R3.same ?_) ⟨rfl, hnn, U3, rfl⟩
      apply List.ext_getElem?
      intro k
      rw [Oh, Oh, Oz, Oz, Array.getElem?_modify]
      split
      ·cases pend3[k]? <;> rfl
      ·rfl
 case p1 =>
  rintro ⟨c, c'⟩ st' ⟨p', pend', hc1, S', P', R'⟩
  dsimp only at hc1
  subst hc1
  dsimp only
  refine wpS_bind (wpS_mono (wpS_forRange (I := fun x c st' => ∃ p' pend', c = (none, ()) /\ Stt κ it st' p' pend' /\ p'.Perm p /\ Rn le p' 0 pend'.toList p.size /\ pend'.size + x <= p.size)
   (Q := fun c st' => ∃ p' pend', c = (none, ()) /\ Stt κ it st' p' pend' /\ p'.Perm p /\ Rn le p' 0 pend'.toList p.size /\ pend'.size <= 1) ?s5 ?f5 ?i5) ?p5)
  case i5 => exact ⟨p', pend', rfl, S', P', R', by have := R'.len_le; rw [Ox] at this; lia⟩
  case f5 =>
   rintro c st' ⟨p', pend', rfl, S', P', R', hl⟩
   exact ⟨p', pend', rfl, S', P', R', by lia⟩
  case s5 =>
   rintro x c st' _ hx ⟨p', pend', rfl, S', P', R', hl⟩
   refine wpS_bind (wpS_get ?_)
   rw [S'.2.2.1]
   by_cases e1 : pend'.size <= 1
   ·rw [NF e1]
    exact wpS_pure ⟨p', pend', rfl, S', P', R', e1⟩
   rw [NG e1]
   have hs' := P'.size_eq
   refine wpS_bind (tK o hc S' (hp _ P') ?_ R' (by lia) fun p4 pend4 st4 S4 N4 R4 h4 => ?_)
   ·exact Ik (by lia)
   ·exact wpS_pure ⟨p4, pend4, rfl, S4, N4.1.trans P', R4, by lia⟩
  case p5 =>
   rintro c st' ⟨p', pend', rfl, S', P', R', hl⟩
   refine wpS_pure (h p' pend' st' S' P' ?_)
   cases hq : pend'.toList with
   | nil =>
    rw [hq] at R'
    have : 0 = p.size := R'
    intro i j _ _ h3
    lia
   | cons e es =>
    cases es with
    | nil =>
     rw [hq] at R'
     obtain ⟨r1, r2, r3, r4⟩ := R'
     have r4' : 0 + e.2.1 = p.size := r4
     rw [<- r4']
     exact r3
    | cons e2 es =>
     have := congrArg List.length hq
     rw [Ox] at this
     simp at this
     lia
end
section
variable {prog : Program} {w : World} {A : Around} {E : Value -> Shared -> Prop} {s : Shared}
structure Known (prog : Program) (w : World) (s : Shared) (vs : List Value) (κ : SortKind) (lt : Nat -> Nat -> Bool) : Prop where
 kind : ∀ (A : Around) (E : Value -> Shared -> Prop) (h' : Heap) (Q : SortKind -> Shared -> Prop), (∀ b o, s.heap.get? b = some o -> h'.get? b = some o) -> 2 <= vs.length -> Q κ { s with heap := h' } -> wpAny (model prog w) A (keyKind' vs.toArray) Q E { s with heap := h' }
 ask : ∀ (A : Around) (h' : Heap) (i j : Nat) (C : Bool -> Shared -> Prop), (∀ b o, s.heap.get? b = some o -> h'.get? b = some o) -> i < vs.length -> j < vs.length -> C (lt i j) { s with heap := h' } -> kas_ask prog w A κ vs i j C { s with heap := h' }
theorem Known.on {vs : List Value} {κ : SortKind} {lt : Nat -> Nat -> Bool} {h : Heap} (k : Known prog w s vs κ lt) (hk : ∀ b o, s.heap.get? b = some o -> h.get? b = some o) : Known prog w { s with heap := h } vs κ lt :=
 ⟨fun A E h' Q h2 => k.kind A E h' Q fun b o e => h2 b o (hk b o e), fun A h' i j C h2 => k.ask A h' i j C fun b o e => h2 b o (hk b o e)⟩
noncomputable def mF (vs : List Value) (p : Array Nat) : Array Value := (p.toList.map fun i => vs.getD i Value.none).toArray
theorem BX {vs : List Value} {p : Array Nat} (h : p.size = vs.length) : (mF vs p).size = vs.length := by
 unfold mF; simp [h]
theorem Av {vs : List Value} : mF vs (List.range vs.length).toArray = vs.toArray := by
 unfold mF
 congr 1
 apply List.ext_getElem
 ·simp
 ·intro i h1 h2
  simp at h1
  simp [h1]
theorem Ie {le : Nat -> Nat -> Prop} (rf : ∀ a, le a a) {n : Nat} (h : n < 2) (p : Array Nat) : Asc le p n := fun i j hij hj => by
 have e : i = j := by lia
 subst e; exact rf _
theorem GR {a : Addr} {vs : List Value} {n : Nat} {κ : SortKind} {lt : Nat -> Nat -> Bool} {le : Nat -> Nat -> Prop} {P : PySem.Fin -> Shared -> Prop} (o : Ord lt le) (ho : s.heap.get? a = some (seqObj "list" vs.toArray n)) (hN : vs.length <= sizeLine)
  (hk : ∀ h', (∀ b o, b ≠ a -> s.heap.get? b = some o -> h'.get? b = some o) -> Known prog w { s with heap := h' } vs κ lt)
  (h : ∀ p : Array Nat, p.Perm (List.range vs.length).toArray -> Asc le p vs.length -> P (.done (.ret .none)) { s with heap := sortedHeap s.heap a vs (mF vs p) }) : wpAny (model prog w) A (Builtin.«list.sort» ⟨[.ref a], []⟩) P E s := by
 have ha : a < s.heap.objs.size := NU ho
 obtain ⟨e1, ho1⟩ : ∃ e1, (s.heap.update a (Obj.mapSeq fun _ => #[])).get? a = some (seqObj "list" #[] e1) := ⟨_, get?_update_seq ho fun _ => #[]⟩
 have ne1 : a ≠ ((s.heap.update a (Obj.mapSeq fun _ => #[])).push (seqObj "tuple" vs.toArray 0)).objs.size := by rw [size_push', Heap.size_update]; exact N5 (Nat.lt_succ_of_lt ha)
 have ne2 : a ≠ (s.heap.update a (Obj.mapSeq fun _ => #[])).objs.size := by rw [Heap.size_update]; exact N5 ha
 have ho6 : (((s.heap.update a (Obj.mapSeq fun _ => #[])).push (seqObj "tuple" vs.toArray 0)).push (seqObj "list" #[] 0)).get? a = some (seqObj "list" #[] e1) := by rw [Heap.get?_push_ne _ _ _ ne1, Heap.get?_push_ne _ _ _ ne2, ho1]
 have keep : ∀ b q, b ≠ a -> s.heap.get? b = some q -> (((s.heap.update a (Obj.mapSeq fun _ => #[])).push (seqObj "tuple" vs.toArray 0)).push (seqObj "list" #[] 0)).get? b = some q := fun b q hb hq =>
  NW _ (NW _ ((Heap.get?_update_ne _ _ _ _ hb).trans hq))
 have K := hk _ keep
 rw [list_sort_plain]; refine NH (listItems_at ho rfl (NH (listUpdate_at ho rfl (NH (seqEpoch_at ho1 rfl (NH (wpAny_newTuple (NH (wpAny_newList (OB ?_))))))))))
 dsimp only
 have hn : vs.toArray.size = vs.length := by simp
 have fin : ∀ (p : Array Nat) (st : SortSt), p.Perm (List.range vs.length).toArray -> Asc le p vs.length -> (arrOf st).map (·.2) = mF vs p -> failedOf st = none ->
   wpAny (model prog w) A (do
    let touched := (← seqEpoch a) != e1
    Builtin.List.listUpdate (.ref a) fun _ => (arrOf st).map (·.2)
    if let some e := failedOf st then rule "list.sort.comparison-raised"; throw e
    if touched then rule "list.sort.modified"; raiseError "ValueError" "list modified during sort"
    ret .none) P E { s with heap := ((s.heap.update a (Obj.mapSeq fun _ => #[])).push (seqObj "tuple" vs.toArray 0)).push (seqObj "list" #[] 0) } := fun p st hp hs ho2 hf => by
  have hz : (mF vs p).size <= sizeLine + 1 := by
   rw [BX (by rw [hp.size_eq]; simp)]; lia
  rw [ho2, hf]
  refine NH (seqEpoch_at ho6 rfl (NH (listUpdate_at ho6 rfl ?_ (hsz2 := hz))))
  simp only [bne_self_eq_false, Bool.false_eq_true, if_false]
  exact NJ (h p hp hs)
 by_cases h2 : vs.toArray.size < 2
 ·rw [NF h2, NF h2]
  refine NH (NJ ?_)
  rw [StateT.run_pure]
  refine NH (NJ (fin (List.range vs.length).toArray _ (Array.Perm.refl _) (Ie o.rf (by lia) _) ?_ rfl))
  rw [Av]
  show ((vs.toArray.zip vs.toArray).map (·.2)) = vs.toArray
  apply Array.ext
  ·simp
  ·intro i h1 h2; simp
 ·rw [NG h2, NG h2]
  refine NH (K.kind _ _ _ _ (fun _ _ e => e) (by lia) ?_)
  have pos : 0 < vs.length := by lia
  have perm0 : ∀ p' : Array Nat, p'.Perm (List.range vs.length).toArray -> ∀ i, i < p'.size -> at' p' i < vs.length := fun p' h' i _ => Kj pos h' i
  have esz : (vs.toArray.zip vs.toArray).size = vs.length := by simp
  have er := kas_range (vs.toArray.zip vs.toArray)
  rw [esz] at er
  have run := Jz (prog := prog) (w := w) (A := A) (E := E) (κ := κ) (it := vs.toArray.zip vs.toArray) (n := vs.length) (lt := lt) (le := le) (p := (List.range vs.length).toArray) (st := SortSt.mk' κ (vs.toArray.zip vs.toArray) #[] 7 none)
   (s := { s with heap := ((s.heap.update a (Obj.mapSeq fun _ => #[])).push (seqObj "tuple" vs.toArray 0)).push (seqObj "list" #[] 0) })
   (Q := fun _ st => ∃ p : Array Nat, (arrOf st).map (·.2) = mF vs p /\ failedOf st = none /\ p.Perm (List.range vs.length).toArray /\ Asc le p vs.length) o
   (fun i j C hi hj hc => by rw [<- kat_ask_eq (ks := vs) (vs := vs) rfl]; exact K.ask _ _ i j C (fun _ _ e => e) hi hj hc) ⟨rfl, er.symm, rfl, rfl⟩ perm0
   (fun p' pend' st' S' hp hu => ⟨p', kat_snds rfl S'.2.1, S'.2.2.2, hp, fun i j hij hj => hu i j (Ov _) hij (by simpa using hj)⟩)
  refine NH (wpAny_mono run (fun r s' hr => ?_) fun _ _ e => e)
  ·obtain ⟨rfl, p, e2, hf, hp, hs⟩ := hr
   exact fin p r.2 hp hs e2 hf
theorem xI {l : Addr} {vs : List Value} {κ : SortKind} {lt : Nat -> Nat -> Bool} {le : Nat -> Nat -> Prop} {Q : Value -> Shared -> Prop} (o : Ord lt le) (hl : s.heap.IsList l vs.toArray) (hN : vs.length <= sizeLine) (hk : Known prog w s vs κ lt)
  (h : ∀ p : Array Nat, p.Perm (List.range vs.length).toArray -> Asc le p vs.length -> Q (.ref (s.heap.objs.size + 1)) { s with heap := sortedAll s.heap vs (mF vs p) }) : wpAny (model prog w) A (call (.builtin "sorted") [.ref l]) Q E s := by
 have hz : vs.length <= sizeLine := hN
 have sz : ((s.heap.push (seqObj "list" #[] 0)).update s.heap.objs.size (Obj.mapSeq (· ++ vs.toArray))).objs.size = s.heap.objs.size + 1 := by rw [Heap.size_update, size_push']
 have at1 : (((s.heap.push (seqObj "list" #[] 0)).update s.heap.objs.size (Obj.mapSeq (· ++ vs.toArray))).push (seqObj "list" vs.toArray 0)).get? (s.heap.objs.size + 1) = some (seqObj "list" vs.toArray 0) := by rw [<- sz]; exact Od _ rfl
 have old : ∀ b q, s.heap.get? b = some q -> b ≠ s.heap.objs.size + 1 /\ (((s.heap.push (seqObj "list" #[] 0)).update s.heap.objs.size (Obj.mapSeq (· ++ vs.toArray))).push (seqObj "list" vs.toArray 0)).get? b = some q := fun b q e => by
  have hb := NU e
  refine ⟨N5 (Nat.lt_succ_of_lt hb), NW _ ?_⟩
  rw [Heap.get?_update_ne _ _ _ _ (N5 hb)]
  exact NW _ e
 refine Calls.call_function_entry kind_sorted plain_sorted entry_sorted (args_sorted1 (.ref l)) ?_; unfold Builtin.«sorted»
 refine NH (m := checkCount "sorted" 1 1 _) (NJ (NH (collect_list hl (NH (wpAny_newList ?_ hz)) hz)))
 show wpAny (model prog w) _ _ _ _ { s with heap := ((s.heap.push (seqObj "list" #[] 0)).update s.heap.objs.size (Obj.mapSeq (· ++ vs.toArray))).push (seqObj "list" vs.toArray 0) }
 rw [sz]
 refine NH (OB (wpAny_call_entry slot_list_sort ⟨_, at1, rfl⟩ entry_list_sort (GR (κ := κ) (le := le) o at1 hN (fun h' kp => ?_) fun p hp hs => ⟨_, rfl, NJ ⟨_, rfl, h p hp hs⟩⟩) (args_list_sort _)))
 exact hk.on fun b q e => kp b q (old b q e).1 (old b q e).2
end
section
variable {prog : Program} {w : World} {A : Around} {E : Value -> Shared -> Prop} {s : Shared}
noncomputable def jG : List Int -> List Int -> Bool
 | [], [] => false
 | [], _ :: _ => true
 | _ :: _, [] => false
 | x :: xs, y :: ys => if x = y then jG xs ys else decide (x < y)
theorem tU : ∀ a : List Int, jG a a = false
 | [] => rfl
 | x :: xs => by unfold jG; rw [NF rfl]; exact tU xs
theorem wV : ∀ a b : List Int, jG a b = true -> jG b a = false
 | [], [], h => by unfold jG at h; cases h
 | [], _ :: _, _ => by unfold jG; rfl
 | _ :: _, [], h => by unfold jG at h; cases h
 | x :: xs, y :: ys, h => by
  unfold jG at h ⊢
  by_cases e : x = y
  ·rw [NF e] at h; rw [NF e.symm]; exact wV xs ys h
  ·rw [NG e] at h
   rw [NG (Oe e)]
   have := OH h
   exact Oj (by lia)
theorem wc : ∀ a b c : List Int, jG b a = false -> jG c b = false -> jG c a = false
 | [], _, [], _, _ => rfl
 | [], [], _ :: _, _, h => by unfold jG at h; cases h <;> rfl
 | [], _ :: _, _ :: _, _, _ => by unfold jG; rfl
 | _ :: _, [], _, h, _ => by unfold jG at h; cases h
 | x :: xs, y :: ys, [], _, h => by unfold jG at h; cases h
 | x :: xs, y :: ys, z :: zs, h1, h2 => by
  unfold jG at h1 h2 ⊢
  by_cases e1 : y = x
  ·rw [NF e1] at h1
   by_cases e2 : z = y
   ·rw [NF e2] at h2
    rw [NF (e2.trans e1)]
    exact wc xs ys zs h1 h2
   ·rw [NG e2] at h2
    rw [NG (by lia)]
    have := Op h2
    exact Oj (by lia)
  ·rw [NG e1] at h1
   have g1 := Op h1
   by_cases e2 : z = y
   ·rw [NG (by lia)]
    exact Oj (by lia)
   ·rw [NG e2] at h2
    have g2 := Op h2
    rw [NG (by lia)]
    exact Oj (by lia)
theorem Gs (f : Nat -> List Int) : Ord (fun i j => jG (f i) (f j)) (fun i j => jG (f j) (f i) = false) :=
 ⟨fun a b c h1 h2 => wc _ _ _ h1 h2, fun a => tU _, fun a b h => wV _ _ h, fun a b h => h⟩
def K4 (h : Heap) (v : Value) (ns : List Int) : Prop := ∃ a o xs n, v = .ref a /\ h.get? a = some o /\ o.cls = .type "tuple" /\ o.data = .seq xs n /\ IntsAre xs.toList ns
theorem HU : ∀ (xs ys : List Value) (ns ms : List Int) (i : Nat) (fin : Bool) (Q : Bool -> Shared -> Prop), IntsAre xs ns -> IntsAre ys ms -> (fin = decide (xs.length < ys.length)) -> Q (jG ns ms) s ->
  KatLex prog w A true fin Q (xs.zip ys) i s := by
 intro xs
 induction xs with
 | nil =>
  intro ys ns ms i fin Q hx hy hf hq
  cases hx
  rw [List.zip_nil_left]
  show Q fin s
  rw [hf]
  cases hy with
  | nil => exact hq
  | cons b u ty => exact hq
 | cons x xs ih =>
  intro ys ns ms i fin Q hx hy hf hq
  cases hx with
  | cons a t tx =>
   cases hy with
   | nil =>
    rw [List.zip_nil_right]
    show Q fin s
    rw [hf]
    exact hq
   | @cons c u ys' ms' ty =>
    rw [OM]
    refine kat_cons ((SeqAt.EqAt.int_int a t c u) prog w _ _ ?_)
    unfold jG at hq
    by_cases e : a = c
    ·rw [NF e] at hq
     have eb : (a == c) = true := by simpa using e
     rw [eb]
     exact kat_yes (ih ys' _ ms' (i + 1) fin Q tx ty (by rw [hf]; simp) hq)
    ·rw [NG e] at hq
     have eb : (a == c) = false := by simpa using e
     rw [eb]
     refine kat_no ?_
     cases q : i == 0 with
     | true => exact oneLt_int hq
     | false => exact kat_one _ _ (lt_int hq)
theorem Cv {vs : List Value} {f : Nat -> List Int} (hv : ∀ i, i < vs.length -> K4 s.heap (vs.getD i Value.none) (f i) /\ f i ≠ []) : Known prog w s vs (tuples' true) fun i j => jG (f i) (f j) := by
 refine ⟨fun A E h' Q hk h2 hq => ?_, fun A h' i j C hk hi hj hc => ?_⟩
 ·have hv' : ∀ v ∈ vs, ∃ n t rest a o xs k, v = .ref a /\ h'.get? a = some o /\ o.cls = .type "tuple" /\ o.data = .seq xs k /\ xs.toList = Value.int n t :: rest := fun v hm => by
   obtain ⟨i, hi, e⟩ := List.getElem_of_mem hm
   obtain ⟨⟨a, o, xs, k, e1, e2, e3, e4, e5⟩, ne⟩ := hv i hi
   have ev : vs.getD i Value.none = v := by rw [OT, OA hi]; exact e
   rw [ev] at e1
   revert e5 ne
   generalize f i = ns
   generalize ex : xs.toList = L
   intro ne e5
   cases e5 with
   | nil => exact absurd rfl ne
   | @cons n t vs' ns' tl => exact ⟨n, t, vs', a, o, xs, k, e1, hk _ _ e2, e3, e4, ex⟩
  have fs : ∀ L : List Value, (∀ v ∈ L, ∃ n t rest a o xs k, v = .ref a /\ h'.get? a = some o /\ o.cls = .type "tuple" /\ o.data = .seq xs k /\ xs.toList = Value.int n t :: rest) -> ∃ gs, KatTups h' L gs /\ gs.length = L.length /\ ∀ v ∈ gs, ∃ n t, v = Value.int n t := by
   intro L
   induction L with
   | nil => exact fun _ => ⟨[], .nil, rfl, fun _ h => (by cases h)⟩
   | cons v L ih =>
    intro hL
    obtain ⟨gs, g1, g2, g3⟩ := ih fun u hu => hL u (NN _ hu)
    obtain ⟨n, t, rest, a, o, xs, k, rfl, e2, e3, e4, e5⟩ := hL v NL
    refine ⟨.int n t :: gs, .cons e2 e3 e4 (by rw [<- Oz, e5]; rfl) g1, by rw [NV, NV, g2], fun u hu => ?_⟩
    rcases NQ.mp hu with rfl | hu
    ·exact ⟨n, t, rfl⟩
    ·exact g3 u hu
  obtain ⟨gs, g1, g2, g3⟩ := fs vs hv'
  refine kat_kind (s := { s with heap := h' }) (T := .type "int") g1 (by lia) (fun v hm => ?_) (by decide) hq
  obtain ⟨n, t, rfl⟩ := g3 v hm
  exact Looks.of_pure rfl
 ·obtain ⟨⟨a, o, xs, k, e1, e2, e3, e4, e5⟩, _⟩ := hv i hi
  obtain ⟨⟨a', o', xs', k', e1', e2', e3', e4', e5'⟩, _⟩ := hv j hj
  unfold kas_ask
  rw [e1, e1']
  refine kat_lt (s := { s with heap := h' }) (hk _ _ e2) e4 (hk _ _ e2') e4' ?_
  refine HU (s := { s with heap := h' }) _ _ _ _ _ _ _ e5 e5' ?_ hc
  simp
theorem u5 : ∀ {vs : List Value} {ns : List Int}, IntsAre vs ns -> ∀ i, i < vs.length -> ∃ t, vs.getD i Value.none = .int (ns.getD i 0) t
 | _, _, .nil, i, h => by simp at h
 | _, _, .cons n t _, 0, _ => ⟨t, rfl⟩
 | _, _, .cons n t tl, i + 1, h => by
  obtain ⟨u, e⟩ := u5 tl i (by simpa using h)
  exact ⟨u, by simpa using e⟩
theorem Cf {vs : List Value} {ns : List Int} (hI : IntsAre vs ns) : Known prog w s vs oneType' fun i j => decide (ns.getD i 0 < ns.getD j 0) := by
 refine ⟨fun A E h' Q hk h2 hq => ?_, fun A h' i j C hk hi hj hc => ?_⟩
 ·rw [ksk_kind (keys := vs.toArray) (kz := ns) (by simpa using hI) (by simpa using h2)]
  exact NJ hq
 ·obtain ⟨t, e1⟩ := u5 hI i hi
  obtain ⟨u, e2⟩ := u5 hI j hj
  unfold kas_ask
  rw [e1, e2, keyLt'_oneType]
  exact oneLt_int hc
theorem Fl (f : Nat -> Int) : Ord (fun i j => decide (f i < f j)) (fun i j => f i <= f j) :=
 ⟨fun _ _ _ h k => Int.le_trans h k, fun _ => Int.le_refl _, fun a b h => Int.le_of_lt (OH h), fun a b h => by have := Op h; show f b <= f a; lia⟩
theorem Bg {vs : List Value} {ns : List Int} (hI : IntsAre vs ns) : ∀ L : List Nat, (∀ i ∈ L, i < vs.length) -> IntsAre (L.map fun i => vs.getD i Value.none) (L.map fun i => ns.getD i 0)
 | [], _ => .nil
 | i :: L, h => by
  obtain ⟨t, e⟩ := u5 hI i (h i NL)
  rw [N1, N1, e]
  exact .cons _ t (Bg hI L fun j hj => h j (NN _ hj))
theorem Br : ∀ {vs : List Value} {ns : List Int}, IntsAre vs ns -> vs.length = ns.length
 | _, _, .nil => rfl
 | _, _, .cons n t tl => by rw [NV, NV, Br tl]
theorem zP {l : Addr} {vs : List Value} {ns : List Int} {Q : Value -> Shared -> Prop} (hl : s.heap.IsList l vs.toArray) (hI : IntsAre vs ns) (hN : vs.length <= sizeLine)
  (h : ∀ (out : Array Value) ms, IntsAre out.toList ms -> ms.Perm ns -> ms.Pairwise (· <= ·) -> Q (.ref (s.heap.objs.size + 1)) { s with heap := sortedAll s.heap vs out }) : wpAny (model prog w) A (call (.builtin "sorted") [.ref l]) Q E s := by
 refine xI (Fl fun i => ns.getD i 0) hl hN (Cf hI) fun p hp ha => ?_
 have e := Br hI
 have hb : ∀ i ∈ p.toList, i < vs.length := fun i hi => by simpa using (Array.perm_iff_toList_perm.mp hp).mem_iff.mp hi
 rw [e] at hp ha
 obtain ⟨p1, p2⟩ := B5 (vs := ns) (d := 0) hp ha
 exact h (mF vs p) _ (by simpa [mF] using Bg hI p.toList hb) p1 (p2 _ fun i j _ _ h => h)
end
end Srt
namespace L2
open PySem
noncomputable def Jn (K : W.Frag) : List V -> Hp -> VK -> Prop := fun xs H Q => ∃ p ys, xs = [.ref p] /\ ((SqL K H p ys /\ ∀ l, H l = none -> Q (.ref l) (upd H l (.tup ys))) \/ (SqT K H p ys /\ Q (.ref p) H))
noncomputable def Ln : List V -> Hp -> VK -> Prop := fun xs H Q => ∃ i j, xs = [.int i, .int j] /\ Q (.int (if j > i then j else i)) H
noncomputable def KC : List V -> Hp -> VK -> Prop := fun xs H Q => ∃ i j, xs = [.int i, .int j] /\ Q (.int (if j < i then j else i)) H
noncomputable def KL : List V -> Hp -> VK -> Prop := fun xs H Q => (∃ i, xs = [.int i] /\ Q (.int i) H) \/ ∃ k, xs = [.bl k] /\ Q (.int (if k then 1 else 0)) H
noncomputable def KH (K : W.Frag) (ta : TE) : TT := fun σ H Q => ta σ H fun x H' => ∃ k, GY K x H' k /\ Q k H'
noncomputable def AX (K : W.Frag) : List V -> Hp -> VK -> Prop := fun xs H Q => ∃ p, ∃ ns : List Int, xs = [.ref p] /\ SqL K H p (ns.map V.int) /\ ns.length < 30000 /\
 ∀ (ms : List Int) l, ms.Perm ns -> ms.Pairwise (· <= ·) -> H l = none -> Q (.ref l) (upd H l (.lst (ms.map V.int)))
noncomputable def IP (K : W.Frag) : List V -> Hp -> VK -> Prop := fun xs H Q => ∃ p, ∃ ns : List Int, xs = [.ref p] /\ SqL K H p (ns.map V.int) /\ Q (.int ns.sum) H
noncomputable def JA (K : W.Frag) (tl : TE) : TI := fun σ H R => tl σ H fun x H1 => ∃ a, x = .ref a /\ (((∃ xs, SqL K H1 a xs) /\ R (Itl K a) H1) \/ ((∃ xs, SqT K H1 a xs) /\ R (Itt K a) H1))
end L2
namespace M
open PySem L2
inductive D where
 | non | bl (b : Bool) | int (i : Int) | str (x : Str) | ty (n : String) | lst (l : List D) | tup (l : List D) | scr (l : List D) | ins (N : Str) (ns : List Str) (l : List D) | dic (ks : List (List Int))
 deriving Inhabited
theorem eJ {S S' : Hp} (s : Same S S') {a : Addr} {u : HO} (h : Rd S a u) : Rd S' a u := h.elim (fun e => .inl (s _ _ e)) fun ⟨o, e⟩ => .inr ⟨o, s _ _ e⟩
theorem fE {K : W.Frag} {S S' : Hp} (s : Same S S') {a : Addr} {xs : List V} (h : SqL K S a xs) : SqL K S' a xs := h.elim (fun e => .inl (eJ s e)) .inr
theorem cV {K : W.Frag} {S S' : Hp} (s : Same S S') {a : Addr} {xs : List V} (h : SqT K S a xs) : SqT K S' a xs := h.elim (fun e => .inl (eJ s e)) .inr
def TpA (K : W.Frag) (S : Hp) (a : Addr) (xs : List V) : Prop := SqT K S a xs
theorem TpA.of {K : W.Frag} {S : Hp} {a : Addr} {xs : List V} (h : S a = some (.tup xs)) : TpA K S a xs := SqT.of h
theorem TpA.sq {K : W.Frag} {S : Hp} {a : Addr} {xs : List V} (h : TpA K S a xs) : SqT K S a xs := h
theorem TpA.mono {K : W.Frag} {S S' : Hp} (s : Same S S') {a : Addr} {xs : List V} (h : TpA K S a xs) : TpA K S' a xs := cV s h
noncomputable def HE (ks : List (List Int)) : List (List Key × V) := ks.map fun k => (k.map Sum.inl, V.bl true)
mutual
noncomputable def Den (K : W.Frag) (S : Hp) : D -> V -> Prop
 | .non, v => v = .non
 | .bl b, v => v = .bl b
 | .int i, v => v = .int i
 | .str x, v => v = .str x
 | .ty x, v => v = .ty x
 | .lst l, v => ∃ p xs, v = .ref p /\ Rd S p (.lst xs) /\ Dens K S l xs
 | .tup l, v => ∃ p xs, v = .ref p /\ TpA K S p xs /\ Dens K S l xs
 | .scr l, v => ∃ p xs, v = .ref p /\ SqL K S p xs /\ Dens K S l xs
 | .ins N ns l, v => ∃ p C dx fs, v = .ref p /\ W.nsIn K mainGlobals N = some (some (.ref C)) /\ S p = some (.ins C dx fs) /\ fs.map (·.1) = ns /\ Dens K S l (fs.map (·.2))
 | .dic ks, v => ∃ p, v = .ref p /\ Rd S p (.dT (HE ks))
noncomputable def Dens (K : W.Frag) (S : Hp) : List D -> List V -> Prop
 | [], xs => xs = []
 | d :: ds, xs => ∃ y ys, xs = y :: ys /\ Den K S d y /\ Dens K S ds ys
end
section
variable {K : W.Frag} {S S' H H' : Hp}
theorem Dens.nil : Dens K S [] [] := by unfold Dens; rfl
theorem Dens.cons {d : D} {ds : List D} {y : V} {ys : List V} (h : Den K S d y) (k : Dens K S ds ys) : Dens K S (d :: ds) (y :: ys) := by unfold Dens; exact ⟨y, ys, rfl, h, k⟩
theorem Dens.nil_of {xs : List V} (h : Dens K S [] xs) : xs = [] := by unfold Dens at h; exact h
theorem Dens.cons_of {d : D} {ds : List D} {xs : List V} (h : Dens K S (d :: ds) xs) : ∃ y ys, xs = y :: ys /\ Den K S d y /\ Dens K S ds ys := by unfold Dens at h; exact h
theorem Dens.length : ∀ {ds : List D} {xs : List V}, Dens K S ds xs -> ds.length = xs.length
 | [], _, h => by rw [h.nil_of]; rfl
 | _ :: _, _, h => by
  obtain ⟨y, ys, rfl, _, k⟩ := h.cons_of
  rw [NV, NV, k.length]
theorem Dens.append : ∀ {ds es : List D} {xs ys : List V}, Dens K S ds xs -> Dens K S es ys -> Dens K S (ds ++ es) (xs ++ ys)
 | [], _, _, _, h, k => by rw [h.nil_of]; exact k
 | _ :: _, _, _, _, h, k => by
  obtain ⟨y, ys, rfl, a, b⟩ := h.cons_of
  exact .cons a (b.append k)
theorem Dens.get : ∀ {ds : List D} {xs : List V} {i : Nat} {d : D}, Dens K S ds xs -> ds[i]? = some d -> ∃ x, xs[i]? = some x /\ Den K S d x
 | [], _, _, _, _, e => by simp at e
 | _ :: _, _, 0, _, h, e => by
  obtain ⟨y, ys, rfl, a, b⟩ := h.cons_of
  simp at e; subst e
  exact ⟨y, rfl, a⟩
 | _ :: _, _, i + 1, _, h, e => by
  obtain ⟨y, ys, rfl, a, b⟩ := h.cons_of
  obtain ⟨x, e1, h1⟩ := b.get (i := i) (by simpa using e)
  exact ⟨x, by simpa using e1, h1⟩
theorem Dens.set : ∀ {ds : List D} {xs : List V} {d : D} {x : V} (i : Nat), Dens K S ds xs -> Den K S d x -> Dens K S (ds.set i d) (xs.set i x)
 | [], _, _, _, _, h, _ => by rw [h.nil_of]; exact .nil
 | _ :: _, _, _, _, 0, h, k => by
  obtain ⟨y, ys, rfl, a, b⟩ := h.cons_of
  exact .cons k b
 | _ :: _, _, _, _, i + 1, h, k => by
  obtain ⟨y, ys, rfl, a, b⟩ := h.cons_of
  exact .cons a (b.set i k)
theorem Dens.take : ∀ {ds : List D} {xs : List V} (i : Nat), Dens K S ds xs -> Dens K S (ds.take i) (xs.take i)
 | [], _, _, h => by rw [h.nil_of]; simp; exact .nil
 | _ :: _, _, 0, h => by simp; exact .nil
 | _ :: _, _, i + 1, h => by
  obtain ⟨y, ys, rfl, a, b⟩ := h.cons_of
  exact .cons a (b.take i)
theorem Dens.drop : ∀ {ds : List D} {xs : List V} (i : Nat), Dens K S ds xs -> Dens K S (ds.drop i) (xs.drop i)
 | [], _, _, h => by rw [h.nil_of]; simp; exact .nil
 | _ :: _, _, 0, h => h
 | _ :: _, _, i + 1, h => by
  obtain ⟨y, ys, rfl, a, b⟩ := h.cons_of
  exact b.drop i
mutual
theorem Den.mono (s : Same S S') : ∀ {d : D} {v : V}, Den K S d v -> Den K S' d v
 | .dic _, _, h => by
  unfold Den at *
  obtain ⟨p, e, h1⟩ := h
  exact ⟨p, e, eJ s h1⟩
 | .non, _, h => by unfold Den at *; exact h
 | .bl _, _, h => by unfold Den at *; exact h
 | .int _, _, h => by unfold Den at *; exact h
 | .str _, _, h => by unfold Den at *; exact h
 | .ty _, _, h => by unfold Den at *; exact h
 | .lst _, _, h => by
  unfold Den at *
  obtain ⟨p, xs, e, h1, h2⟩ := h
  exact ⟨p, xs, e, eJ s h1, Dens.mono s h2⟩
 | .tup _, _, h => by
  unfold Den at *
  obtain ⟨p, xs, e, h1, h2⟩ := h
  exact ⟨p, xs, e, TpA.mono s h1, Dens.mono s h2⟩
 | .scr _, _, h => by
  unfold Den at *
  obtain ⟨p, xs, e, h1, h2⟩ := h
  exact ⟨p, xs, e, fE s h1, Dens.mono s h2⟩
 | .ins _ _ _, _, h => by
  unfold Den at *
  obtain ⟨p, C, dx, fs, e, h0, h1, h2, h3⟩ := h
  exact ⟨p, C, dx, fs, e, h0, s _ _ h1, h2, Dens.mono s h3⟩
theorem Dens.mono (s : Same S S') : ∀ {ds : List D} {xs : List V}, Dens K S ds xs -> Dens K S' ds xs
 | [], _, h => by rw [h.nil_of]; exact .nil
 | _ :: _, _, h => by
  obtain ⟨y, ys, rfl, a, b⟩ := h.cons_of
  exact .cons (Den.mono s a) (Dens.mono s b)
end
theorem den_int {i : Int} {v : V} : Den K S (.int i) v ↔ v = .int i := by unfold Den; exact Iff.rfl
theorem den_bl {b : Bool} {v : V} : Den K S (.bl b) v ↔ v = .bl b := by unfold Den; exact Iff.rfl
theorem den_non {v : V} : Den K S .non v ↔ v = .non := by unfold Den; exact Iff.rfl
theorem den_str {x : Str} {v : V} : Den K S (.str x) v ↔ v = .str x := by unfold Den; exact Iff.rfl
theorem den_ty {x : String} {v : V} : Den K S (.ty x) v ↔ v = .ty x := by unfold Den; exact Iff.rfl
theorem den_tup {l : List D} {v : V} : Den K S (.tup l) v ↔ ∃ p xs, v = .ref p /\ TpA K S p xs /\ Dens K S l xs := by
 constructor
 ·intro h; unfold Den at h; exact h
 ·intro h; unfold Den; exact h
theorem kj {l : List D} {v : V} (h : Den K S (.tup l) v) : ∃ p xs, v = .ref p /\ SqT K S p xs /\ Dens K S l xs := by
 obtain ⟨p, xs, e, h1, h2⟩ := den_tup.mp h
 exact ⟨p, xs, e, h1.sq, h2⟩
theorem den_lst {l : List D} {v : V} : Den K S (.lst l) v ↔ ∃ p xs, v = .ref p /\ Rd S p (.lst xs) /\ Dens K S l xs := by
 constructor
 ·intro h; unfold Den at h; exact h
 ·intro h; unfold Den; exact h
theorem den_scr {l : List D} {v : V} : Den K S (.scr l) v ↔ ∃ p xs, v = .ref p /\ SqL K S p xs /\ Dens K S l xs := by
 constructor
 ·intro h; unfold Den at h; exact h
 ·intro h; unfold Den; exact h
theorem den_ins {N : Str} {ns : List Str} {l : List D} {v : V} : Den K S (.ins N ns l) v ↔ ∃ p C dx fs, v = .ref p /\ W.nsIn K mainGlobals N = some (some (.ref C)) /\ S p = some (.ins C dx fs) /\ fs.map (·.1) = ns /\ Dens K S l (fs.map (·.2)) := by
 constructor
 ·intro h; unfold Den at h; exact h
 ·intro h; unfold Den; exact h
def DenP (K : W.Frag) (S H : Hp) (d : D) (v : V) : Prop := Den K S d v \/ ∃ l p xs, d = .lst l /\ v = .ref p /\ H p = some (.lst xs) /\ Dens K S l xs
theorem Den.p {d : D} {v : V} (h : Den K S d v) : DenP K S H d v := .inl h
theorem DenP.lst {l : List D} {v : V} (s : Same S H) (h : DenP K S H (.lst l) v) : ∃ p xs, v = .ref p /\ Rd H p (.lst xs) /\ Dens K S l xs := by
 rcases h with h | ⟨l', p, xs, e, e1, e2, e3⟩
 ·obtain ⟨p, xs, e, e1, e2⟩ := den_lst.mp h
  exact ⟨p, xs, e, eJ s e1, e2⟩
 ·cases e
  exact ⟨p, xs, e1, .inl e2, e3⟩
theorem DenP.tup {l : List D} {v : V} (s : Same S H) (h : DenP K S H (.tup l) v) : ∃ p xs, v = .ref p /\ SqT K H p xs /\ Dens K S l xs := by
 rcases h with h | ⟨l', p, xs, e, e1, e2, e3⟩
 ·obtain ⟨p, xs, e, e1, e2⟩ := kj h
  exact ⟨p, xs, e, cV s e1, e2⟩
 ·cases e
theorem DenP.scr {l : List D} {v : V} (s : Same S H) (h : DenP K S H (.scr l) v) : ∃ p xs, v = .ref p /\ SqL K H p xs /\ Dens K S l xs := by
 rcases h with h | ⟨l', p, xs, e, e1, e2, e3⟩
 ·obtain ⟨p, xs, e, e1, e2⟩ := den_scr.mp h
  exact ⟨p, xs, e, fE s e1, e2⟩
 ·cases e
theorem DenP.int {i : Int} {v : V} (h : DenP K S H (.int i) v) : v = .int i := by
 rcases h with h | ⟨l', p, xs, e, _⟩
 ·exact den_int.mp h
 ·cases e
theorem DenP.bl {i : Bool} {v : V} (h : DenP K S H (.bl i) v) : v = .bl i := by
 rcases h with h | ⟨l', p, xs, e, _⟩
 ·exact den_bl.mp h
 ·cases e
theorem DenP.str {i : Str} {v : V} (h : DenP K S H (.str i) v) : v = .str i := by
 rcases h with h | ⟨l', p, xs, e, _⟩
 ·exact den_str.mp h
 ·cases e
theorem DenP.non {v : V} (h : DenP K S H .non v) : v = .non := by
 rcases h with h | ⟨l', p, xs, e, _⟩
 ·exact den_non.mp h
 ·cases e
theorem DenP.ty {i : String} {v : V} (h : DenP K S H (.ty i) v) : v = .ty i := by
 rcases h with h | ⟨l', p, xs, e, _⟩
 ·exact den_ty.mp h
 ·cases e
structure Ext (S H S' H' : Hp) : Prop where
 sh : Same S S'
 sub : Same S' H'
 al : ∀ b o, H b = some o -> S b = none -> H' b = some o /\ S' b = none
theorem Ext.refl (h : Same S H) : Ext S H S H := ⟨Same.refl _, h, fun _ _ h n => ⟨h, n⟩⟩
theorem Ext.trans {S1 H1 S2 H2 : Hp} (a : Ext S H S1 H1) (b : Ext S1 H1 S2 H2) : Ext S H S2 H2 := ⟨a.sh.trans b.sh, b.sub, fun c o h n => b.al c o (a.al c o h n).1 (a.al c o h n).2⟩
theorem Ext.same (a : Ext S H S' H') (s : Same S H) : Same H H' := fun b o h => by
 cases q : S b with
 | none => exact (a.al b o h q).1
 | some u =>
  have := s b u q
  rw [h] at this
  cases this
  exact a.sub b o (a.sh b o q)
theorem Ext.new (s : Same S H) {p : Addr} {o : HO} (h : H p = none) : Ext S H (upd S p o) (upd H p o) where
 sh := fun b u e => by rw [a6 (bj e (s.free h))]; exact e
 sub := fun b u e => by
  by_cases hb : b = p
  ·subst hb; rw [a8] at e ⊢; exact e
  ·rw [a6 hb] at e ⊢; exact s b u e
 al := fun b u e n => by
  have hb := bj e h
  rw [a6 hb, a6 hb]
  exact ⟨e, n⟩
theorem Ext.own (s : Same S H) {p : Addr} {o : HO} (h : H p = none) : Ext S H S (upd H p o) where
 sh := Same.refl _
 sub := fun b u e => by rw [a6 (bj (s b u e) h)]; exact s b u e
 al := fun b u e n => by
  have hb := bj e h
  rw [a6 hb]
  exact ⟨e, n⟩
theorem DenP.mono {d : D} {v : V} (e : Ext S H S' H') (s : Same S H) (h : DenP K S H d v) : DenP K S' H' d v := by
 rcases h with h | ⟨l, p, xs, h1, h2, h3, h4⟩
 ·exact .inl (h.mono e.sh)
 ·exact .inr ⟨l, p, xs, h1, h2, e.same s _ _ h3, h4.mono e.sh⟩
inductive DensP (K : W.Frag) (S H : Hp) : List D -> List V -> Prop where
 | nil : DensP K S H [] []
 | cons {d ds v vs} : DenP K S H d v -> DensP K S H ds vs -> DensP K S H (d :: ds) (v :: vs)
inductive O where
 | sh (d : D) | lst (l : List O) | tup (l : List O) | dic (ks : List (List Int))
 deriving Inhabited
mutual
noncomputable def O.d : O -> D
 | .sh d => d
 | .dic ks => .dic ks
 | .lst l => .lst (O.ds l)
 | .tup l => .tup (O.ds l)
noncomputable def O.ds : List O -> List D
 | [] => []
 | o :: l => o.d :: O.ds l
end
mutual
noncomputable def Own (K : W.Frag) (S H : Hp) : O -> V -> List Addr -> Prop
 | .sh d, v, fp => fp = [] /\ Den K S d v
 | .lst l, v, fp => ∃ a xs f, v = .ref a /\ fp = a :: f /\ H a = some (.lst xs) /\ Owns K S H l xs f
 | .tup l, v, fp => ∃ a xs f, v = .ref a /\ fp = a :: f /\ H a = some (.tup xs) /\ Owns K S H l xs f
 | .dic ks, v, fp => ∃ a, v = .ref a /\ fp = [a] /\ H a = some (.dT (HE ks))
noncomputable def Owns (K : W.Frag) (S H : Hp) : List O -> List V -> List Addr -> Prop
 | [], xs, fp => xs = [] /\ fp = []
 | o :: l, xs, fp => ∃ y ys f g, xs = y :: ys /\ fp = f ++ g /\ Own K S H o y f /\ Owns K S H l ys g
end
theorem den_dic {ks : List (List Int)} {v : V} : Den K S (.dic ks) v ↔ ∃ p, v = .ref p /\ Rd S p (.dT (HE ks)) := by unfold Den; exact Iff.rfl
theorem own_dic {ks : List (List Int)} {v : V} {fp : List Addr} : Own K S H (.dic ks) v fp ↔ ∃ a, v = .ref a /\ fp = [a] /\ H a = some (.dT (HE ks)) := by unfold Own; exact Iff.rfl
theorem own_sh {d : D} {v : V} {fp : List Addr} : Own K S H (.sh d) v fp ↔ fp = [] /\ Den K S d v := by unfold Own; exact Iff.rfl
theorem own_lst {l : List O} {v : V} {fp : List Addr} : Own K S H (.lst l) v fp ↔ ∃ a xs f, v = .ref a /\ fp = a :: f /\ H a = some (.lst xs) /\ Owns K S H l xs f := by
 constructor
 ·intro h; unfold Own at h; exact h
 ·intro h; unfold Own; exact h
theorem own_tup {l : List O} {v : V} {fp : List Addr} : Own K S H (.tup l) v fp ↔ ∃ a xs f, v = .ref a /\ fp = a :: f /\ H a = some (.tup xs) /\ Owns K S H l xs f := by
 constructor
 ·intro h; unfold Own at h; exact h
 ·intro h; unfold Own; exact h
theorem Owns.nil : Owns K S H [] [] [] := by unfold Owns; exact ⟨rfl, rfl⟩
theorem Owns.cons {o : O} {l : List O} {y : V} {ys : List V} {f g : List Addr} (h : Own K S H o y f) (k : Owns K S H l ys g) : Owns K S H (o :: l) (y :: ys) (f ++ g) := by unfold Owns; exact ⟨y, ys, f, g, rfl, rfl, h, k⟩
theorem Owns.nil_of {xs : List V} {fp : List Addr} (h : Owns K S H [] xs fp) : xs = [] /\ fp = [] := by unfold Owns at h; exact h
theorem Owns.cons_of {o : O} {l : List O} {xs : List V} {fp : List Addr} (h : Owns K S H (o :: l) xs fp) : ∃ y ys f g, xs = y :: ys /\ fp = f ++ g /\ Own K S H o y f /\ Owns K S H l ys g := by unfold Owns at h; exact h
theorem Owns.length : ∀ {l : List O} {xs : List V} {fp : List Addr}, Owns K S H l xs fp -> l.length = xs.length
 | [], _, _, h => by rw [h.nil_of.1]; rfl
 | _ :: _, _, _, h => by
  obtain ⟨y, ys, f, g, rfl, rfl, _, k⟩ := h.cons_of
  rw [NV, NV, k.length]
theorem Owns.append : ∀ {l m : List O} {xs ys : List V} {f g : List Addr}, Owns K S H l xs f -> Owns K S H m ys g -> Owns K S H (l ++ m) (xs ++ ys) (f ++ g)
 | [], _, _, _, _, _, h, k => by rw [h.nil_of.1, h.nil_of.2]; exact k
 | _ :: _, _, _, _, _, _, h, k => by
  obtain ⟨y, ys, f, g, rfl, rfl, a, b⟩ := h.cons_of
  rw [N9]
  exact .cons a (b.append k)
theorem u7 : ∀ {ds : List D} {xs : List V}, Dens K S ds xs -> Owns K S H (ds.map .sh) xs []
 | [], _, h => by rw [h.nil_of]; exact .nil
 | _ :: _, _, h => by
  obtain ⟨y, ys, rfl, a, b⟩ := h.cons_of
  exact .cons (f := []) (own_sh.mpr ⟨rfl, a⟩) (u7 b)
theorem p9 : ∀ {ds : List D} {xs : List V} {fp : List Addr}, Owns K S H (ds.map .sh) xs fp -> Dens K S ds xs /\ fp = []
 | [], _, _, h => by rw [h.nil_of.1, h.nil_of.2]; exact ⟨.nil, rfl⟩
 | _ :: _, _, _, h => by
  obtain ⟨y, ys, f, g, rfl, rfl, a, b⟩ := h.cons_of
  obtain ⟨e, a⟩ := own_sh.mp a
  obtain ⟨b, e2⟩ := p9 b
  exact ⟨.cons a b, by rw [e, e2]; rfl⟩
mutual
theorem Own.mono (s : Same S S') : ∀ {o : O} {v : V} {fp : List Addr}, (∀ b ∈ fp, H' b = H b) -> Own K S H o v fp -> Own K S' H' o v fp
 | .dic _, _, _, k, h => by
  obtain ⟨a, e, rfl, h1⟩ := own_dic.mp h
  exact own_dic.mpr ⟨a, e, rfl, by rw [k a NL]; exact h1⟩
 | .sh _, _, _, k, h => by
  obtain ⟨e, d⟩ := own_sh.mp h
  exact own_sh.mpr ⟨e, d.mono s⟩
 | .lst _, _, _, k, h => by
  obtain ⟨a, xs, f, e, rfl, h1, h2⟩ := own_lst.mp h
  exact own_lst.mpr ⟨a, xs, f, e, rfl, by rw [k a NL]; exact h1, Owns.mono s (fun b hb => k b (NN _ hb)) h2⟩
 | .tup _, _, _, k, h => by
  obtain ⟨a, xs, f, e, rfl, h1, h2⟩ := own_tup.mp h
  exact own_tup.mpr ⟨a, xs, f, e, rfl, by rw [k a NL]; exact h1, Owns.mono s (fun b hb => k b (NN _ hb)) h2⟩
theorem Owns.mono (s : Same S S') : ∀ {l : List O} {xs : List V} {fp : List Addr}, (∀ b ∈ fp, H' b = H b) -> Owns K S H l xs fp -> Owns K S' H' l xs fp
 | [], _, _, k, h => by rw [h.nil_of.1, h.nil_of.2]; exact .nil
 | _ :: _, _, _, k, h => by
  obtain ⟨y, ys, f, g, rfl, rfl, a, b⟩ := h.cons_of
  exact .cons (Own.mono s (fun b hb => k b (NR _ hb)) a) (Owns.mono s (fun b hb => k b (NP _ hb)) b)
end
mutual
theorem Own.there : ∀ {o : O} {v : V} {fp : List Addr}, Own K S H o v fp -> ∀ b ∈ fp, H b ≠ none
 | .dic _, _, _, h => by
  obtain ⟨a, e, rfl, h1⟩ := own_dic.mp h
  intro b hb
  rw [NI] at hb
  subst hb
  rw [h1]; exact fun z => by cases z
 | .sh _, _, _, h => by
  obtain ⟨e, d⟩ := own_sh.mp h
  rw [e]; intro b hb; cases hb
 | .lst _, _, _, h => by
  obtain ⟨a, xs, f, e, rfl, h1, h2⟩ := own_lst.mp h
  intro b hb
  rcases NQ.mp hb with rfl | hb
  ·rw [h1]; exact fun z => by cases z
  ·exact Owns.there h2 b hb
 | .tup _, _, _, h => by
  obtain ⟨a, xs, f, e, rfl, h1, h2⟩ := own_tup.mp h
  intro b hb
  rcases NQ.mp hb with rfl | hb
  ·rw [h1]; exact fun z => by cases z
  ·exact Owns.there h2 b hb
theorem Owns.there : ∀ {l : List O} {xs : List V} {fp : List Addr}, Owns K S H l xs fp -> ∀ b ∈ fp, H b ≠ none
 | [], _, _, h => by rw [h.nil_of.2]; intro b hb; cases hb
 | _ :: _, _, _, h => by
  obtain ⟨y, ys, f, g, rfl, rfl, a, b⟩ := h.cons_of
  intro c hc
  rcases NM.mp hc with hc | hc
  ·exact Own.there a c hc
  ·exact Owns.there b c hc
end
mutual
theorem Own.den {S2 : Hp} (s : Same S S2) : ∀ {o : O} {v : V} {fp : List Addr}, (∀ b ∈ fp, S2 b = H b) -> Own K S H o v fp -> Den K S2 o.d v
 | .dic _, _, _, k, h => by
  obtain ⟨a, e, rfl, h1⟩ := own_dic.mp h
  rw [O.d]
  exact den_dic.mpr ⟨a, e, .inl (by rw [k a NL]; exact h1)⟩
 | .sh _, _, _, k, h => by
  obtain ⟨e, d⟩ := own_sh.mp h
  exact d.mono s
 | .lst l, _, _, k, h => by
  obtain ⟨a, xs, f, e, rfl, h1, h2⟩ := own_lst.mp h
  rw [O.d]
  exact den_lst.mpr ⟨a, xs, e, .inl (by rw [k a NL]; exact h1), Owns.den s (fun b hb => k b (NN _ hb)) h2⟩
 | .tup l, _, _, k, h => by
  obtain ⟨a, xs, f, e, rfl, h1, h2⟩ := own_tup.mp h
  rw [O.d]
  exact den_tup.mpr ⟨a, xs, e, TpA.of (by rw [k a NL]; exact h1), Owns.den s (fun b hb => k b (NN _ hb)) h2⟩
theorem Owns.den {S2 : Hp} (s : Same S S2) : ∀ {l : List O} {xs : List V} {fp : List Addr}, (∀ b ∈ fp, S2 b = H b) -> Owns K S H l xs fp -> Dens K S2 (O.ds l) xs
 | [], _, _, k, h => by rw [h.nil_of.1, O.ds]; exact .nil
 | _ :: _, _, _, k, h => by
  obtain ⟨y, ys, f, g, rfl, rfl, a, b⟩ := h.cons_of
  rw [O.ds]
  exact .cons (Own.den s (fun b hb => k b (NR _ hb)) a) (Owns.den s (fun b hb => k b (NP _ hb)) b)
end
theorem Own.denH {o : O} {v : V} {fp : List Addr} (s : Same S H) (h : Own K S H o v fp) : Den K H o.d v := h.den s fun _ _ => rfl
theorem Ext.keeps {fp : List Addr} (e : Ext S H S' H') (h : ∀ b ∈ fp, S b = none) (t : ∀ b ∈ fp, H b ≠ none) : (∀ b ∈ fp, H' b = H b) /\ ∀ b ∈ fp, S' b = none := by
 have key : ∀ b ∈ fp, H' b = H b /\ S' b = none := fun b hb => by
  cases q : H b with
  | none => exact absurd q (t b hb)
  | some o => exact e.al b o q (h b hb)
 exact ⟨fun b hb => (key b hb).1, fun b hb => (key b hb).2⟩
inductive Sl where
 | un | lo | sh (d : D) | ow (o : O)
 deriving Inhabited
noncomputable abbrev Env := List Sl
structure RlF (K : W.Frag) (A : Hp) (Λ : Nat -> Option Addr) (Φ : Nat -> List Addr) (ρ : Env) (σ : St) (S H : Hp) : Prop where
 len : σ.length = ρ.length
 sub : Same S H
 sh : ∀ (i : Nat) d, ρ[i]? = some (.sh d) -> ∃ v, σ[i]? = some (some v) /\ Den K S d v
 ow : ∀ (i : Nat) o, ρ[i]? = some (.ow o) -> ∃ v, σ[i]? = some (some v) /\ Own K S H o v (Φ i) /\ (Φ i).Nodup /\ ∀ b ∈ Φ i, S b = none /\ A b = none
 dj : ∀ (i j : Nat) o o', i ≠ j -> ρ[i]? = some (.ow o) -> ρ[j]? = some (.ow o') -> ∀ b ∈ Φ i, b ∉ Φ j
 lo : ∀ (i : Nat), ρ[i]? = some .lo -> ∃ a, Λ i = some a /\ σ[i]? = some (some (.ref a))
 asub : Same A H
 adis : ∀ b, S b = none \/ A b = none
def RlA (K : W.Frag) (A : Hp) (Λ : Nat -> Option Addr) (ρ : Env) (σ : St) (S H : Hp) : Prop := ∃ Φ, RlF K A Λ Φ ρ σ S H
def Rl (K : W.Frag) (ρ : Env) (σ : St) (S H : Hp) : Prop := ∃ A Λ Φ, RlF K A Λ Φ ρ σ S H
theorem RlF.ext {A : Hp} {Λ : Nat -> Option Addr} {Φ : Nat -> List Addr} {ρ : Env} {σ : St} (r : RlF K A Λ Φ ρ σ S H) (e : Ext S H S' H') : RlF K A Λ Φ ρ σ S' H' where
 len := r.len
 sub := e.sub
 sh := fun i d h => by
  obtain ⟨v, h1, h2⟩ := r.sh i d h
  exact ⟨v, h1, h2.mono e.sh⟩
 ow := fun i o h => by
  obtain ⟨v, h1, h2, h3, h4⟩ := r.ow i o h
  obtain ⟨k1, k2⟩ := e.keeps (fun b hb => (h4 b hb).1) h2.there
  exact ⟨v, h1, h2.mono e.sh k1, h3, fun b hb => ⟨k2 b hb, (h4 b hb).2⟩⟩
 dj := r.dj
 lo := r.lo
 asub := fun b o h => e.same r.sub b o (r.asub b o h)
 adis := fun b => by
  rcases r.adis b with h | h
  ·cases q : A b with
   | none => exact .inr rfl
   | some o => exact .inl (e.al b o (r.asub b o q) h).2
  ·exact .inr h
theorem RlA.ext {A : Hp} {Λ : Nat -> Option Addr} {ρ : Env} {σ : St} (r : RlA K A Λ ρ σ S H) (e : Ext S H S' H') : RlA K A Λ ρ σ S' H' := let ⟨Φ, f⟩ := r; ⟨Φ, f.ext e⟩
theorem RlA.toRl {A : Hp} {Λ : Nat -> Option Addr} {ρ : Env} {σ : St} (r : RlA K A Λ ρ σ S H) : Rl K ρ σ S H := let ⟨Φ, f⟩ := r; ⟨A, Λ, Φ, f⟩
theorem RlA.sub {A : Hp} {Λ : Nat -> Option Addr} {ρ : Env} {σ : St} (r : RlA K A Λ ρ σ S H) : Same S H := let ⟨_, f⟩ := r; f.sub
theorem RlA.asub {A : Hp} {Λ : Nat -> Option Addr} {ρ : Env} {σ : St} (r : RlA K A Λ ρ σ S H) : Same A H := let ⟨_, f⟩ := r; f.asub
theorem RlA.adis {A : Hp} {Λ : Nat -> Option Addr} {ρ : Env} {σ : St} (r : RlA K A Λ ρ σ S H) : ∀ b, S b = none \/ A b = none := let ⟨_, f⟩ := r; f.adis
theorem RlA.sh {A : Hp} {Λ : Nat -> Option Addr} {ρ : Env} {σ : St} (r : RlA K A Λ ρ σ S H) : ∀ (i : Nat) d, ρ[i]? = some (.sh d) -> ∃ v, σ[i]? = some (some v) /\ Den K S d v := let ⟨_, f⟩ := r; f.sh
theorem Rl.ext {ρ : Env} {σ : St} (r : Rl K ρ σ S H) (e : Ext S H S' H') : Rl K ρ σ S' H' := let ⟨A, Λ, Φ, f⟩ := r; ⟨A, Λ, Φ, f.ext e⟩
theorem Rl.sub {ρ : Env} {σ : St} (r : Rl K ρ σ S H) : Same S H := let ⟨_, _, _, f⟩ := r; f.sub
theorem Rl.sh {ρ : Env} {σ : St} (r : Rl K ρ σ S H) : ∀ (i : Nat) d, ρ[i]? = some (.sh d) -> ∃ v, σ[i]? = some (some v) /\ Den K S d v := let ⟨_, _, _, f⟩ := r; f.sh
theorem Rl.ow {ρ : Env} {σ : St} (r : Rl K ρ σ S H) : ∀ (i : Nat) o, ρ[i]? = some (.ow o) -> ∃ v fp, σ[i]? = some (some v) /\ Own K S H o v fp /\ fp.Nodup /\ ∀ b ∈ fp, S b = none := fun i o h => by
 obtain ⟨A, Λ, Φ, f⟩ := r
 obtain ⟨v, h1, h2, h3, h4⟩ := f.ow i o h
 exact ⟨v, _, h1, h2, h3, fun b hb => (h4 b hb).1⟩
noncomputable abbrev XE := Env -> Option D
noncomputable abbrev XT := Env -> Option Bool
noncomputable abbrev XA := Env -> Option (List D)
def SE (K : W.Frag) (t : TE) (e : XE) : Prop := ∀ ρ σ S H (Q : VK) d, Rl K ρ σ S H -> e ρ = some d -> (∀ v S' H', Ext S H S' H' -> Den K S' d v -> Q v H') -> t σ H Q
def SPk (K : W.Frag) (t : TE) (e : XE) : Prop := ∀ ρ σ S H (Q : VK) d, Rl K ρ σ S H -> e ρ = some d -> (∀ v S' H', Ext S H S' H' -> DenP K S' H' d v -> Q v H') -> t σ H Q
def SF (K : W.Frag) (t : TE) (e : XA) : Prop := ∀ ρ σ S H (Q : VK) l, Rl K ρ σ S H -> e ρ = some l -> (∀ a xs S' H', Ext S H S' H' -> H a = none -> S' a = none -> H' a = some (.lst xs) -> Dens K S' l xs -> Q (.ref a) H') -> t σ H Q
def ST (K : W.Frag) (t : TT) (c : XT) : Prop := ∀ ρ σ S H (Q : Bool -> Hp -> Prop) b, Rl K ρ σ S H -> c ρ = some b -> (∀ S' H', Ext S H S' H' -> Q b H') -> t σ H Q
def SA (K : W.Frag) (t : TA) (e : XA) : Prop := ∀ ρ σ S H (Q : List V -> Hp -> Prop) ds, Rl K ρ σ S H -> e ρ = some ds -> (∀ vs S' H', Ext S H S' H' -> Dens K S' ds vs -> Q vs H') -> t σ H Q
def SAP (K : W.Frag) (t : TA) (e : XA) : Prop := ∀ ρ σ S H (Q : List V -> Hp -> Prop) ds, Rl K ρ σ S H -> e ρ = some ds -> (∀ vs S' H', Ext S H S' H' -> DensP K S' H' ds vs -> Q vs H') -> t σ H Q
theorem SE.p {t : TE} {e : XE} (h : SE K t e) : SPk K t e := fun ρ σ S H Q d r x k => h ρ σ S H Q d r x fun v S' H' z dv => k v S' H' z (.inl dv)
@[simp] noncomputable def xL (e : XA) : XE := fun ρ => (e ρ).map D.lst
theorem SF.e {t : TE} {e : XA} (h : SF K t e) : SE K t (xL e) := fun ρ σ S H Q d r x k => by
 unfold xL at x
 cases q : e ρ with
 | none => rw [q] at x; cases x
 | some l =>
  rw [q] at x
  cases x
  refine h ρ σ S H Q l r q fun a xs S' H' z h1 h2 h3 h4 => ?_
  have s2 : Same S' (upd S' a (.lst xs)) := fun b u e => by rw [a6 (bj e h2)]; exact e
  refine k _ (upd S' a (.lst xs)) H' ⟨z.sh.trans s2, fun b u e => ?_, fun b o e n => ?_⟩ (den_lst.mpr ⟨a, xs, rfl, .inl a8, h4.mono s2⟩)
  ·by_cases hb : b = a
   ·subst hb; rw [a8] at e; cases e; exact h3
   ·rw [a6 hb] at e; exact z.sub b u e
  ·obtain ⟨y1, y2⟩ := z.al b o e n
   exact ⟨y1, by rw [a6 (bj e h1)]; exact y2⟩
@[simp] noncomputable def ap (i : Nat) : XE := fun ρ => match ρ[i]? with | some (.sh d) => some d | _ => none
noncomputable def shs : List O -> Option (List D)
 | [] => some []
 | .sh d :: l => (shs l).map fun r => d :: r
 | _ => none
theorem u8 : ∀ l : List D, shs (l.map .sh) = some l
 | [] => rfl
 | d :: l => by rw [N1, shs, u8 l]; rfl
theorem BE : ∀ {os : List O} {l : List D}, shs os = some l -> os = l.map .sh
 | [], l, h => by cases h; rfl
 | o :: os, l, h => by
  cases o with
  | sh d =>
   have h' : (shs os).map (fun r => d :: r) = some l := h
   cases q : shs os with
   | none => rw [q] at h'; cases h'
   | some m => rw [q] at h'; cases h'; rw [BE q]; rfl
  | lst _ => cases h
  | tup _ => cases h
  | dic _ => cases h
noncomputable def Ia : Sl -> Option D
 | .sh d => some d
 | .ow (.lst os) => (shs os).map D.lst
 | _ => none
@[simp] theorem LJ (d : D) : Ia (.sh d) = some d := rfl
@[simp] theorem LH (l : List D) : Ia (.ow (.lst (l.map .sh))) = some (.lst l) := by show (shs _).map D.lst = _; rw [u8]; rfl
@[simp] noncomputable def am (i : Nat) : XE := fun ρ => (ρ[i]?).bind Ia
theorem av (i : Nat) : SE K (ut i) (ap i) := fun ρ σ S H Q d r x k => by
 unfold ap at x
 split at x
 ·rename_i d' e
  cases x
  obtain ⟨v, h1, h2⟩ := r.sh i _ e
  exact ⟨v, h1, k v S H (Ext.refl r.sub) h2⟩
 ·cases x
theorem ak (i : Nat) : SPk K (ut i) (am i) := fun ρ σ S H Q d r x k => by
 unfold am at x
 cases q : ρ[i]? with
 | none => rw [q] at x; cases x
 | some s =>
  rw [q] at x
  cases s with
  | un => cases x
  | lo => cases x
  | sh d' =>
   cases x
   obtain ⟨v, h1, h2⟩ := r.sh i _ q
   exact ⟨v, h1, k v S H (Ext.refl r.sub) (.inl h2)⟩
  | ow o =>
   cases o with
   | sh d' => cases x
   | tup l => cases x
   | dic ks => cases x
   | lst os =>
    have x' : (shs os).map D.lst = some d := x
    cases qs : shs os with
    | none => rw [qs] at x'; cases x'
    | some l =>
     rw [qs] at x'
     cases x'
     have e := BE qs
     subst e
     obtain ⟨v, fp, h1, h2, h3, h4⟩ := r.ow i _ q
     obtain ⟨a, xs, f, rfl, rfl, h5, h6⟩ := own_lst.mp h2
     exact ⟨_, h1, k _ S H (Ext.refl r.sub) (.inr ⟨l, a, xs, rfl, rfl, h5, (p9 h6).1⟩)⟩
def SQ (K : W.Frag) (t : TE) (e : XE) : Prop := ∀ ρ σ S H (Q : VK) d, Rl K ρ σ S H -> e ρ = some d -> (∀ v S' H', Ext S H S' H' -> Den K H' d v -> Q v H') -> t σ H Q
theorem wM {d : D} {v : V} (s : Same S H) (h : DenP K S H d v) : Den K H d v := by
 rcases h with h | ⟨l, p, xs, rfl, rfl, h1, h2⟩
 ·exact h.mono s
 ·exact den_lst.mpr ⟨p, xs, rfl, .inl h1, h2.mono s⟩
theorem SPk.q {t : TE} {e : XE} (h : SPk K t e) : SQ K t e := fun ρ σ S H Q d r x k => h ρ σ S H Q d r x fun v S' H' z dv => k v S' H' z (wM z.sub dv)
noncomputable def GH : Sl -> Option D
 | .sh d => some d
 | .ow o => some o.d
 | _ => none
@[simp] theorem K7 (d : D) : GH (.sh d) = some d := rfl
@[simp] theorem KR (o : O) : GH (.ow o) = some o.d := rfl
@[simp] noncomputable def rA (i : Nat) : XE := fun ρ => (ρ[i]?).bind GH
theorem pQ (i : Nat) : SQ K (ut i) (rA i) := fun ρ σ S H Q d r x k => by
 unfold rA at x
 cases q : ρ[i]? with
 | none => rw [q] at x; cases x
 | some s =>
  rw [q] at x
  cases s with
  | un => cases x
  | lo => cases x
  | sh d' =>
   cases x
   obtain ⟨v, h1, h2⟩ := r.sh i _ q
   exact ⟨v, h1, k v S H (Ext.refl r.sub) (h2.mono r.sub)⟩
  | ow o =>
   cases x
   obtain ⟨v, fp, h1, h2, h3, h4⟩ := r.ow i _ q
   exact ⟨_, h1, k _ S H (Ext.refl r.sub) (h2.denH r.sub)⟩
@[simp] noncomputable def xC (d : D) : XE := fun _ => some d
noncomputable def sL : D -> Option V
 | .non => some .non | .bl b => some (.bl b) | .int i => some (.int i) | .str x => some (.str x) | .ty x => some (.ty x) | _ => none
theorem rZ {d : D} {v : V} (h : sL d = some v) : Den K S d v := by
 cases d <;> simp [sL] at h <;> subst h <;> unfold Den <;> rfl
theorem s_c {v : V} {d : D} (h : sL d = some v) : SE K (tC v) (xC d) := fun ρ σ S H Q e r x k => by
 cases x
 exact k v S H (Ext.refl r.sub) (rZ h)
@[simp] noncomputable def xFl (e : XE) : XE := fun ρ => (e ρ).bind fun d => if (sL d).isSome then some d else none
theorem Hv {d : D} {v w : V} (h : sL d = some w) (k : Den K S d v) : v = w := by
 cases d <;> simp [sL] at h <;> subst h <;> unfold Den at k <;> exact k
theorem SQ.fl {t : TE} {e : XE} (h : SQ K t e) : SE K t (xFl e) := fun ρ σ S H Q d r x k => by
 unfold xFl at x
 cases q : e ρ with
 | none => rw [q] at x; cases x
 | some d' =>
  rw [q] at x
  dsimp only [Option.bind] at x
  split at x
  ·rename_i hf
   cases x
   obtain ⟨w, hw⟩ := Option.isSome_iff_exists.mp hf
   refine h ρ σ S H Q d r q fun v S' H' z dv => k v S' H' z ?_
   rw [Hv hw dv]
   exact rZ hw
  ·cases x
@[simp] noncomputable def xOp (f : D -> D -> Option D) (a b : XE) : XE := fun ρ => (a ρ).bind fun x => (b ρ).bind fun y => f x y
def SR2 (K : W.Frag) (r : R2) (f : D -> D -> Option D) : Prop := ∀ S H x y d e g (Q : VK), Same S H -> DenP K S H d x -> DenP K S H e y -> f d e = some g -> (∀ v S' H', Ext S H S' H' -> Den K S' g v -> Q v H') -> r x y H Q
theorem aH {r : R2} {f : D -> D -> Option D} {ta tb : TE} {a b : XE} (hr : SR2 K r f) (ha : SPk K ta a) (hb : SPk K tb b) : SE K (tOp r ta tb) (xOp f a b) := fun ρ σ S H Q d r x k => by
 unfold xOp at x
 cases qa : a ρ with
 | none => rw [qa] at x; cases x
 | some da =>
  rw [qa] at x
  dsimp only [Option.bind] at x
  cases qb : b ρ with
  | none => rw [qb] at x; cases x
  | some db =>
   rw [qb] at x
   refine ha ρ σ S H _ da r qa fun v S1 H1 z1 d1 => ?_
   have r1 := r.ext z1
   refine hb ρ σ S1 H1 _ db r1 qb fun w S2 H2 z2 d2 => ?_
   exact hr S2 H2 v w da db d Q z2.sub (d1.mono z2 r1.sub) d2 x fun u S3 H3 z3 d3 => k u S3 H3 ((z1.trans z2).trans z3) d3
theorem Dz {S2 H3 S3 : Hp} (s : Same S H) (z : Ext H H S3 H3) : Ext S H S H3 := ⟨Same.refl _, fun b u e => z.sub b u (z.sh b u (s b u e)), fun b o h n => ⟨z.sub b o (z.sh b o h), n⟩⟩
theorem oW {r : R2} {f : D -> D -> Option D} {ta tb : TE} {a b : XE} (hr : SR2 K r f) (ha : SQ K ta a) (hb : SQ K tb b) : SQ K (tOp r ta tb) (xOp f a b) := fun ρ σ S H Q d r x k => by
 unfold xOp at x
 cases qa : a ρ with
 | none => rw [qa] at x; cases x
 | some da =>
  rw [qa] at x
  dsimp only [Option.bind] at x
  cases qb : b ρ with
  | none => rw [qb] at x; cases x
  | some db =>
   rw [qb] at x
   refine ha ρ σ S H _ da r qa fun v S1 H1 z1 d1 => ?_
   have r1 := r.ext z1
   refine hb ρ σ S1 H1 _ db r1 qb fun w S2 H2 z2 d2 => ?_
   exact hr H2 H2 v w da db d Q (Same.refl _) (.inl (d1.mono (z2.same r1.sub))) (.inl d2) x fun u S3 H3 z3 d3 => k u S2 H3 ((z1.trans z2).trans (Dz (S2 := S2) z2.sub z3)) (d3.mono z3.sub)
@[simp] noncomputable def xUn (f : D -> Option D) (a : XE) : XE := fun ρ => (a ρ).bind f
def SR1 (K : W.Frag) (r : V -> Hp -> VK -> Prop) (f : D -> Option D) : Prop := ∀ S H x d g (Q : VK), Same S H -> DenP K S H d x -> f d = some g -> (∀ v S' H', Ext S H S' H' -> Den K S' g v -> Q v H') -> r x H Q
theorem iT {r : V -> Hp -> VK -> Prop} {f : D -> Option D} {ta : TE} {a : XE} (hr : SR1 K r f) (ha : SPk K ta a) : SE K (tUn r ta) (xUn f a) := fun ρ σ S H Q d r x k => by
 unfold xUn at x
 cases qa : a ρ with
 | none => rw [qa] at x; cases x
 | some da =>
  rw [qa] at x
  refine ha ρ σ S H _ da r qa fun v S1 H1 z1 d1 => ?_
  exact hr S1 H1 v da d Q z1.sub d1 x fun u S3 H3 z3 d3 => k u S3 H3 (z1.trans z3) d3
@[simp] noncomputable def ao : XA := fun _ => some []
@[simp] noncomputable def ad (a : XE) (b : XA) : XA := fun ρ => (a ρ).bind fun x => (b ρ).bind fun y => some (x :: y)
theorem aq : SA K rX ao := fun ρ σ S H Q ds r x k => by cases x; exact k [] S H (Ext.refl r.sub) .nil
theorem bL : SAP K rX ao := fun ρ σ S H Q ds r x k => by cases x; exact k [] S H (Ext.refl r.sub) .nil
theorem jQ {a : XE} {b : XA} {ρ : Env} {ds : List D} (x : ad a b ρ = some ds) : ∃ d r, a ρ = some d /\ b ρ = some r /\ ds = d :: r := by
 unfold ad at x
 cases qa : a ρ with
 | none => rw [qa] at x; cases x
 | some da =>
  rw [qa] at x
  dsimp only [Option.bind] at x
  cases qb : b ρ with
  | none => rw [qb] at x; cases x
  | some db => rw [qb] at x; cases x; exact ⟨_, _, rfl, rfl, rfl⟩
theorem ae {ta : TE} {tr : TA} {a : XE} {b : XA} (ha : SE K ta a) (hb : SA K tr b) : SA K (gW ta tr) (ad a b) := fun ρ σ S H Q ds r x k => by
 obtain ⟨da, db, qa, qb, rfl⟩ := jQ x
 refine ha ρ σ S H _ da r qa fun v S1 H1 z1 d1 => hb ρ σ S1 H1 _ db (r.ext z1) qb fun vs S2 H2 z2 d2 => k _ S2 H2 (z1.trans z2) (.cons (d1.mono z2.sh) d2)
theorem aM {ta : TE} {tr : TA} {a : XE} {b : XA} (ha : SPk K ta a) (hb : SAP K tr b) : SAP K (gW ta tr) (ad a b) := fun ρ σ S H Q ds r x k => by
 obtain ⟨da, db, qa, qb, rfl⟩ := jQ x
 refine ha ρ σ S H _ da r qa fun v S1 H1 z1 d1 => hb ρ σ S1 H1 _ db (r.ext z1) qb fun vs S2 H2 z2 d2 => k _ S2 H2 (z1.trans z2) (.cons (d1.mono z2 (r.ext z1).sub) d2)
@[irreducible] noncomputable def LIM : Nat := 1000000
theorem lG : LIM < sizeLine := by rw [sizeLine_eq]; unfold LIM; decide
@[simp] noncomputable def cj (a : XA) : XE := fun ρ => (a ρ).bind fun l => if l.length <= LIM then some (.tup l) else none
theorem bQ {t : TA} {a : XA} (h : SA K t a) : SE K (JU t) (cj a) := fun ρ σ S H Q d r x k => by
 unfold cj at x
 cases q : a ρ with
 | none => rw [q] at x; cases x
 | some l =>
  rw [q] at x
  dsimp only [Option.bind] at x
  split at x
  ·rename_i hl
   cases x
   refine h ρ σ S H _ l r q fun vs S1 H1 z1 d1 => ⟨?_, fun p hp => ?_⟩
   ·rw [<- d1.length]; exact Om (Ow hl lG)
   ·have z2 := Ext.new (o := .tup vs) z1.sub hp
    exact k _ _ _ (z1.trans z2) (den_tup.mpr ⟨p, vs, rfl, TpA.of a8, d1.mono z2.sh⟩)
  ·cases x
@[simp] noncomputable def nh (a : XA) : XA := fun ρ => (a ρ).bind fun l => if l.length <= LIM then some l else none
theorem kE {t : TA} {a : XA} (h : SA K t a) : SF K (Jx t) (nh a) := fun ρ σ S H Q l r x k => by
 unfold nh at x
 cases q : a ρ with
 | none => rw [q] at x; cases x
 | some l =>
  rw [q] at x
  dsimp only [Option.bind] at x
  split at x
  ·rename_i hl
   cases x
   refine h ρ σ S H _ l r q fun vs S1 H1 z1 d1 => ⟨?_, fun p hp => ?_⟩
   ·rw [<- d1.length]; exact Om (Ow hl lG)
   ·have hp0 : H p = none := (z1.same r.sub).free hp
    exact k p vs S1 _ (z1.trans (Ext.own z1.sub hp)) hp0 (z1.sub.free hp) a8 d1
  ·cases x
@[simp] noncomputable def xCB (f : List D -> Option D) (a : XA) : XE := fun ρ => (a ρ).bind f
def SRB (K : W.Frag) (r : List V -> Hp -> VK -> Prop) (f : List D -> Option D) : Prop := ∀ S H vs ds g (Q : VK), Same S H -> DensP K S H ds vs -> f ds = some g -> (∀ v S' H', Ext S H S' H' -> Den K S' g v -> Q v H') -> r vs H Q
theorem jr {r : List V -> Hp -> VK -> Prop} {f : List D -> Option D} {t : TA} {a : XA} (hr : SRB K r f) (h : SAP K t a) : SE K (tCB r t) (xCB f a) := fun ρ σ S H Q d rl x k => by
 unfold xCB at x
 cases q : a ρ with
 | none => rw [q] at x; cases x
 | some ds =>
  rw [q] at x
  refine h ρ σ S H _ ds rl q fun vs S1 H1 z1 d1 => ?_
  exact hr S1 H1 vs ds d Q z1.sub d1 x fun v S2 H2 z2 d2 => k v S2 H2 (z1.trans z2) d2
@[simp] noncomputable def DM (f : List D -> Option (List D)) (a : XA) : XA := fun ρ => (a ρ).bind f
def SRF (K : W.Frag) (r : List V -> Hp -> VK -> Prop) (f : List D -> Option (List D)) : Prop := ∀ S H vs ds g (Q : VK), Same S H -> DensP K S H ds vs -> f ds = some g -> (∀ a xs H', Ext S H S H' -> H a = none -> H' a = some (.lst xs) -> Dens K S g xs -> Q (.ref a) H') -> r vs H Q
theorem Dy {r : List V -> Hp -> VK -> Prop} {f : List D -> Option (List D)} {t : TA} {a : XA} (hr : SRF K r f) (h : SAP K t a) : SF K (tCB r t) (DM f a) := fun ρ σ S H Q d rl x k => by
 unfold DM at x
 cases q : a ρ with
 | none => rw [q] at x; cases x
 | some ds =>
  rw [q] at x
  refine h ρ σ S H _ ds rl q fun vs S1 H1 z1 d1 => ?_
  exact hr S1 H1 vs ds d Q z1.sub d1 x fun b xs H2 z2 h1 h2 d2 => k b xs S1 H2 (z1.trans z2) ((z1.same rl.sub).free h1) (z1.sub.free h1) h2 d2
def STr (K : W.Frag) (t : TE) (e : Env -> Option O) : Prop := ∀ ρ σ S H (Q : VK) o, Rl K ρ σ S H -> e ρ = some o -> (∀ v fp S' H', Ext S H S' H' -> Own K S' H' o v fp -> fp.Nodup -> (∀ b ∈ fp, H b = none /\ S' b = none) -> Q v H') -> t σ H Q
@[simp] noncomputable def xLT (e : XA) : Env -> Option O := fun ρ => (e ρ).map fun l => .lst (l.map .sh)
theorem SF.t {t : TE} {e : XA} (h : SF K t e) : STr K t (xLT e) := fun ρ σ S H Q o r x k => by
 unfold xLT at x
 cases q : e ρ with
 | none => rw [q] at x; cases x
 | some l =>
  rw [q] at x
  cases x
  refine h ρ σ S H Q l r q fun a xs S' H' z h1 h2 h3 h4 => ?_
  refine k _ [a] S' H' z (own_lst.mpr ⟨a, xs, [], rfl, rfl, h3, u7 h4⟩) (by simp) fun b hb => ?_
  rw [NI.mp hb]
  exact ⟨h1, h2⟩
@[simp] noncomputable def xSh (e : XE) : Env -> Option O := fun ρ => (e ρ).map .sh
theorem SE.t {t : TE} {e : XE} (h : SE K t e) : STr K t (xSh e) := fun ρ σ S H Q o r x k => by
 unfold xSh at x
 cases q : e ρ with
 | none => rw [q] at x; cases x
 | some d =>
  rw [q] at x
  cases x
  exact h ρ σ S H Q d r q fun v S' H' z dv => k v [] S' H' z (own_sh.mpr ⟨rfl, dv⟩) .nil fun b hb => by cases hb
noncomputable def zN (S H : Hp) (fp : List Addr) : Hp := fun b => if b ∈ fp then H b else S b
theorem vm {fp : List Addr} {b : Addr} (h : b ∈ fp) : zN S H fp b = H b := by unfold zN; rw [NF h]
theorem nQ {fp : List Addr} {b : Addr} (h : b ∉ fp) : zN S H fp b = S b := by unfold zN; rw [NG h]
theorem n9 {fp : List Addr} (n : ∀ b ∈ fp, S b = none) : Same S (zN S H fp) := fun b o e => by
 rw [nQ fun hb => by rw [n b hb] at e; cases e]
 exact e
theorem AI {fp : List Addr} (s : Same S H) : Same (zN S H fp) H := fun b o e => by
 by_cases hb : b ∈ fp
 ·rw [vm hb] at e; exact e
 ·rw [nQ hb] at e; exact s b o e
theorem AB {fp : List Addr} (z : Ext S H S' H') (n : ∀ b ∈ fp, H b = none /\ S' b = none) : Ext S H (zN S' H' fp) H' :=
 ⟨z.sh.trans (n9 fun b hb => (n b hb).2), AI z.sub, fun b o h hn => ⟨(z.al b o h hn).1, by rw [nQ fun hb => by rw [(n b hb).1] at h; cases h]; exact (z.al b o h hn).2⟩⟩
@[simp] noncomputable def xOD (e : Env -> Option O) : XE := fun ρ => (e ρ).map O.d
theorem STr.e {t : TE} {e : Env -> Option O} (h : STr K t e) : SE K t (xOD e) := fun ρ σ S H Q d r x k => by
 unfold xOD at x
 cases q : e ρ with
 | none => rw [q] at x; cases x
 | some o =>
  rw [q] at x
  cases x
  exact h ρ σ S H Q o r q fun v fp S' H' z ow nd n => k v _ H' (AB z n) (ow.den (n9 fun b hb => (n b hb).2) fun b hb => vm hb)
noncomputable def iY (K : W.Frag) (n : Nat) (m : List D -> Option O) : Sp := fun vs H Q _ => vs.length = n /\ ∃ S ds o, Same S H /\ Dens K S ds vs /\ m ds = some o /\ ∀ v fp S' H', Ext S H S' H' -> Own K S' H' o v fp -> fp.Nodup -> (∀ b ∈ fp, H b = none /\ S' b = none) -> Q v H'
@[simp] noncomputable def BG (m : List D -> Option O) (a : XA) : Env -> Option O := fun ρ => (a ρ).bind m
theorem HH {n : Nat} {m : List D -> Option O} {E : XK} {t : TA} {a : XA} (h : SA K t a) (hn : ∀ ρ ds, a ρ = some ds -> ds.length = n) : STr K (wu (iY K n m) [] E t) (BG m a) := fun ρ σ S H Q o rl x k => by
 unfold BG at x
 cases q : a ρ with
 | none => rw [q] at x; cases x
 | some ds =>
  rw [q] at x
  refine h ρ σ S H _ ds rl q fun vs S1 H1 z1 d1 => ?_
  rw [Ol]
  refine ⟨by rw [<- d1.length]; exact hn ρ ds q, S1, ds, o, z1.sub, d1, x, fun v fp S2 H2 z2 ow nd n => k v fp S2 H2 (z1.trans z2) ow nd fun b hb => ⟨(z1.same rl.sub).free (n b hb).1, (n b hb).2⟩⟩
@[simp] noncomputable def aP (m : List D -> Option D) (a : XA) : XE := fun ρ => (a ρ).bind m
theorem bo {n : Nat} {m : List D -> Option O} {E : XK} {t : TA} {a : XA} (h : SA K t a) (hn : ∀ ρ ds, a ρ = some ds -> ds.length = n) : SE K (wu (iY K n m) [] E t) (aP (fun ds => (m ds).map O.d) a) := by
 have := (HH (m := m) (E := E) h hn).e
 have e : xOD (BG m a) = aP (fun ds => (m ds).map O.d) a := by
  funext ρ
  show ((a ρ).bind m).map O.d = (a ρ).bind fun ds => (m ds).map O.d
  cases a ρ <;> rfl
 rw [e] at this
 exact this
def SAQ (K : W.Frag) (t : TA) (e : XA) : Prop := ∀ ρ σ S H (Q : List V -> Hp -> Prop) ds, Rl K ρ σ S H -> e ρ = some ds -> (∀ vs S' H', Ext S H S' H' -> Dens K H' ds vs -> Q vs H') -> t σ H Q
theorem Gc : SAQ K rX ao := fun ρ σ S H Q ds r x k => by cases x; exact k [] S H (Ext.refl r.sub) .nil
theorem Dh {ta : TE} {tr : TA} {a : XE} {b : XA} (ha : SQ K ta a) (hb : SAQ K tr b) : SAQ K (gW ta tr) (ad a b) := fun ρ σ S H Q ds r x k => by
 obtain ⟨da, db, qa, qb, rfl⟩ := jQ x
 refine ha ρ σ S H _ da r qa fun v S1 H1 z1 d1 => hb ρ σ S1 H1 _ db (r.ext z1) qb fun vs S2 H2 z2 d2 => k _ S2 H2 (z1.trans z2) (.cons (d1.mono (z2.same (r.ext z1).sub)) d2)
@[simp] noncomputable def Mh (m : List D -> Option D) (a : XA) : XE := fun ρ => ((a ρ).bind m).bind fun d => if (sL d).isSome then some d else none
theorem IV {r : List V -> Hp -> VK -> Prop} {f : List D -> Option D} {t : TA} {a : XA} (hr : SRB K r f) (h : SAQ K t a) : SQ K (tCB r t) (xCB f a) := fun ρ σ S H Q d rl x k => by
 unfold xCB at x
 cases q : a ρ with
 | none => rw [q] at x; cases x
 | some ds =>
  rw [q] at x
  refine h ρ σ S H _ ds rl q fun vs S1 H1 z1 d1 => ?_
  have dp : DensP K H1 H1 ds vs := by
   clear q x
   revert d1
   induction ds generalizing vs with
   | nil => intro d1; rw [d1.nil_of]; exact .nil
   | cons d ds ih =>
    intro d1
    obtain ⟨y, ys, rfl, e1, e2⟩ := d1.cons_of
    exact .cons (.inl e1) (ih ys e2)
  exact hr H1 H1 vs ds d Q (Same.refl _) dp x fun v S2 H2 z2 d2 => k v S1 H2 (z1.trans (Dz (S2 := S1) z1.sub z2)) (d2.mono z2.sub)
def SAT (K : W.Frag) (t : TA) (e : Env -> Option (List O)) : Prop := ∀ ρ σ S H (Q : List V -> Hp -> Prop) os, Rl K ρ σ S H -> e ρ = some os -> (∀ vs fp S' H', Ext S H S' H' -> Owns K S' H' os vs fp -> fp.Nodup -> (∀ b ∈ fp, H b = none /\ S' b = none) -> Q vs H') -> t σ H Q
@[simp] noncomputable def Af : Env -> Option (List O) := fun _ => some []
@[simp] noncomputable def qp (a : Env -> Option O) (b : Env -> Option (List O)) : Env -> Option (List O) := fun ρ => (a ρ).bind fun x => (b ρ).bind fun y => some (x :: y)
theorem za : SAT K rX Af := fun ρ σ S H Q ds r x k => by cases x; exact k [] [] S H (Ext.refl r.sub) .nil .nil fun _ hb => by cases hb
theorem qM {ta : TE} {tr : TA} {a : Env -> Option O} {b : Env -> Option (List O)} (ha : STr K ta a) (hb : SAT K tr b) : SAT K (gW ta tr) (qp a b) := fun ρ σ S H Q os r x k => by
 unfold qp at x
 cases qa : a ρ with
 | none => rw [qa] at x; cases x
 | some oa =>
  rw [qa] at x
  dsimp only [Option.bind] at x
  cases qb : b ρ with
  | none => rw [qb] at x; cases x
  | some ob =>
   rw [qb] at x
   cases x
   refine ha ρ σ S H _ oa r qa fun v fp S1 H1 z1 o1 nd1 n1 => hb ρ σ S1 H1 _ ob (r.ext z1) qb fun vs fq S2 H2 z2 o2 nd2 n2 => ?_
   obtain ⟨k1, k2⟩ := z2.keeps (fun b hb => (n1 b hb).2) o1.there
   refine k _ _ S2 H2 (z1.trans z2) (.cons (o1.mono z2.sh k1) o2) ?_ fun c hc => ?_
   ·refine OI.mpr ⟨nd1, nd2, fun c hc d hd e => ?_⟩
    subst e
    exact o1.there c hc (n2 c hd).1
   ·rcases NM.mp hc with hc | hc
    ·exact ⟨(n1 c hc).1, k2 c hc⟩
    ·exact ⟨(z1.same r.sub).free (n2 c hc).1, (n2 c hc).2⟩
@[simp] noncomputable def CN (a : Env -> Option (List O)) : Env -> Option O := fun ρ => (a ρ).bind fun l => if l.length <= LIM then some (.tup l) else none
@[simp] noncomputable def C1 (a : Env -> Option (List O)) : Env -> Option O := fun ρ => (a ρ).bind fun l => if l.length <= LIM then some (.lst l) else none
theorem xW {fp : List Addr} {p : Addr} {o : HO} (h : H p = none) (t : ∀ b ∈ fp, H b ≠ none) : (∀ b ∈ fp, upd H p o b = H b) /\ p ∉ fp := by
 have np : p ∉ fp := fun hp => t p hp h
 exact ⟨fun b hb => a6 fun e => np (e ▸ hb), np⟩
theorem Fn {t : TA} {a : Env -> Option (List O)} (h : SAT K t a) : STr K (JU t) (CN a) := fun ρ σ S H Q o r x k => by
 unfold CN at x
 cases q : a ρ with
 | none => rw [q] at x; cases x
 | some l =>
  rw [q] at x
  dsimp only [Option.bind] at x
  split at x
  ·rename_i hl
   cases x
   refine h ρ σ S H _ l r q fun vs fp S1 H1 z1 o1 nd1 n1 => ⟨?_, fun p hp => ?_⟩
   ·rw [<- o1.length]; exact Om (Ow hl lG)
   ·obtain ⟨k1, k2⟩ := xW (o := .tup vs) hp o1.there
    refine k _ (p :: fp) S1 _ (z1.trans (Ext.own z1.sub hp)) (own_tup.mpr ⟨p, vs, fp, rfl, rfl, a8, o1.mono (Same.refl _) k1⟩) (Oo.mpr ⟨k2, nd1⟩) fun b hb => ?_
    rcases NQ.mp hb with rfl | hb
    ·exact ⟨(z1.same r.sub).free hp, z1.sub.free hp⟩
    ·exact n1 b hb
  ·cases x
theorem GQ {t : TA} {a : Env -> Option (List O)} (h : SAT K t a) : STr K (Jx t) (C1 a) := fun ρ σ S H Q o r x k => by
 unfold C1 at x
 cases q : a ρ with
 | none => rw [q] at x; cases x
 | some l =>
  rw [q] at x
  dsimp only [Option.bind] at x
  split at x
  ·rename_i hl
   cases x
   refine h ρ σ S H _ l r q fun vs fp S1 H1 z1 o1 nd1 n1 => ⟨?_, fun p hp => ?_⟩
   ·rw [<- o1.length]; exact Om (Ow hl lG)
   ·obtain ⟨k1, k2⟩ := xW (o := .lst vs) hp o1.there
    refine k _ (p :: fp) S1 _ (z1.trans (Ext.own z1.sub hp)) (own_lst.mpr ⟨p, vs, fp, rfl, rfl, a8, o1.mono (Same.refl _) k1⟩) (Oo.mpr ⟨k2, nd1⟩) fun b hb => ?_
    rcases NQ.mp hb with rfl | hb
    ·exact ⟨(z1.same r.sub).free hp, z1.sub.free hp⟩
    ·exact n1 b hb
  ·cases x
theorem aG {ρ : Env} {ds : List D} (h : ao ρ = some ds) : ds.length = 0 := by cases h; rfl
theorem ai {a : XE} {b : XA} {n : Nat} (h : ∀ ρ ds, b ρ = some ds -> ds.length = n) (ρ : Env) (ds : List D) (x : ad a b ρ = some ds) : ds.length = n + 1 := by
 obtain ⟨da, db, qa, qb, rfl⟩ := jQ x
 rw [NV, h ρ db qb]
@[simp] noncomputable def FE (a b : XE) : XE := fun ρ => (a ρ).bind fun x => match x with | .bl true => b ρ | .bl false => some (.bl false) | _ => none
@[simp] noncomputable def Nr (a b : XE) : XE := fun ρ => (a ρ).bind fun x => match x with | .bl true => some (.bl true) | .bl false => b ρ | _ => none
@[simp] noncomputable def MM (a : XE) : XE := fun ρ => (a ρ).bind fun x => match x with | .bl c => some (.bl (!c)) | _ => none
theorem JC {ta tb : TE} {a b : XE} (ha : SPk K ta a) (hb : SE K tb b) : SE K (Jd ta tb) (FE a b) := fun ρ σ S H Q d r x k => by
 unfold FE at x
 cases qa : a ρ with
 | none => rw [qa] at x; cases x
 | some da =>
  rw [qa] at x
  dsimp only [Option.bind] at x
  refine ha ρ σ S H _ da r qa fun v S1 H1 z1 d1 => ?_
  split at x
  ·exact ⟨true, d1.bl, DS (hb ρ σ S1 H1 Q d (r.ext z1) x fun w S2 H2 z2 d2 => k w S2 H2 (z1.trans z2) d2)⟩
  ·cases x
   exact ⟨false, d1.bl, EO (k _ S1 H1 z1 (den_bl.mpr rfl))⟩
  ·cases x
@[simp] noncomputable def Ny (c : XT) (a b : XE) : XE := fun ρ => (c ρ).bind fun q => if q = true then a ρ else b ρ
@[simp] noncomputable def xB (a : XE) : XT := fun ρ => (a ρ).bind fun x => match x with | .bl c => some c | _ => none
theorem s_b {ta : TE} {a : XE} (ha : SPk K ta a) : ST K (tB ta) (xB a) := fun ρ σ S H Q b r x k => by
 unfold xB at x
 cases qa : a ρ with
 | none => rw [qa] at x; cases x
 | some da =>
  rw [qa] at x
  dsimp only [Option.bind] at x
  refine ha ρ σ S H _ da r qa fun v S1 H1 z1 d1 => ?_
  split at x
  ·cases x
   exact ⟨_, d1.bl, k S1 H1 z1⟩
  ·cases x
theorem di {ta : TE} {a : XE} (ha : SPk K ta a) : ST K (IH ta) (xB a) := s_b ha
noncomputable def AG : D -> Option Bool
 | .non => some false
 | .bl b => some b
 | .int i => some (i != 0)
 | .str y => if y.length <= LIM then some ((y.length : Int) != 0) else none
 | .lst l => some (!l.isEmpty)
 | .tup l => some (!l.isEmpty)
 | .scr l => some (!l.isEmpty)
 | _ => none
theorem pJ {ds : List D} {xs : List V} (h : Dens K S ds xs) : (!ds.isEmpty) = !xs.isEmpty := by
 have := h.length
 cases ds <;> cases xs <;> simp_all
@[simp] noncomputable def jm (a : XE) : XT := fun ρ => (a ρ).bind AG
theorem GA {d : D} {v : V} {b : Bool} (s : Same S H) (h : DenP K S H d v) (x : AG d = some b) : GY K v H b := by
 cases d with
 | non => rw [h.non]; cases x; rfl
 | bl c => rw [h.bl]; cases x; rfl
 | int i => rw [h.int]; cases x; rfl
 | str y =>
  rw [h.str]
  have x' : (if y.length <= LIM then some ((y.length : Int) != 0) else none) = some b := x
  split at x'
  ·rename_i hl; cases x'; exact ⟨Om (Ow hl lG), rfl⟩
  ·cases x'
 | lst l =>
  obtain ⟨p, xs, rfl, h1, h2⟩ := h.lst s
  cases x
  exact .inl ⟨xs, .inl h1, pJ h2⟩
 | tup l =>
  obtain ⟨p, xs, rfl, h1, h2⟩ := h.tup s
  cases x
  exact .inr (.inl ⟨xs, h1, pJ h2⟩)
 | scr l =>
  obtain ⟨p, xs, rfl, h1, h2⟩ := h.scr s
  cases x
  exact .inl ⟨xs, h1, pJ h2⟩
 | _ => cases x
end
section
variable {K : W.Frag} {S S' H H' : Hp}
theorem Lm {ta : TE} {a : XE} (ha : SPk K ta a) : ST K (fun σ H Q => ta σ H fun x H' => ∃ k, GY K x H' k /\ Q k H') (jm a) := fun ρ σ S H Q b r x k => by
 unfold jm at x
 cases qa : a ρ with
 | none => rw [qa] at x; cases x
 | some da =>
  rw [qa] at x
  exact ha ρ σ S H _ da r qa fun v S1 H1 z1 d1 => ⟨b, GA z1.sub d1 x, k S1 H1 z1⟩
@[simp] noncomputable def BA (a b : XT) : XT := fun ρ => (a ρ).bind fun x => if x = true then b ρ else some false
@[simp] noncomputable def xOr (a b : XT) : XT := fun ρ => (a ρ).bind fun x => if x = true then some true else b ρ
@[simp] noncomputable def mN (a : XT) : XT := fun ρ => (a ρ).map fun x => !x
theorem As {ta tb : TT} {a b : XT} (ha : ST K ta a) (hb : ST K tb b) : ST K (Lu ta tb) (BA a b) := fun ρ σ S H Q d r x k => by
 unfold BA at x
 cases qa : a ρ with
 | none => rw [qa] at x; cases x
 | some q =>
  rw [qa] at x
  dsimp only [Option.bind] at x
  refine ha ρ σ S H _ q r qa fun S1 H1 z1 => ?_
  cases q with
  | true => exact DS (hb ρ σ S1 H1 Q d (r.ext z1) (by simpa using x) fun S2 H2 z2 => k S2 H2 (z1.trans z2))
  | false =>
   have : d = false := by simpa using x.symm
   subst this
   exact EO (k S1 H1 z1)
theorem EA {ta tb : TT} {a b : XT} (ha : ST K ta a) (hb : ST K tb b) : ST K (tOr ta tb) (xOr a b) := fun ρ σ S H Q d r x k => by
 unfold xOr at x
 cases qa : a ρ with
 | none => rw [qa] at x; cases x
 | some q =>
  rw [qa] at x
  dsimp only [Option.bind] at x
  refine ha ρ σ S H _ q r qa fun S1 H1 z1 => ?_
  cases q with
  | false => exact EO (hb ρ σ S1 H1 Q d (r.ext z1) (by simpa using x) fun S2 H2 z2 => k S2 H2 (z1.trans z2))
  | true =>
   have : d = true := by simpa using x.symm
   subst this
   exact DS (k S1 H1 z1)
theorem o6 {ta : TT} {a : XT} (ha : ST K ta a) : ST K (KO ta) (mN a) := fun ρ σ S H Q d r x k => by
 unfold mN at x
 cases qa : a ρ with
 | none => rw [qa] at x; cases x
 | some q =>
  rw [qa] at x
  cases x
  exact ha ρ σ S H _ q r qa k
inductive Out where
 | nx (ρ : Env) | rt (d : D) | ro (o : O) | bk (ρ : Env) | ct (ρ : Env)
noncomputable abbrev XS := Env -> Option Out
noncomputable def Done (K : W.Frag) (A : Hp) (Λ : Nat -> Option Addr) (S : Hp) (E : Ends) : Out -> Prop
 | .nx ρ => ∀ σ' S' H', RlA K A Λ ρ σ' S' H' -> Same S S' -> E.nx σ' H'
 | .bk ρ => ∀ σ' S' H', RlA K A Λ ρ σ' S' H' -> Same S S' -> E.bk σ' H'
 | .ct ρ => ∀ σ' S' H', RlA K A Λ ρ σ' S' H' -> Same S S' -> E.ct σ' H'
 | .rt d => ∀ v S' H', Same S S' -> Same S' H' -> Same A H' -> (∀ b, S' b = none \/ A b = none) -> Den K S' d v -> E.rt v H'
 | .ro o => ∀ v fp S' H', Same S S' -> Same S' H' -> Same A H' -> (∀ b, S' b = none \/ A b = none) -> Own K S' H' o v fp -> fp.Nodup -> (∀ b ∈ fp, S' b = none /\ A b = none) -> E.rt v H'
theorem Done.mono {A : Hp} {Λ : Nat -> Option Addr} {E : Ends} {o : Out} (s : Same S S') (h : Done K A Λ S E o) : Done K A Λ S' E o := by
 cases o with
 | nx ρ => exact fun σ1 S1 H1 r z => h σ1 S1 H1 r (s.trans z)
 | bk ρ => exact fun σ1 S1 H1 r z => h σ1 S1 H1 r (s.trans z)
 | ct ρ => exact fun σ1 S1 H1 r z => h σ1 S1 H1 r (s.trans z)
 | rt d => exact fun v S1 H1 z => h v S1 H1 (s.trans z)
 | ro d => exact fun v fp S1 H1 z => h v fp S1 H1 (s.trans z)
def SS (K : W.Frag) (t : TS) (m : XS) : Prop := ∀ A Λ ρ σ S H (E : Ends) o, RlA K A Λ ρ σ S H -> m ρ = some o -> Done K A Λ S E o -> t E σ H
@[simp] noncomputable def kv : XS := fun ρ => some (.nx ρ)
theorem ko : SS K Fj kv := fun A Λ ρ σ S H E o r x k => by cases x; exact k σ S H r (Same.refl _)
@[simp] noncomputable def Mn : XS := fun ρ => some (.bk ρ)
@[simp] noncomputable def MT : XS := fun ρ => some (.ct ρ)
@[simp] noncomputable def L1 : XS := fun _ => none
@[simp] noncomputable def bB (m n : XS) : XS := fun ρ => match m ρ with | some (.nx ρ') => n ρ' | o => o
theorem a9 {t u : TS} {m n : XS} (ht : SS K t m) (hu : SS K u n) : SS K (J4 t u) (bB m n) := fun A Λ ρ σ S H E o r x k => by
 unfold bB at x
 cases q : m ρ with
 | none => rw [q] at x; cases x
 | some om =>
  rw [q] at x
  refine ht A Λ ρ σ S H _ om r q ?_
  cases om with
  | nx ρ' => exact fun σ' S' H' r' z => hu A Λ ρ' σ' S' H' E o r' x (k.mono z)
  | rt d => cases x; exact k
  | ro d => cases x; exact k
  | bk d => cases x; exact k
  | ct d => cases x; exact k
@[simp] noncomputable def fx (e : XE) : XS := fun ρ => (e ρ).map .rt
theorem et {te : TE} {e : XE} (h : SE K te e) : SS K (J7 te) (fx e) := fun A Λ ρ σ S H E o r x k => by
 unfold fx at x
 cases q : e ρ with
 | none => rw [q] at x; cases x
 | some d =>
  rw [q] at x
  cases x
  refine h ρ σ S H _ d r.toRl q fun v S1 H1 z1 d1 => ?_
  have r1 := r.ext z1
  exact k v S1 H1 z1.sh z1.sub r1.asub r1.adis d1
@[simp] noncomputable def MQ (e : Env -> Option O) : XS := fun ρ => (e ρ).map .ro
@[simp] noncomputable def C7 (i : Nat) : XS := fun ρ => match ρ[i]? with | some (.sh d) => some (.rt d) | some (.ow o) => some (.ro o) | _ => none
theorem Ff (i : Nat) : SS K (J7 (ut i)) (C7 i) := fun A Λ ρ σ S H E o r x k => by
 unfold C7 at x
 cases q : ρ[i]? with
 | none => rw [q] at x; cases x
 | some s =>
  rw [q] at x
  obtain ⟨Φ, f⟩ := r
  cases s with
  | un => cases x
  | lo => cases x
  | sh d =>
   cases x
   obtain ⟨v, h1, h2⟩ := f.sh i d q
   exact ⟨v, h1, k v S H (Same.refl _) f.sub f.asub f.adis h2⟩
  | ow ot =>
   cases x
   obtain ⟨v, h1, h2, h3, h4⟩ := f.ow i ot q
   exact ⟨v, h1, k v _ S H (Same.refl _) f.sub f.asub f.adis h2 h3 h4⟩
@[simp] noncomputable def M9 : XS := fun _ => some (.rt .non)
@[simp] noncomputable def xIf (c : XT) (m n : XS) : XS := fun ρ => (c ρ).bind fun b => if b = true then m ρ else n ρ
theorem pq {tc : TT} {t u : TS} {c : XT} {m n : XS} (hc : ST K tc c) (ht : SS K t m) (hu : SS K u n) : SS K (Ke tc t u) (xIf c m n) := fun A Λ ρ σ S H E o r x k => by
 unfold xIf at x
 cases qc : c ρ with
 | none => rw [qc] at x; cases x
 | some q =>
  rw [qc] at x
  dsimp only [Option.bind] at x
  refine hc ρ σ S H _ q r.toRl qc fun S1 H1 z1 => ?_
  cases q with
  | true => exact DS (ht A Λ ρ σ S1 H1 E o (r.ext z1) (by simpa using x) (k.mono z1.sh))
  | false => exact EO (hu A Λ ρ σ S1 H1 E o (r.ext z1) (by simpa using x) (k.mono z1.sh))
theorem dB {α : Type} {l : List α} {i j : Nat} {x y : α} (h : (l.set i x)[j]? = some y) : (i = j /\ y = x /\ i < l.length) \/ (i ≠ j /\ l[j]? = some y) := by
 by_cases hij : i = j
 ·subst hij
  have hl := (Og.mp h).1
  rw [Oy] at hl
  rw [OD hl] at h
  exact .inl ⟨rfl, (Oc h).symm, hl⟩
 ·rw [Oq hij] at h
  exact .inr ⟨hij, h⟩
theorem RlF.set {A : Hp} {Λ : Nat -> Option Addr} {Φ : Nat -> List Addr} {ρ : Env} {σ : St} {d : D} {v : V} (r : RlF K A Λ Φ ρ σ S H) (i : Nat) (h : Den K S d v) : RlF K A Λ Φ (ρ.set i (.sh d)) (σ.set i (some v)) S H where
 len := by rw [Oy, Oy]; exact r.len
 sub := r.sub
 sh := fun j e hj => by
  rcases dB hj with ⟨rfl, e, hl⟩ | ⟨hij, hj⟩
  ·cases e
   exact ⟨v, OD (by rw [r.len]; exact hl), h⟩
  ·rw [Oq hij]
   exact r.sh j e hj
 ow := fun j o hj => by
  rcases dB hj with ⟨rfl, e, hl⟩ | ⟨hij, hj⟩
  ·cases e
  ·rw [Oq hij]
   exact r.ow j o hj
 dj := fun j k o o' hjk h1 h2 => by
  rcases dB h1 with ⟨rfl, e, hl⟩ | ⟨hij, h1⟩
  ·cases e
  ·rcases dB h2 with ⟨rfl, e, hl⟩ | ⟨hik, h2⟩
   ·cases e
   ·exact r.dj j k o o' hjk h1 h2
 lo := fun j hj => by
  rcases dB hj with ⟨rfl, e, hl⟩ | ⟨hij, hj⟩
  ·cases e
  ·rw [Oq hij]
   exact r.lo j hj
 asub := r.asub
 adis := r.adis
theorem RlA.set {A : Hp} {Λ : Nat -> Option Addr} {ρ : Env} {σ : St} {d : D} {v : V} (r : RlA K A Λ ρ σ S H) (i : Nat) (h : Den K S d v) : RlA K A Λ (ρ.set i (.sh d)) (σ.set i (some v)) S H := let ⟨Φ, f⟩ := r; ⟨Φ, f.set i h⟩
theorem RlF.put {A : Hp} {Λ : Nat -> Option Addr} {Φ : Nat -> List Addr} {ρ : Env} {σ : St} {o : O} {v : V} {fp : List Addr} (r : RlF K A Λ Φ ρ σ S H) (i : Nat) (sub : Same S H') (asub : Same A H') (ow : Own K S H' o v fp) (nd : fp.Nodup) (n : ∀ b ∈ fp, S b = none /\ A b = none)
  (keep : ∀ (j : Nat) o', j ≠ i -> ρ[j]? = some (.ow o') -> ∀ b ∈ Φ j, H' b = H b /\ b ∉ fp) : RlF K A Λ (fun j => if j = i then fp else Φ j) (ρ.set i (.ow o)) (σ.set i (some v)) S H' where
 len := by rw [Oy, Oy]; exact r.len
 sub := sub
 sh := fun j e hj => by
  rcases dB hj with ⟨rfl, e, hl⟩ | ⟨hij, hj⟩
  ·cases e
  ·rw [Oq hij]
   exact r.sh j e hj
 ow := fun j o' hj => by
  rcases dB hj with ⟨rfl, e, hl⟩ | ⟨hij, hj⟩
  ·cases e
   rw [NF rfl]
   exact ⟨v, OD (by rw [r.len]; exact hl), ow, nd, n⟩
  ·rw [Oq hij, NG (Oe hij)]
   obtain ⟨w, h1, h2, h3, h4⟩ := r.ow j o' hj
   exact ⟨w, h1, h2.mono (Same.refl _) fun b hb => (keep j o' (Oe hij) hj b hb).1, h3, h4⟩
 dj := fun j k o1 o2 hjk h1 h2 b hb hb2 => by
  rcases dB h1 with ⟨rfl, e, hl⟩ | ⟨hij, h1⟩
  ·rcases dB h2 with ⟨rfl, e, hl⟩ | ⟨hik, h2⟩
   ·exact hjk rfl
   ·rw [NF rfl] at hb
    rw [NG (Oe hik)] at hb2
    exact (keep k o2 (Oe hik) h2 b hb2).2 hb
  ·rcases dB h2 with ⟨rfl, e, hl⟩ | ⟨hik, h2⟩
   ·rw [NF rfl] at hb2
    rw [NG (Oe hij)] at hb
    exact (keep j o1 (Oe hij) h1 b hb).2 hb2
   ·rw [NG (Oe hij)] at hb
    rw [NG (Oe hik)] at hb2
    exact r.dj j k o1 o2 hjk h1 h2 b hb hb2
 lo := fun j hj => by
  rcases dB hj with ⟨rfl, e, hl⟩ | ⟨hij, hj⟩
  ·cases e
  ·rw [Oq hij]
   exact r.lo j hj
 asub := asub
 adis := r.adis
theorem FR {α : Type} {l : List α} {i : Nat} {x : α} (h : l[i]? = some x) : l.set i x = l := by
 apply List.ext_getElem?
 intro j
 by_cases e : i = j
 ·subst e
  rw [OD (Og.mp h).1, h]
 ·rw [Oq e]
noncomputable def frz (i : Nat) (ρ : Env) : Env := match ρ[i]? with | some (.ow o) => ρ.set i (.sh o.d) | _ => ρ
theorem RlA.frz {A : Hp} {Λ : Nat -> Option Addr} {ρ : Env} {σ : St} (r : RlA K A Λ ρ σ S H) (i : Nat) : ∃ S', Same S S' /\ RlA K A Λ (frz i ρ) σ S' H := by
 unfold M.frz
 cases q : ρ[i]? with
 | none => exact ⟨S, Same.refl _, r⟩
 | some s =>
  cases s with
  | un => exact ⟨S, Same.refl _, r⟩
  | lo => exact ⟨S, Same.refl _, r⟩
  | sh d => exact ⟨S, Same.refl _, r⟩
  | ow o =>
   dsimp only
   obtain ⟨Φ, f⟩ := r
   obtain ⟨v, h1, h2, h3, h4⟩ := f.ow i o q
   have s2 : Same S (zN S H (Φ i)) := n9 fun b hb => (h4 b hb).1
   have hd : Den K (zN S H (Φ i)) o.d v := h2.den s2 fun b hb => vm hb
   refine ⟨_, s2, Φ, ?_⟩
   exact {
    len := by rw [Oy]; exact f.len
    sub := AI f.sub
    sh := fun j d hj => by
     rcases dB hj with ⟨rfl, e, hl⟩ | ⟨hij, hj⟩
     ·cases e
      exact ⟨v, h1, hd⟩
     ·obtain ⟨w, k1, k2⟩ := f.sh j d hj
      exact ⟨w, k1, k2.mono s2⟩
    ow := fun j o' hj => by
     rcases dB hj with ⟨rfl, e, hl⟩ | ⟨hij, hj⟩
     ·cases e
     ·obtain ⟨w, k1, k2, k3, k4⟩ := f.ow j o' hj
      exact ⟨w, k1, k2.mono s2 fun _ _ => rfl, k3, fun b hb => ⟨by rw [nQ fun hi => f.dj i j o o' hij q hj b hi hb]; exact (k4 b hb).1, (k4 b hb).2⟩⟩
    dj := fun j k o1 o2 hjk g1 g2 => by
     rcases dB g1 with ⟨rfl, e, hl⟩ | ⟨hij, g1⟩
     ·cases e
     ·rcases dB g2 with ⟨rfl, e, hl⟩ | ⟨hik, g2⟩
      ·cases e
      ·exact f.dj j k o1 o2 hjk g1 g2
    lo := fun j hj => by
     rcases dB hj with ⟨rfl, e, hl⟩ | ⟨hij, hj⟩
     ·cases e
     ·exact f.lo j hj
    asub := f.asub
    adis := fun b => by
     by_cases hb : b ∈ Φ i
     ·exact .inr (h4 b hb).2
     ·rw [nQ hb]; exact f.adis b }
@[simp] noncomputable def HP (i : Nat) (m : XS) : XS := fun ρ => m (frz i ρ)
theorem Fd {t : TS} {m : XS} (i : Nat) (h : SS K t m) : SS K t (HP i m) := fun A Λ ρ σ S H E o r x k => by
 obtain ⟨S', s, r'⟩ := r.frz i
 exact h A Λ _ σ S' H E o r' x (k.mono s)
noncomputable abbrev XG := D -> Env -> Option Env
noncomputable abbrev XGs := List D -> Env -> Option Env
def SG (K : W.Frag) (g : TG) (x : XG) : Prop := ∀ A Λ ρ σ S H v d (Q : St -> Hp -> Prop) ρ', RlA K A Λ ρ σ S H -> Den K S d v -> x d ρ = some ρ' -> (∀ σ', RlA K A Λ ρ' σ' S H -> Q σ' H) -> g v σ H Q
def SGs (K : W.Frag) (g : TGs) (x : XGs) : Prop := ∀ A Λ ρ σ S H vs ds (Q : St -> Hp -> Prop) ρ', RlA K A Λ ρ σ S H -> Dens K S ds vs -> x ds ρ = some ρ' -> (∀ σ', RlA K A Λ ρ' σ' S H -> Q σ' H) -> g vs σ H Q
@[simp] noncomputable def ag (i : Nat) : XG := fun d ρ => some (ρ.set i (.sh d))
noncomputable def bV : XGs := fun ds ρ => match ds with | [] => some ρ | _ => none
noncomputable def au (x : XG) (y : XGs) : XGs := fun ds ρ => match ds with | d :: r => (x d ρ).bind (y r) | [] => none
noncomputable def b9 (y : XGs) : XG := fun d ρ => match d with | .tup l => y l ρ | _ => none
theorem az (i : Nat) : SG K (nK i) (ag i) := fun A Λ ρ σ S H v d Q ρ' r dv x k => by cases x; exact k _ (r.set i dv)
theorem jh : SGs K JD bV := fun A Λ ρ σ S H vs ds Q ρ' r dv x k => by
 cases ds with
 | nil => cases x; exact ⟨dv.nil_of, k σ r⟩
 | cons _ _ => cases x
theorem a7 {g : TG} {gs : TGs} {x : XG} {y : XGs} (h : SG K g x) (hs : SGs K gs y) : SGs K (G3 g gs) (au x y) := fun A Λ ρ σ S H vs ds Q ρ' r dv e k => by
 cases ds with
 | nil => cases e
 | cons d ds =>
  obtain ⟨v, vs, rfl, h1, h2⟩ := dv.cons_of
  have e' : (x d ρ).bind (y ds) = some ρ' := e
  cases q : x d ρ with
  | none => rw [q] at e'; cases e'
  | some ρ1 =>
   rw [q] at e'
   exact ⟨v, vs, rfl, h A Λ ρ σ S H v d _ ρ1 r h1 q fun σ1 r1 => hs A Λ ρ1 σ1 S H vs ds Q ρ' r1 h2 e' k⟩
def Dc (y : XGs) (n : Nat) : Prop := ∀ ds ρ ρ', y ds ρ = some ρ' -> ds.length = n
theorem fw : Dc bV 0 := fun ds ρ ρ' e => by cases ds with | nil => rfl | cons _ _ => cases e
theorem aK {x : XG} {y : XGs} {n : Nat} (h : Dc y n) : Dc (au x y) (n + 1) := fun ds ρ ρ' e => by
 cases ds with
 | nil => cases e
 | cons d ds =>
  have e' : (x d ρ).bind (y ds) = some ρ' := e
  cases q : x d ρ with
  | none => rw [q] at e'; cases e'
  | some ρ1 => rw [q] at e'; rw [NV, h ds ρ1 ρ' e']
theorem je {gs : TGs} {y : XGs} {n : Nat} (hs : SGs K gs y) (hl : Dc y n) : SG K (JN K n gs) (b9 y) := fun A Λ ρ σ S H v d Q ρ' r dv e k => by
 cases d with
 | tup l =>
  obtain ⟨p, xs, rfl, h1, h2⟩ := kj dv
  exact ⟨p, xs, rfl, cV r.sub h1, by rw [<- h2.length]; exact hl l ρ ρ' e, hs A Λ ρ σ S H xs l Q ρ' r h2 e k⟩
 | _ => cases e
@[simp] noncomputable def dt (e : XE) (g : XG) : XS := fun ρ => (e ρ).bind fun d => (g d ρ).map .nx
theorem df {te : TE} {g : TG} {e : XE} {x : XG} (h : SE K te e) (hg : SG K g x) : SS K (A6 te g) (dt e x) := fun A Λ ρ σ S H E o r y k => by
 unfold dt at y
 cases q : e ρ with
 | none => rw [q] at y; cases y
 | some d =>
  rw [q] at y
  dsimp only [Option.bind] at y
  cases q2 : x d ρ with
  | none => rw [q2] at y; cases y
  | some ρ' =>
   rw [q2] at y
   cases y
   exact h ρ σ S H _ d r.toRl q fun v S1 H1 z1 d1 => hg A Λ ρ σ S1 H1 v d _ ρ' (r.ext z1) d1 q2 fun σ' r' => k σ' S1 H1 r' z1.sh
@[simp] noncomputable def Gk (e : Env -> Option O) (i : Nat) : XS := fun ρ => (e ρ).map fun o => .nx (ρ.set i (.ow o))
theorem JP {te : TE} {e : Env -> Option O} {i : Nat} (h : STr K te e) : SS K (A6 te (nK i)) (Gk e i) := fun A Λ ρ σ S H E o r y k => by
 unfold Gk at y
 cases q : e ρ with
 | none => rw [q] at y; cases y
 | some ot =>
  rw [q] at y
  cases y
  obtain ⟨Φ, f⟩ := r
  refine h ρ σ S H _ ot ⟨A, Λ, Φ, f⟩ q fun v fp S1 H1 z1 o1 nd n => ?_
  have r1 := f.ext z1
  refine k _ S1 H1 ⟨_, r1.put (H' := H1) i r1.sub r1.asub o1 nd (fun b hb => ⟨(n b hb).2, f.asub.free (n b hb).1⟩) fun j o' hj e1 b hb => ⟨rfl, fun hf => ?_⟩⟩ z1.sh
  obtain ⟨w, _, k2, _, _⟩ := f.ow j o' e1
  exact k2.there b hb (n b hf).1
@[simp] noncomputable def t0 (e : XA) (i : Nat) : XS := Gk (xLT e) i
theorem pz {te : TE} {e : XA} {i : Nat} (h : SF K te e) : SS K (A6 te (nK i)) (t0 e i) := JP h.t
noncomputable def fD : O -> List Int -> Option O
 | o, [] => some o
 | .lst l, k :: r => (atI l k).bind fun o => fD o r
 | .tup l, k :: r => (atI l k).bind fun o => fD o r
 | .sh _, _ :: _ => none
 | .dic _, _ :: _ => none
noncomputable def vG (l : List O) (k : Int) (f : O -> O) : List O := match ixN l.length k with
 | some j => (match l[j]? with | some o => l.set j (f o) | none => l)
 | none => l
noncomputable def lv : O -> List Int -> O -> O
 | _, [], q => q
 | .lst l, k :: r, q => .lst (vG l k fun o => lv o r q)
 | .tup l, k :: r, q => .tup (vG l k fun o => lv o r q)
 | .sh d, _ :: _, _ => .sh d
 | .dic d, _ :: _, _ => .dic d
noncomputable def WalkV (H : Hp) : V -> List Int -> V -> Prop
 | v, [], w => v = w
 | v, k :: r, w => ∃ a xs u, v = .ref a /\ (H a = some (.lst xs) \/ H a = some (.tup xs)) /\ atI xs k = some u /\ WalkV H u r w
theorem WalkV.mono (s : Same H H') : ∀ {p : List Int} {v w : V}, WalkV H v p w -> WalkV H' v p w
 | [], _, _, h => h
 | _ :: _, _, _, ⟨a, xs, u, e, h, k, m⟩ => ⟨a, xs, u, e, h.elim (fun z => .inl (s _ _ z)) (fun z => .inr (s _ _ z)), k, m.mono s⟩
theorem WalkV.uniq : ∀ {p : List Int} {v w w' : V}, WalkV H v p w -> WalkV H v p w' -> w = w'
 | [], _, _, _, h, k => h.symm.trans k
 | _ :: _, _, _, _, hpt0, hpt1 => by
  obtain ⟨a, xs, u, e, h, k, m⟩ := hpt0
  obtain ⟨a', xs', u', e', h', k', m'⟩ := hpt1
  rw [e] at e'
  cases e'
  have : xs = xs' := by
   rcases h with h | h <;> rcases h' with h' | h' <;> rw [h] at h' <;> cases h' <;> rfl
  subst this
  rw [k] at k'
  cases k'
  exact m.uniq m'
theorem WalkV.snoc : ∀ {p : List Int} {v w u : V} {k : Int} {a : Addr} {xs : List V}, WalkV H v p w -> w = .ref a -> (H a = some (.lst xs) \/ H a = some (.tup xs)) -> atI xs k = some u -> WalkV H v (p ++ [k]) u
 | [], _, _, u, k, a, xs, h, e, h1, h2 => ⟨a, xs, u, h.trans e, h1, h2, rfl⟩
 | _ :: _, _, _, _, _, _, _, ⟨b, ys, u', e, h, k, m⟩, e', h1, h2 => ⟨b, ys, u', e, h, k, m.snoc e' h1 h2⟩
theorem tL : ∀ {p : List Int} {o q : O} {k : Int}, fD o (p ++ [k]) = some q -> ∃ q0, fD o p = some q0 /\ fD q0 [k] = some q
 | [], o, q, k, h => ⟨o, by unfold fD; rfl, h⟩
 | j :: p, o, q, k, h => by
  cases o with
  | sh d => cases h
  | dic _ => cases h
  | lst l =>
   have h' : (atI l j).bind (fun o => fD o (p ++ [k])) = some q := h
   cases e : atI l j with
   | none => rw [e] at h'; cases h'
   | some o1 =>
    rw [e] at h'
    obtain ⟨q0, a, b⟩ := tL (p := p) h'
    exact ⟨q0, by show (atI l j).bind (fun o => fD o p) = some q0; rw [e]; exact a, b⟩
  | tup l =>
   have h' : (atI l j).bind (fun o => fD o (p ++ [k])) = some q := h
   cases e : atI l j with
   | none => rw [e] at h'; cases h'
   | some o1 =>
    rw [e] at h'
    obtain ⟨q0, a, b⟩ := tL (p := p) h'
    exact ⟨q0, by show (atI l j).bind (fun o => fD o p) = some q0; rw [e]; exact a, b⟩
theorem Owns.split : ∀ {l : List O} {xs : List V} {f : List Addr} {j : Nat} {o : O}, Owns K S H l xs f -> l[j]? = some o -> ∃ x f1 f2 f3, xs[j]? = some x /\ f = f1 ++ (f2 ++ f3) /\ Own K S H o x f2 /\
  ∀ H' o' f2', Own K S H' o' x f2' -> (∀ b ∈ f1, H' b = H b) -> (∀ b ∈ f3, H' b = H b) -> Owns K S H' (l.set j o') xs (f1 ++ (f2' ++ f3))
 | [], _, _, _, _, _, e => by simp at e
 | o0 :: l, _, _, 0, o, h, e => by
  obtain ⟨y, ys, f, g, rfl, rfl, a, b⟩ := h.cons_of
  simp at e; subst e
  exact ⟨y, [], f, g, rfl, rfl, a, fun H' o' f2' h1 _ h3 => Owns.cons (f := f2') h1 (b.mono (Same.refl _) h3)⟩
 | o0 :: l, _, _, j + 1, o, h, e => by
  obtain ⟨y, ys, f, g, rfl, rfl, a, b⟩ := h.cons_of
  obtain ⟨x, f1, f2, f3, e1, rfl, h1, h2⟩ := b.split (j := j) (by simpa using e)
  refine ⟨x, f ++ f1, f2, f3, by simpa using e1, by rw [N9], h1, fun H' o' f2' k1 k2 k3 => ?_⟩
  rw [N9]
  exact .cons (a.mono (Same.refl _) fun b hb => k2 b (NR _ hb)) (h2 H' o' f2' k1 (fun b hb => k2 b (NP _ hb)) k3)
theorem Ch {α : Type} {l : List α} {k : Int} {x : α} (h : atI l k = some x) : ∃ j, ixN l.length k = some j /\ l[j]? = some x := by
 unfold atI at h
 cases q : ixN l.length k with
 | none => rw [q] at h; cases h
 | some j => rw [q] at h; exact ⟨j, rfl, h⟩
theorem FD : ∀ {p : List Int} {o q : O} {v : V} {fp : List Addr}, Own K S H o v fp -> fp.Nodup -> fD o p = some q -> ∃ w fq, Own K S H q w fq /\ WalkV H v p w /\ (∀ b ∈ fq, b ∈ fp) /\ fq.Nodup /\
  ∀ H' q' fq', Own K S H' q' w fq' -> fq'.Nodup -> (∀ b ∈ fp, b ∉ fq -> H' b = H b) -> (∀ b ∈ fq', b ∈ fp -> b ∈ fq) -> ∃ fp', Own K S H' (lv o p q') v fp' /\ fp'.Nodup /\ ∀ b ∈ fp', b ∈ fp \/ b ∈ fq'
 | [], o, q, v, fp, h, nd, e => by
  have e' : some o = some q := by unfold fD at e; exact e
  cases e'
  exact ⟨v, fp, h, rfl, fun b hb => hb, nd, fun H' q' fq' h1 n1 _ _ => ⟨fq', by unfold lv; exact h1, n1, fun b hb => .inr hb⟩⟩
 | k :: r, o, q, v, fp, h, nd, e => by
  have body : ∀ (l : List O) (a : Addr) (xs : List V) (f : List Addr), v = .ref a -> fp = a :: f -> (H a = some (.lst xs) \/ H a = some (.tup xs)) -> Owns K S H l xs f -> ((atI l k).bind fun o => fD o r) = some q ->
    ∃ w fq, Own K S H q w fq /\ WalkV H v (k :: r) w /\ (∀ b ∈ fq, b ∈ fp) /\ fq.Nodup /\ ∀ H' q' fq', Own K S H' q' w fq' -> fq'.Nodup -> (∀ b ∈ fp, b ∉ fq -> H' b = H b) -> (∀ b ∈ fq', b ∈ fp -> b ∈ fq) ->
     ∃ f', Owns K S H' (vG l k fun o => lv o r q') xs f' /\ H' a = H a /\ (a :: f').Nodup /\ ∀ b ∈ a :: f', b ∈ fp \/ b ∈ fq' := by
   rintro l a xs f rfl rfl ha hl hs
   obtain ⟨na, nf⟩ := Oo.mp nd
   cases qa : atI l k with
   | none => rw [qa] at hs; cases hs
   | some o1 =>
    rw [qa] at hs
    obtain ⟨j, ej, el⟩ := Ch qa
    obtain ⟨x, f1, f2, f3, ex, rfl, h1, h2⟩ := hl.split el
    obtain ⟨n1, n23, d1⟩ := OI.mp nf
    obtain ⟨n2, n3, d2⟩ := OI.mp n23
    obtain ⟨w, fq, k1, k2, k3, k4, k5⟩ := FD (p := r) h1 n2 hs
    have ax : atI xs k = some x := by unfold atI; rw [<- hl.length, ej]; exact ex
    refine ⟨w, fq, k1, ⟨a, xs, x, rfl, ha, ax, k2⟩, fun b hb => NN _ (NP _ (NR _ (k3 b hb))), k4, fun H' q' fq' g1 g2 g3 g4 => ?_⟩
    have in2 : ∀ b ∈ fq, b ∈ f2 := k3
    have a1 : ∀ b ∈ f1, b ∉ fq := fun b hb hq => d1 b hb b (NR _ (in2 b hq)) rfl
    have a3 : ∀ b ∈ f3, b ∉ fq := fun b hb hq => d2 b (in2 b hq) b hb rfl
    have aa : a ∉ fq := fun hq => na (NP _ (NR _ (in2 a hq)))
    obtain ⟨f2', m1, m2, m3⟩ := k5 H' q' fq' g1 g2 (fun b hb hn => g3 b (NN _ (NP _ (NR _ hb))) hn) fun b hb hp => g4 b hb (NN _ (NP _ (NR _ hp)))
    have out : ∀ b ∈ f2', b ∉ f1 /\ b ∉ f3 /\ b ≠ a := fun b hb => by
     rcases m3 b hb with hb | hb
     ·exact ⟨fun z => d1 b z b (NR _ hb) rfl, fun z => d2 b hb b z rfl, fun z => na (z ▸ NP _ (NR _ hb))⟩
     ·refine ⟨fun z => a1 b z (g4 b hb (NN _ (NR _ z))), fun z => a3 b z (g4 b hb (NN _ (NP _ (NP _ z)))), fun z => ?_⟩
      subst z
      exact aa (g4 b hb NL)
    refine ⟨f1 ++ (f2' ++ f3), ?_, g3 a NL aa, ?_, fun b hb => ?_⟩
    ·unfold vG
     rw [ej]
     dsimp only
     rw [el]
     exact h2 H' _ f2' m1 (fun b hb => g3 b (NN _ (NR _ hb)) (a1 b hb)) fun b hb => g3 b (NN _ (NP _ (NP _ hb))) (a3 b hb)
    ·refine Oo.mpr ⟨fun z => ?_, OI.mpr ⟨n1, OI.mpr ⟨m2, n3, fun b hb c hc e => (out b hb).2.1 (e ▸ hc)⟩, fun b hb c hc e => ?_⟩⟩
     ·rcases NM.mp z with z | z
      ·exact na (NR _ z)
      ·rcases NM.mp z with z | z
       ·exact (out a z).2.2 rfl
       ·exact na (NP _ (NP _ z))
     ·subst e
      rcases NM.mp hc with hc | hc
      ·exact (out b hc).1 hb
      ·exact d1 b hb b (NP _ hc) rfl
    ·rcases NQ.mp hb with rfl | hb
     ·exact .inl NL
     ·rcases NM.mp hb with hb | hb
      ·exact .inl (NN _ (NR _ hb))
      ·rcases NM.mp hb with hb | hb
       ·exact (m3 b hb).imp (fun z => NN _ (NP _ (NR _ z))) id
       ·exact .inl (NN _ (NP _ (NP _ hb)))
  cases o with
  | sh d => cases e
  | dic _ => cases e
  | lst l =>
   obtain ⟨a, xs, f, e1, e2, h1, h2⟩ := own_lst.mp h
   obtain ⟨w, fq, k1, k2, k3, k4, k5⟩ := body l a xs f e1 e2 (.inl h1) h2 e
   refine ⟨w, fq, k1, k2, k3, k4, fun H' q' fq' g1 g2 g3 g4 => ?_⟩
   obtain ⟨f', m1, m2, m3, m4⟩ := k5 H' q' fq' g1 g2 g3 g4
   exact ⟨a :: f', by unfold lv; exact own_lst.mpr ⟨a, xs, f', e1, rfl, by rw [m2]; exact h1, m1⟩, m3, m4⟩
  | tup l =>
   obtain ⟨a, xs, f, e1, e2, h1, h2⟩ := own_tup.mp h
   obtain ⟨w, fq, k1, k2, k3, k4, k5⟩ := body l a xs f e1 e2 (.inr h1) h2 e
   refine ⟨w, fq, k1, k2, k3, k4, fun H' q' fq' g1 g2 g3 g4 => ?_⟩
   obtain ⟨f', m1, m2, m3, m4⟩ := k5 H' q' fq' g1 g2 g3 g4
   exact ⟨a :: f', by unfold lv; exact own_tup.mpr ⟨a, xs, f', e1, rfl, by rw [m2]; exact h1, m1⟩, m3, m4⟩
noncomputable abbrev XP := Env -> Option (List Int)
def BV (K : W.Frag) (to : TE) (i : Nat) (p : XP) : Prop := ∀ ρ σ S H (Q : VK) is o q, Rl K ρ σ S H -> ρ[i]? = some (.ow o) -> p ρ = some is -> fD o is = some q -> (∀ v w S' H', σ[i]? = some (some v) -> Ext S H S' H' -> WalkV H' v is w -> Q w H') -> to σ H Q
@[simp] noncomputable def xPv : XP := fun _ => some []
theorem kZ (i : Nat) : BV K (ut i) i xPv := fun ρ σ S H Q is o q r h1 h2 h3 k => by
 cases h2
 obtain ⟨v, fp, e, _⟩ := r.ow i o h1
 exact ⟨v, e, k v v S H e (Ext.refl r.sub) rfl⟩
@[simp] noncomputable def xPi (p : XP) (ix : XE) : XP := fun ρ => (p ρ).bind fun is => (ix ρ).bind fun d => match d with | .int k => some (is ++ [k]) | _ => none
theorem z7 {to ti : TE} {i : Nat} {p : XP} {ix : XE} (hp : BV K to i p) (hi : SPk K ti ix) : BV K (tOp (rIx K) to ti) i (xPi p ix) := fun ρ σ S H Q is o q r h1 h2 h3 k => by
 unfold xPi at h2
 cases e1 : p ρ with
 | none => rw [e1] at h2; cases h2
 | some js =>
  rw [e1] at h2
  dsimp only [Option.bind] at h2
  cases e2 : ix ρ with
  | none => rw [e2] at h2; cases h2
  | some d =>
   rw [e2] at h2
   cases d with
   | int kk =>
    cases h2
    obtain ⟨q0, s1, s2⟩ := tL h3
    refine hp ρ σ S H _ js o q0 r h1 e1 s1 fun v w S1 H1 ev z1 wk => ?_
    have r1 := r.ext z1
    refine hi ρ σ S1 H1 _ _ r1 e2 fun u S2 H2 z2 d2 => ?_
    have r2 := r1.ext z2
    obtain ⟨v', fp, ev', ow, nd, _⟩ := r2.ow i o h1
    rw [ev] at ev'
    cases ev'
    obtain ⟨w', fq, k1, k2, _⟩ := FD ow nd s1
    have ew := k2.uniq (wk.mono (z2.same r1.sub))
    subst ew
    rw [d2.int]
    cases q0 with
    | sh _ => cases s2
    | dic _ => cases s2
    | lst l =>
     have s2' : (atI l kk).bind (fun o => fD o []) = some q := s2
     cases e3 : atI l kk with
     | none => rw [e3] at s2'; cases s2'
     | some o1 =>
      obtain ⟨a, xs, f, rfl, rfl, hx, hl⟩ := own_lst.mp k1
      obtain ⟨j, ej, el⟩ := Ch e3
      obtain ⟨x, _, _, _, ex, _⟩ := hl.split el
      have ax : atI xs kk = some x := by unfold atI; rw [<- hl.length, ej]; exact ex
      exact .inl ⟨a, xs, kk, x, rfl, rfl, SqL.of hx, ax, k v x S2 H2 ev (z1.trans z2) (k2.snoc rfl (.inl hx) ax)⟩
    | tup l =>
     have s2' : (atI l kk).bind (fun o => fD o []) = some q := s2
     cases e3 : atI l kk with
     | none => rw [e3] at s2'; cases s2'
     | some o1 =>
      obtain ⟨a, xs, f, rfl, rfl, hx, hl⟩ := own_tup.mp k1
      obtain ⟨j, ej, el⟩ := Ch e3
      obtain ⟨x, _, _, _, ex, _⟩ := hl.split el
      have ax : atI xs kk = some x := by unfold atI; rw [<- hl.length, ej]; exact ex
      exact .inr (.inl ⟨a, xs, kk, x, rfl, rfl, SqT.of hx, ax, k v x S2 H2 ev (z1.trans z2) (k2.snoc rfl (.inr hx) ax)⟩)
   | _ => cases h2
theorem RlF.at {A : Hp} {Λ : Nat -> Option Addr} {Φ : Nat -> List Addr} {ρ : Env} {σ : St} {i : Nat} {o : O} {is : List Int} {l : List O} {v w : V} (f : RlF K A Λ Φ ρ σ S H) (h1 : ρ[i]? = some (.ow o)) (h2 : fD o is = some (.lst l)) (ev : σ[i]? = some (some v)) (wk : WalkV H v is w) :
  ∃ a xs f0, w = .ref a /\ H a = some (.lst xs) /\ Owns K S H l xs f0 /\ (a :: f0).Nodup /\ (∀ b ∈ a :: f0, b ∈ Φ i) /\ ∀ l' xs' f', (∀ H', (∀ b, b ≠ a -> H' b = H b) -> Owns K S H' l' xs' f') -> (a :: f').Nodup -> (∀ b ∈ f', b ∈ f0 \/ ((∀ (j : Nat) o', ρ[j]? = some (.ow o') -> b ∉ Φ j) /\ S b = none /\ A b = none)) ->
   RlA K A Λ (ρ.set i (.ow (lv o is (.lst l')))) σ S (upd H a (.lst xs')) := by
 obtain ⟨v', e', ow, nd, n⟩ := f.ow i o h1
 rw [ev] at e'
 cases e'
 obtain ⟨w', fq, k1, k2, k3, k4, k5⟩ := FD ow nd h2
 have ew := k2.uniq wk
 subst ew
 obtain ⟨a, xs, g, rfl, rfl, hx, hl⟩ := own_lst.mp k1
 have ain := k3 a NL
 refine ⟨a, xs, g, rfl, hx, hl, k4, k3, fun l' xs' f' g1 g2 g3 => ?_⟩
 have ne : ∀ b, b ≠ a -> upd H a (.lst xs') b = H b := fun b hb => a6 hb
 obtain ⟨fp', m1, m2, m3⟩ := k5 (upd H a (.lst xs')) (.lst l') (a :: f') (own_lst.mpr ⟨a, xs', f', rfl, rfl, a8, g1 _ ne⟩) g2 (fun b hb hn => ne b fun z => hn (z ▸ NL)) fun b hb hp => by
  rcases NQ.mp hb with rfl | hb
  ·exact NL
  ·rcases g3 b hb with z | ⟨z, _⟩
   ·exact NN _ z
   ·exact absurd hp (z i o h1)
 have sub' : Same S (upd H a (.lst xs')) := fun b u e => by rw [ne b fun z => by subst z; rw [(n b ain).1] at e; cases e]; exact f.sub b u e
 have asub' : Same A (upd H a (.lst xs')) := fun b u e => by rw [ne b fun z => by subst z; rw [(n b ain).2] at e; cases e]; exact f.asub b u e
 have fin := f.put (H' := upd H a (.lst xs')) i sub' asub' m1 m2 (fun b hb => by
  rcases m3 b hb with z | z
  ·exact n b z
  ·rcases NQ.mp z with rfl | z
   ·exact n b ain
   ·rcases g3 b z with z | ⟨_, z⟩
    ·exact n b (k3 b (NN _ z))
    ·exact z) fun j o' hj e1 b hb => by
   have nb : b ∉ Φ i := fun z => f.dj j i o' o hj e1 h1 b hb z
   refine ⟨ne b fun z => nb (z ▸ ain), fun z => ?_⟩
   rcases m3 b z with z | z
   ·exact nb z
   ·rcases NQ.mp z with rfl | z
    ·exact nb ain
    ·rcases g3 b z with z | ⟨z, _⟩
     ·exact nb (k3 b (NN _ z))
     ·exact z j o' e1 hb
 rw [FR ev] at fin
 exact ⟨_, fin⟩
theorem RlF.fresh {A : Hp} {Λ : Nat -> Option Addr} {Φ : Nat -> List Addr} {ρ : Env} {σ : St} {b : Addr} (f : RlF K A Λ Φ ρ σ S H) (h : H b = none) : (∀ (j : Nat) o', ρ[j]? = some (.ow o') -> b ∉ Φ j) /\ S b = none /\ A b = none :=
 ⟨fun j o' e hb => by obtain ⟨_, _, ow, _⟩ := f.ow j o' e; exact ow.there b hb h, f.sub.free h, f.asub.free h⟩
@[simp] noncomputable def o5 (i : Nat) (p : XP) (e : Env -> Option O) : XS := fun ρ => match ρ[i]? with
 | some (.ow o) => (p ρ).bind fun is => (e ρ).bind fun x => match fD o is with
  | some (.lst l) => if l.length < LIM then some (.nx (ρ.set i (.ow (lv o is (.lst (l ++ [x])))))) else none
  | _ => none
 | _ => none
theorem m9 {to te : TE} {i : Nat} {p : XP} {e : Env -> Option O} (hp : BV K to i p) (h : STr K te e) : SS K (yO (tBM K "list" rAppend to (gW te rX))) (o5 i p e) := fun A Λ ρ σ S H E out r y k => by
 unfold o5 at y
 cases q0 : ρ[i]? with
 | none => rw [q0] at y; cases y
 | some s =>
  rw [q0] at y
  cases s with
  | un => cases y
  | lo => cases y
  | sh d => cases y
  | ow o =>
   dsimp only at y
   cases q1 : p ρ with
   | none => rw [q1] at y; cases y
   | some is =>
    rw [q1] at y
    dsimp only [Option.bind] at y
    cases q2 : e ρ with
    | none => rw [q2] at y; cases y
    | some x =>
     rw [q2] at y
     dsimp only at y
     cases q3 : fD o is with
     | none => rw [q3] at y; cases y
     | some qo =>
      rw [q3] at y
      cases qo with
      | sh _ => cases y
      | dic _ => cases y
      | tup _ => cases y
      | lst l =>
       dsimp only at y
       split at y
       ·rename_i hl
        cases y
        obtain ⟨Φ, f⟩ := r
        refine hp ρ σ S H _ is o _ ⟨A, Λ, Φ, f⟩ q0 q1 q3 fun v w S1 H1 ev z1 wk => ?_
        have f1 := f.ext z1
        obtain ⟨a, xs, g0, rfl, hx, hw, nd0, in0, _⟩ := f1.at q0 q3 ev wk
        refine ⟨.inl ⟨rfl, xs, SqL.of hx⟩, h ρ σ S1 H1 _ x ⟨A, Λ, Φ, f1⟩ q2 fun u fu S2 H2 z2 ou nd n => ?_⟩
        have f2 := f1.ext z2
        obtain ⟨a', xs', g1, e1, hx', hw', nd1, in1, up⟩ := f2.at q0 q3 ev (wk.mono (z2.same f1.sub))
        cases e1
        have fr : ∀ b ∈ fu, (∀ (j : Nat) o', ρ[j]? = some (.ow o') -> b ∉ Φ j) /\ S2 b = none /\ A b = none := fun b hb => ⟨(f1.fresh (n b hb).1).1, (n b hb).2, (f1.fresh (n b hb).1).2.2⟩
        have fa : ∀ b ∈ fu, b ∉ a :: g1 := fun b hb z => (fr b hb).1 i o q0 (in1 b z)
        obtain ⟨na, ng⟩ := Oo.mp nd1
        refine ⟨a, xs', u, rfl, rfl, hx', ?_, ?_⟩
        ·rw [<- hw'.length]; exact Nat.lt_trans hl lG
        ·refine k σ S2 _ (up (l ++ [x]) (xs' ++ [u]) (g1 ++ fu) (fun H' ne => ?_) ?_ fun b hb => ?_) (z1.sh.trans z2.sh)
         ·have := (hw'.mono (H' := H') (Same.refl _) fun b hb => ne b fun z => na (z ▸ hb)).append (.cons (ou.mono (H' := H') (Same.refl _) fun b hb => ne b fun z => fa b hb (z ▸ NL)) .nil)
          rw [Ol] at this
          exact this
         ·refine Oo.mpr ⟨fun z => ?_, OI.mpr ⟨ng, nd, fun b hb c hc e => fa c hc (e ▸ NN _ hb)⟩⟩
          rcases NM.mp z with z | z
          ·exact na z
          ·exact fa a z NL
         ·rcases NM.mp hb with hb | hb
          ·exact .inl hb
          ·exact .inr (fr b hb)
       ·cases y
@[simp] noncomputable def GO (i : Nat) (p : XP) (j : Nat) : XS := fun ρ => match ρ[i]? with
 | some (.ow o) => (p ρ).bind fun is => match fD o is with
  | some (.lst l) => (match l.getLast? with
   | some (.sh d) => some (.nx ((ρ.set i (.ow (lv o is (.lst l.dropLast)))).set j (.sh d)))
   | _ => none)
  | _ => none
 | _ => none
theorem Owns.last : ∀ {l : List O} {xs : List V} {f : List Addr} {d : D}, Owns K S H l xs f -> l.getLast? = some (.sh d) -> ∃ y, xs[xs.length - 1]? = some y /\ Den K S d y /\ Owns K S H l.dropLast xs.dropLast f
 | [], _, _, _, _, e => by simp at e
 | [o], _, _, d, h, e => by
  obtain ⟨y, ys, f, g, rfl, rfl, a, b⟩ := h.cons_of
  obtain ⟨rfl, rfl⟩ := b.nil_of
  simp at e; subst e
  obtain ⟨e1, e2⟩ := own_sh.mp a
  subst e1
  exact ⟨y, rfl, e2, .nil⟩
 | o :: o2 :: l, _, _, d, h, e => by
  obtain ⟨y, ys, f, g, rfl, rfl, a, b⟩ := h.cons_of
  obtain ⟨z, h1, h2, h3⟩ := b.last (by simpa using e)
  have hl := b.length
  obtain ⟨y2, ys2, rfl⟩ : ∃ y2 ys2, ys = y2 :: ys2 := by cases ys with | nil => simp at hl | cons y2 ys2 => exact ⟨_, _, rfl⟩
  refine ⟨z, ?_, h2, ?_⟩
  ·simpa using h1
  ·rw [List.dropLast_cons_cons, List.dropLast_cons_cons]; exact .cons a h3
theorem J6 {to : TE} {i j : Nat} {p : XP} (hp : BV K to i p) : SS K (A6 (Ku K "list" rPop to) (nK j)) (GO i p j) := fun A Λ ρ σ S H E out r y k => by
 unfold GO at y
 cases q0 : ρ[i]? with
 | none => rw [q0] at y; cases y
 | some s =>
  rw [q0] at y
  cases s with
  | un => cases y
  | lo => cases y
  | sh d => cases y
  | ow o =>
   dsimp only at y
   cases q1 : p ρ with
   | none => rw [q1] at y; cases y
   | some is =>
    rw [q1] at y
    dsimp only [Option.bind] at y
    cases q3 : fD o is with
    | none => rw [q3] at y; cases y
    | some qo =>
     rw [q3] at y
     cases qo with
     | sh _ => cases y
     | dic _ => cases y
     | tup _ => cases y
     | lst l =>
      dsimp only at y
      cases q4 : l.getLast? with
      | none => rw [q4] at y; cases y
      | some ol =>
       rw [q4] at y
       cases ol with
       | lst _ => cases y
       | dic _ => cases y
       | tup _ => cases y
       | sh d =>
        cases y
        obtain ⟨Φ, f⟩ := r
        refine hp ρ σ S H _ is o _ ⟨A, Λ, Φ, f⟩ q0 q1 q3 fun v w S1 H1 ev z1 wk => ?_
        have f1 := f.ext z1
        obtain ⟨a, xs, g0, rfl, hx, hw, nd0, in0, up⟩ := f1.at q0 q3 ev wk
        obtain ⟨na, ng⟩ := Oo.mp nd0
        obtain ⟨u, h1, h2, h3⟩ := hw.last q4
        refine ⟨.inl ⟨rfl, xs, SqL.of hx⟩, a, xs, u, rfl, rfl, hx, h1, ?_⟩
        exact k _ S1 _ ((up l.dropLast xs.dropLast g0 (fun H' ne => h3.mono (H' := H') (Same.refl _) fun b hb => ne b fun z => na (z ▸ hb)) nd0 fun b hb => .inl hb).set j h2) z1.sh
@[simp] noncomputable def M6 (i : Nat) (p : XP) : XS := fun ρ => match ρ[i]? with
 | some (.ow o) => (p ρ).bind fun is => match fD o is with
  | some (.lst l) => (match shs l with | some ds => some (.nx (ρ.set i (.ow (lv o is (.lst (ds.reverse.map .sh)))))) | none => none)
  | _ => none
 | _ => none
noncomputable def rExtM : V -> List V -> Hp -> VK -> Prop := fun x vs H Q => ∃ l b xs zs, x = .ref l /\ vs = [.ref b] /\ H l = some (.lst xs) /\ Rd H b (.lst zs) /\ xs.length + zs.length <= sizeLine /\ Q .non (upd H l (.lst (xs ++ zs)))
@[simp] noncomputable def Di (i : Nat) (p : XP) (e : XE) : XS := fun ρ => match ρ[i]? with
 | some (.ow o) => (p ρ).bind fun is => (e ρ).bind fun d => match fD o is, d with
  | some (.lst l), .lst ds => if l.length + ds.length <= LIM then some (.nx (ρ.set i (.ow (lv o is (.lst (l ++ ds.map .sh)))))) else none
  | _, _ => none
 | _ => none
theorem FT {to te : TE} {i : Nat} {p : XP} {e : XE} (hp : BV K to i p) (h : SE K te e) : SS K (yO (tBM K "list" rExtM to (gW te rX))) (Di i p e) := fun A Λ ρ σ S H E out r y k => by
 unfold Di at y
 cases q0 : ρ[i]? with
 | none => rw [q0] at y; cases y
 | some s =>
  rw [q0] at y
  cases s with
  | un => cases y
  | lo => cases y
  | sh d => cases y
  | ow o =>
   dsimp only at y
   cases q1 : p ρ with
   | none => rw [q1] at y; cases y
   | some is =>
    rw [q1] at y
    dsimp only [Option.bind] at y
    cases q2 : e ρ with
    | none => rw [q2] at y; cases y
    | some dd =>
     rw [q2] at y
     dsimp only at y
     cases q3 : fD o is with
     | none => rw [q3] at y; cases y
     | some qo =>
      rw [q3] at y
      cases qo with
      | sh _ => cases y
      | dic _ => cases y
      | tup _ => cases y
      | lst l =>
       cases dd with
       | lst ds =>
        dsimp only at y
        split at y
        ·rename_i hl
         cases y
         obtain ⟨Φ, f⟩ := r
         refine hp ρ σ S H _ is o _ ⟨A, Λ, Φ, f⟩ q0 q1 q3 fun v w S1 H1 ev z1 wk => ?_
         have f1 := f.ext z1
         obtain ⟨a, xs, g0, rfl, hx, hw, nd0, in0, _⟩ := f1.at q0 q3 ev wk
         refine ⟨.inl ⟨rfl, xs, SqL.of hx⟩, h ρ σ S1 H1 _ _ ⟨A, Λ, Φ, f1⟩ q2 fun u S2 H2 z2 d2 => ?_⟩
         have f2 := f1.ext z2
         obtain ⟨a', xs', g1, e1, hx', hw', nd1, in1, up⟩ := f2.at q0 q3 ev (wk.mono (z2.same f1.sub))
         cases e1
         obtain ⟨b, zs, rfl, hb, dz⟩ := den_lst.mp d2
         obtain ⟨na, ng⟩ := Oo.mp nd1
         refine ⟨a, b, xs', zs, rfl, rfl, hx', eJ z2.sub hb, ?_, ?_⟩
         ·rw [<- hw'.length, <- dz.length]; exact Om (Ow hl lG)
         ·refine k σ S2 _ (up (l ++ ds.map .sh) (xs' ++ zs) g1 (fun H' ne => ?_) nd1 fun b hb => .inl hb) (z1.sh.trans z2.sh)
          have := (hw'.mono (H' := H') (Same.refl _) fun b hb => ne b fun z => na (z ▸ hb)).append (u7 (H := H') dz)
          rw [Ol] at this
          exact this
        ·cases y
       | _ => cases y
@[simp] noncomputable def Ds (i : Nat) (p : XP) (ix e : XE) : XS := fun ρ => (e ρ).bind fun d => match ρ[i]? with
 | some (.ow o) => (p ρ).bind fun is => (ix ρ).bind fun k => match fD o is, k with
  | some (.lst l), .int k => (match shs l with | some ds => (ixN ds.length k).map fun j => .nx (ρ.set i (.ow (lv o is (.lst ((ds.set j d).map .sh))))) | none => none)
  | _, _ => none
 | _ => none
theorem Hg {to te ti : TE} {i : Nat} {p : XP} {e ix : XE} (h : SE K te e) (hp : BV K to i p) (hi : SPk K ti ix) : SS K (A6 te (KS to ti Jb)) (Ds i p ix e) := fun A Λ ρ σ S H E out r y k => by
 unfold Ds at y
 cases q : e ρ with
 | none => rw [q] at y; cases y
 | some d =>
  rw [q] at y
  dsimp only [Option.bind] at y
  cases q0 : ρ[i]? with
  | none => rw [q0] at y; cases y
  | some s =>
   rw [q0] at y
   cases s with
   | un => cases y
   | lo => cases y
   | sh d => cases y
   | ow o =>
    dsimp only at y
    cases q1 : p ρ with
    | none => rw [q1] at y; cases y
    | some is =>
     rw [q1] at y
     dsimp only at y
     cases q2 : ix ρ with
     | none => rw [q2] at y; cases y
     | some dk =>
      rw [q2] at y
      dsimp only at y
      cases q3 : fD o is with
      | none => rw [q3] at y; cases y
      | some qo =>
       rw [q3] at y
       cases qo with
       | sh _ => cases y
       | dic _ => cases y
       | tup _ => cases y
       | lst l =>
        cases dk with
        | int kk =>
         dsimp only at y
         cases q4 : shs l with
         | none => rw [q4] at y; cases y
         | some ds =>
          rw [q4] at y
          dsimp only at y
          cases q5 : ixN ds.length kk with
          | none => rw [q5] at y; cases y
          | some j =>
           rw [q5] at y
           cases y
           have ed := BE q4
           subst ed
           obtain ⟨Φ, f⟩ := r
           refine h ρ σ S H _ d ⟨A, Λ, Φ, f⟩ q fun u S0 H0 z0 d0 => ?_
           have f0 := f.ext z0
           refine hp ρ σ S0 H0 _ is o _ ⟨A, Λ, Φ, f0⟩ q0 q1 q3 fun v w S1 H1 ev z1 wk => ?_
           have f1 := f0.ext z1
           refine hi ρ σ S1 H1 _ _ ⟨A, Λ, Φ, f1⟩ q2 fun w2 S2 H2 z2 d2 => ?_
           have f2 := f1.ext z2
           obtain ⟨a', xs', g1, rfl, hx', hw', nd1, in1, up⟩ := f2.at q0 q3 ev (wk.mono (z2.same f1.sub))
           obtain ⟨hd, rfl⟩ := p9 hw'
           refine ⟨a', xs', kk, j, rfl, d2.int, hx', by rw [<- hd.length]; exact q5, ?_⟩
           exact k σ S2 _ (up ((ds.set j d).map .sh) (xs'.set j u) [] (fun H' ne => u7 (hd.set j ((d0.mono z1.sh).mono z2.sh))) nd1 fun b hb => by cases hb) ((z0.sh.trans z1.sh).trans z2.sh)
        | _ => cases y
@[simp] noncomputable def Jw (i : Nat) (e : XE) (f : D -> D -> Option D) : XS := fun ρ => match ρ[i]? with
 | some (.sh x) => (e ρ).bind fun y => (f x y).map fun z => .nx (ρ.set i (.sh z))
 | _ => none
theorem La {te : TE} {e : XE} {i : Nat} {ti : TIp} {f : D -> D -> Option D} (h : SPk K te e) (hr : SR2 K ti f) : SS K (KP i te ti) (Jw i e f) := fun A Λ ρ σ S H E o r y k => by
 unfold Jw at y
 cases q0 : ρ[i]? with
 | none => rw [q0] at y; cases y
 | some s =>
  rw [q0] at y
  cases s with
  | un => cases y
  | lo => cases y
  | ow d => cases y
  | sh x =>
   dsimp only at y
   cases q : e ρ with
   | none => rw [q] at y; cases y
   | some d =>
    rw [q] at y
    dsimp only [Option.bind] at y
    cases q2 : f x d with
    | none => rw [q2] at y; cases y
    | some g =>
     rw [q2] at y
     cases y
     obtain ⟨v, h1, h2⟩ := r.sh i x q0
     refine ⟨v, h1, h ρ σ S H _ d r.toRl q fun w S1 H1 z1 d1 => ?_⟩
     exact hr S1 H1 v w x d g _ z1.sub (.inl (h2.mono z1.sh)) d1 q2 fun u S2 H2 z2 d2 => k _ S2 H2 ((r.ext (z1.trans z2)).set i d2) (z1.sh.trans z2.sh)
@[simp] noncomputable def MR (e : XE) : XS := fun ρ => (e ρ).map fun _ => .nx ρ
end
section
variable {K : W.Frag} {S S' H H' : Hp}
def Walks (K : W.Frag) (J : It) (S : Hp) (l : List D) : Prop := ∀ S' H', Same S S' -> Same S' H' ->
 (∀ i d, l[i]? = some d -> J.go i H' /\ ∀ x H'', J.yld i H' x H'' -> H'' = H' /\ Den K S' d x) /\ J.stop l.length H'
def SI (K : W.Frag) (wi : TI) (e : XA) : Prop := ∀ ρ σ S H (R : It -> Hp -> Prop) l, Rl K ρ σ S H -> e ρ = some l -> (∀ J S' H', Ext S H S' H' -> Walks K J S' l -> R J H') -> wi σ H R
noncomputable def Ih : D -> Option (List D)
 | .lst l => some l | .tup l => some l | .scr l => some l | _ => none
def Ju (K : W.Frag) (J : It) (S H : Hp) (l : List D) : Prop := ∀ S' H', Ext S H S' H' ->
 (∀ i d, l[i]? = some d -> J.go i H' /\ ∀ x H'', J.yld i H' x H'' -> H'' = H' /\ Den K S' d x) /\ J.stop l.length H'
def SIP (K : W.Frag) (wi : TI) (e : XA) : Prop := ∀ ρ σ S H (R : It -> Hp -> Prop) l, Rl K ρ σ S H -> e ρ = some l -> (∀ J S' H', Ext S H S' H' -> Ju K J S' H' l -> R J H') -> wi σ H R
theorem SI.p {wi : TI} {e : XA} (h : SI K wi e) : SIP K wi e := fun ρ σ S H R l r x k => h ρ σ S H R l r x fun J S' H' z w => k J S' H' z fun S2 H2 z2 => w S2 H2 z2.sh z2.sub
@[simp] noncomputable def xIt (e : XE) : XA := fun ρ => (e ρ).bind Ih
theorem o7 {tl : TE} {e : XE} (h : SE K tl e) : SI K (JA K tl) (xIt e) := fun ρ σ S H R l r x k => by
 unfold xIt at x
 cases q : e ρ with
 | none => rw [q] at x; cases x
 | some d =>
  rw [q] at x
  dsimp only [Option.bind] at x
  refine h ρ σ S H _ d r q fun v S1 H1 z1 d1 => ?_
  cases d with
  | lst l' =>
   cases x
   obtain ⟨p, xs, rfl, h1, h2⟩ := den_lst.mp d1
   refine ⟨p, rfl, .inl ⟨⟨xs, .inl (eJ z1.sub h1)⟩, k _ S1 H1 z1 fun S' H' s1 s2 => ⟨fun i d hd => ?_, xs, .inl (eJ (s1.trans s2) h1), Nat.le_of_eq h2.length.symm⟩⟩⟩
   obtain ⟨y, e1, e2⟩ := h2.get hd
   refine ⟨⟨xs, y, .inl (eJ (s1.trans s2) h1), e1⟩, fun x H'' hy => ⟨hy.1, ?_⟩⟩
   have := hy.2 xs (.inl (eJ (s1.trans s2) h1))
   rw [e1] at this
   cases this
   exact e2.mono s1
  | tup l' =>
   cases x
   obtain ⟨p, xs, rfl, h1, h2⟩ := kj d1
   refine ⟨p, rfl, .inr ⟨⟨xs, cV z1.sub h1⟩, k _ S1 H1 z1 fun S' H' s1 s2 => ⟨fun i d hd => ?_, xs, cV (s1.trans s2) h1, Nat.le_of_eq h2.length.symm⟩⟩⟩
   obtain ⟨y, e1, e2⟩ := h2.get hd
   refine ⟨⟨xs, y, cV (s1.trans s2) h1, e1⟩, fun x H'' hy => ⟨hy.1, ?_⟩⟩
   have := hy.2 xs (cV (s1.trans s2) h1)
   rw [e1] at this
   cases this
   exact e2.mono s1
  | scr l' =>
   cases x
   obtain ⟨p, xs, rfl, h1, h2⟩ := den_scr.mp d1
   refine ⟨p, rfl, .inl ⟨⟨xs, fE z1.sub h1⟩, k _ S1 H1 z1 fun S' H' s1 s2 => ⟨fun i d hd => ?_, xs, fE (s1.trans s2) h1, Nat.le_of_eq h2.length.symm⟩⟩⟩
   obtain ⟨y, e1, e2⟩ := h2.get hd
   refine ⟨⟨xs, y, fE (s1.trans s2) h1, e1⟩, fun x H'' hy => ⟨hy.1, ?_⟩⟩
   have := hy.2 xs (fE (s1.trans s2) h1)
   rw [e1] at this
   cases this
   exact e2.mono s1
  | _ => cases x
noncomputable def ifC {α : Type} (p : Prop) (a b : α) : α := @ite α p (Classical.propDecidable p) a b
theorem lN {α : Type} {p : Prop} {a b : α} (h : p) : ifC p a b = a := by unfold ifC; exact NF h
theorem ld {α : Type} {p : Prop} {a x : α} (h : ifC p (some a) none = some x) : p /\ a = x := by
 unfold ifC at h
 by_cases c : p
 ·rw [NF c] at h; exact ⟨c, Oc h⟩
 ·rw [NG c] at h; cases h
theorem hX {tl : TE} {e : XE} (h : SPk K tl e) : SIP K (JA K tl) (xIt e) := fun ρ σ S H R l r x k => by
 unfold xIt at x
 cases q : e ρ with
 | none => rw [q] at x; cases x
 | some d =>
  rw [q] at x
  dsimp only [Option.bind] at x
  refine h ρ σ S H _ d r q fun v S1 H1 z1 d1 => ?_
  rcases d1 with d1 | ⟨l', p, xs, rfl, rfl, hx, dx⟩
  ·cases d with
   | lst l' =>
    cases x
    obtain ⟨p, xs, rfl, h1, h2⟩ := den_lst.mp d1
    refine ⟨p, rfl, .inl ⟨⟨xs, .inl (eJ z1.sub h1)⟩, k _ S1 H1 z1 fun S' H' z2 => ⟨fun i d hd => ?_, xs, .inl (eJ (z2.sh.trans z2.sub) h1), Nat.le_of_eq h2.length.symm⟩⟩⟩
    obtain ⟨y, e1, e2⟩ := h2.get hd
    refine ⟨⟨xs, y, .inl (eJ (z2.sh.trans z2.sub) h1), e1⟩, fun x H'' hy => ⟨hy.1, ?_⟩⟩
    have := hy.2 xs (.inl (eJ (z2.sh.trans z2.sub) h1))
    rw [e1] at this
    cases this
    exact e2.mono z2.sh
   | tup l' =>
    cases x
    obtain ⟨p, xs, rfl, h1, h2⟩ := kj d1
    refine ⟨p, rfl, .inr ⟨⟨xs, cV z1.sub h1⟩, k _ S1 H1 z1 fun S' H' z2 => ⟨fun i d hd => ?_, xs, cV (z2.sh.trans z2.sub) h1, Nat.le_of_eq h2.length.symm⟩⟩⟩
    obtain ⟨y, e1, e2⟩ := h2.get hd
    refine ⟨⟨xs, y, cV (z2.sh.trans z2.sub) h1, e1⟩, fun x H'' hy => ⟨hy.1, ?_⟩⟩
    have := hy.2 xs (cV (z2.sh.trans z2.sub) h1)
    rw [e1] at this
    cases this
    exact e2.mono z2.sh
   | scr l' =>
    cases x
    obtain ⟨p, xs, rfl, h1, h2⟩ := den_scr.mp d1
    refine ⟨p, rfl, .inl ⟨⟨xs, fE z1.sub h1⟩, k _ S1 H1 z1 fun S' H' z2 => ⟨fun i d hd => ?_, xs, fE (z2.sh.trans z2.sub) h1, Nat.le_of_eq h2.length.symm⟩⟩⟩
    obtain ⟨y, e1, e2⟩ := h2.get hd
    refine ⟨⟨xs, y, fE (z2.sh.trans z2.sub) h1, e1⟩, fun x H'' hy => ⟨hy.1, ?_⟩⟩
    have := hy.2 xs (fE (z2.sh.trans z2.sub) h1)
    rw [e1] at this
    cases this
    exact e2.mono z2.sh
   | _ => cases x
  ·cases x
   refine ⟨p, rfl, .inl ⟨⟨xs, SqL.of hx⟩, k _ S1 H1 z1 fun S' H' z2 => ?_⟩⟩
   have hx2 : H' p = some (.lst xs) := z2.same z1.sub _ _ hx
   refine ⟨fun i d hd => ?_, xs, SqL.of hx2, Nat.le_of_eq dx.length.symm⟩
   obtain ⟨y, e1, e2⟩ := dx.get hd
   refine ⟨⟨xs, y, SqL.of hx2, e1⟩, fun x H'' hy => ⟨hy.1, ?_⟩⟩
   have := hy.2 xs (SqL.of hx2)
   rw [e1] at this
   cases this
   exact e2.mono z2.sh
noncomputable def dH (lo : Int) : Nat -> List D
 | 0 => []
 | n + 1 => .int lo :: dH (lo + 1) n
theorem x9 : ∀ (n : Nat) (lo : Int) (i : Nat) (d : D), (dH lo n)[i]? = some d -> i < n /\ d = .int (lo + i)
 | 0, _, _, _, h => by simp [dH] at h
 | n + 1, lo, 0, d, h => by simp [dH] at h; exact ⟨Nat.succ_pos _, by rw [<- h]; simp⟩
 | n + 1, lo, i + 1, d, h => by
  obtain ⟨h1, h2⟩ := x9 n (lo + 1) i d (by simpa [dH] using h)
  exact ⟨Nat.succ_lt_succ h1, by rw [h2]; congr 1; lia⟩
theorem ya : ∀ (n : Nat) (lo : Int), (dH lo n).length = n
 | 0, _ => rfl
 | n + 1, lo => by rw [dH, NV, ya n]
theorem yP (lo : Int) (n : Nat) : Walks K (Itr lo n) S (dH lo n) := fun S' H' _ _ => ⟨fun i d h => by
 obtain ⟨h1, rfl⟩ := x9 n lo i d h
 exact ⟨h1, fun x H'' y => ⟨y.1, den_int.mpr y.2⟩⟩, by rw [ya]; exact NK _⟩
noncomputable def Ew : List D -> Option (List D)
 | [.int j] => ifC (j < 1000000 /\ -1000000 < j) (some (dH 0 j.toNat)) none
 | [.int i, .int j] => ifC (j < 4000000000000000000 /\ -4000000000000000000 < i /\ i < 4000000000000000000 /\ -4000000000000000000 < j) (some (dH i (j - i).toNat)) none
 | _ => none
@[simp] noncomputable def AL (a : XA) : XA := fun ρ => (a ρ).bind Ew
theorem GW {ta : TE} {a : XE} (h : SPk K ta a) : SI K (IW (gW ta rX)) (AL (ad a ao)) := fun ρ σ S H R l r x k => by
 unfold AL at x
 cases q : ad a ao ρ with
 | none => rw [q] at x; cases x
 | some ds =>
  rw [q] at x
  obtain ⟨d, e, qa, qb, rfl⟩ := jQ q
  cases qb
  cases d with
  | int j =>
   have x' : ifC (j < 1000000 /\ -1000000 < j) (some (dH 0 j.toNat)) none = some l := x
   obtain ⟨hj, rfl⟩ := ld x'
   refine h ρ σ S H _ _ r qa fun v S1 H1 z1 d1 => ?_
   refine ⟨j, by rw [d1.int], ?_, ?_, k _ S1 H1 z1 (yP 0 _)⟩
   ·have : (2 : Int) ^ 62 = 4611686018427387904 := by decide
    lia
   ·have : (2 : Int) ^ 62 = 4611686018427387904 := by decide
    lia
  | _ => cases x
theorem FP {ta tb : TE} {a b : XE} (h : SPk K ta a) (hb : SPk K tb b) : SI K (II (gW ta (gW tb rX))) (AL (ad a (ad b ao))) := fun ρ σ S H R l r x k => by
 unfold AL at x
 cases q : ad a (ad b ao) ρ with
 | none => rw [q] at x; cases x
 | some ds =>
  rw [q] at x
  obtain ⟨d, e, qa, qb, rfl⟩ := jQ q
  obtain ⟨d2, e2, qa2, qb2, rfl⟩ := jQ qb
  cases qb2
  cases d with
  | int i =>
   cases d2 with
   | int j =>
    have x' : ifC (j < 4000000000000000000 /\ -4000000000000000000 < i /\ i < 4000000000000000000 /\ -4000000000000000000 < j) (some (dH i (j - i).toNat)) none = some l := x
    obtain ⟨hj, rfl⟩ := ld x'
    refine h ρ σ S H _ _ r qa fun v S1 H1 z1 d1 => ?_
    refine hb ρ σ S1 H1 _ _ (r.ext z1) qa2 fun w S2 H2 z2 d2 => ?_
    have : (2 : Int) ^ 62 = 4611686018427387904 := by decide
    exact ⟨i, j, by rw [d1.int, d2.int], by lia, k _ S2 H2 (z1.trans z2) (yP i _)⟩
   | _ => cases x
  | _ => cases x
noncomputable def Gj : Nat -> Nat -> List D
 | _, 0 => []
 | k, n + 1 => .int (2 * k) :: Gj (k + 1) n
noncomputable def Lq : List D -> Option (List D)
 | [.int a, .int j, .int b] => ifC (a = 0 /\ b = 2 /\ 0 <= j /\ j < 1000000) (some (Gj 0 ((j + 1) / 2).toNat)) none
 | _ => none
@[simp] noncomputable def MS (a : XA) : XA := fun ρ => (a ρ).bind Lq
noncomputable def gr (g : XG) (m : XS) : List D -> Env -> Option Out
 | [], ρ => some (.nx ρ)
 | d :: l, ρ => (g d ρ).bind fun ρ1 => match m ρ1 with
  | some (.nx ρ2) => gr g m l ρ2
  | some (.ct ρ2) => gr g m l ρ2
  | some (.bk ρ2) => some (.nx ρ2)
  | some (.rt d) => some (.rt d)
  | some (.ro d) => some (.ro d)
  | none => none
@[simp] noncomputable def oA (e : XA) (g : XG) (m : XS) : XS := fun ρ => (e ρ).bind fun l => gr g m l ρ
theorem Bt {l : List D} {i : Nat} {d : D} (h : l[i]? = some d) : l.drop i = d :: l.drop (i + 1) := by
 obtain ⟨h1, rfl⟩ := Og.mp h
 exact List.drop_eq_getElem_cons h1
theorem nt {wi : TI} {g : TG} {tb : TS} {e : XA} {x : XG} {m : XS} (hi : SI K wi e) (hg : SG K g x) (hb : SS K tb m) : SS K (KD wi g tb) (oA e x m) := fun A Λ ρ σ S H E o r y k => by
 unfold oA at y
 cases q : e ρ with
 | none => rw [q] at y; cases y
 | some l =>
  rw [q] at y
  dsimp only [Option.bind] at y
  refine hi ρ σ S H _ l r.toRl q fun J S1 H1 z1 wk => ?_
  have r1 := r.ext z1
  refine ⟨fun i n σ' H' => n = l.length - i /\ i <= l.length /\ ∃ ρ' S', RlA K A Λ ρ' σ' S' H' /\ Same S1 S' /\ gr x m (l.drop i) ρ' = some o, ⟨_, rfl, Ov _, ρ, S1, r1, Same.refl _, y⟩, ?_⟩
  rintro i n σ2 H2 ⟨rfl, hil, ρ2, S2, r2, s2, y2⟩
  obtain ⟨w1, w2⟩ := wk S2 H2 s2 r2.sub
  cases qd : l[i]? with
  | none =>
   have : l.length = i := by have := List.getElem?_eq_none_iff.mp qd; lia
   subst this
   rw [OL (NK _)] at y2
   cases y2
   exact .inl ⟨w2, k σ2 S2 H2 r2 (z1.sh.trans s2)⟩
  | some d =>
   obtain ⟨g1, g2⟩ := w1 i d qd
   have hlt := (Og.mp qd).1
   rw [Bt qd] at y2
   unfold gr at y2
   cases qx : x d ρ2 with
   | none => rw [qx] at y2; cases y2
   | some ρ3 =>
    rw [qx] at y2
    dsimp only [Option.bind] at y2
    refine .inr ⟨g1, fun σ' H' => ∃ ρ' S', RlA K A Λ ρ' σ' S' H' /\ Same S1 S' /\ gr x m (l.drop (i + 1)) ρ' = some o, fun σ' H' ⟨ρ', S', a1, a2, a3⟩ => ⟨_, by lia, rfl, hlt, ρ', S', a1, a2, a3⟩, fun xv H3 hy => ?_⟩
    obtain ⟨rfl, dx⟩ := g2 xv H3 hy
    refine hg A Λ ρ2 σ2 S2 H3 xv d _ ρ3 r2 dx qx fun σ3 r3 => ?_
    cases qm : m ρ3 with
    | none => rw [qm] at y2; cases y2
    | some om =>
     rw [qm] at y2
     refine hb A Λ ρ3 σ3 S2 H3 _ om r3 qm ?_
     cases om with
     | nx ρ4 => exact fun σ4 S4 H4 r4 s4 => ⟨ρ4, S4, r4, s2.trans s4, y2⟩
     | ct ρ4 => exact fun σ4 S4 H4 r4 s4 => ⟨ρ4, S4, r4, s2.trans s4, y2⟩
     | bk ρ4 => cases y2; exact fun σ4 S4 H4 r4 s4 => k σ4 S4 H4 r4 ((z1.sh.trans s2).trans s4)
     | rt d4 => cases y2; exact fun v S4 H4 s4 => k v S4 H4 ((z1.sh.trans s2).trans s4)
     | ro d4 => cases y2; exact fun v fp S4 H4 s4 => k v fp S4 H4 ((z1.sh.trans s2).trans s4)
noncomputable def dl (c : XT) (m : XS) : Nat -> Env -> Option Out
 | 0, _ => none
 | n + 1, ρ => (c ρ).bind fun b => if b = true then (match m ρ with
  | some (.nx ρ2) => dl c m n ρ2
  | some (.ct ρ2) => dl c m n ρ2
  | some (.bk ρ2) => some (.nx ρ2)
  | some (.rt d) => some (.rt d)
  | some (.ro d) => some (.ro d)
  | none => none) else some (.nx ρ)
theorem mQ (c : XT) (m : XS) : ∀ (n : Nat) (ρ : Env) (o : Out), dl c m n ρ = some o -> dl c m (n + 1) ρ = some o
 | 0, _, _, h => by cases h
 | n + 1, ρ, o, h => by
  unfold dl at h ⊢
  cases qc : c ρ with
  | none => rw [qc] at h; cases h
  | some b =>
   rw [qc] at h
   dsimp only [Option.bind] at h ⊢
   cases b with
   | false => exact h
   | true =>
    rw [NF rfl] at h ⊢
    cases qm : m ρ with
    | none => rw [qm] at h; cases h
    | some om =>
     rw [qm] at h
     cases om with
     | nx ρ2 => exact mQ c m n ρ2 o h
     | ct ρ2 => exact mQ c m n ρ2 o h
     | bk ρ2 => exact h
     | rt d => exact h
     | ro d => exact h
theorem pT (c : XT) (m : XS) (n : Nat) (ρ : Env) (o : Out) (h : dl c m n ρ = some o) : ∀ k, dl c m (n + k) ρ = some o
 | 0 => h
 | k + 1 => mQ c m (n + k) ρ o (pT c m n ρ o h k)
noncomputable def qT (c : XT) (m : XS) : XS := fun ρ => by
 classical
 exact if h : ∃ o n, dl c m n ρ = some o then some h.choose else none
noncomputable def kx (c : XT) (m : XS) : XS := fun ρ => (dl c m 64 ρ).or (qT c m ρ)
theorem wg {c : XT} {m : XS} {ρ : Env} {o o' : Out} {n k : Nat} (h : dl c m n ρ = some o) (h' : dl c m k ρ = some o') : o' = o := by
 have h3 := pT c m n ρ o h k
 have h4 := pT c m k ρ _ h' n
 rw [Nat.add_comm k n, h3] at h4
 exact (Oc h4).symm
theorem yh {c : XT} {m : XS} {n : Nat} {ρ : Env} {o : Out} (h : dl c m n ρ = some o) : kx c m ρ = some o := by
 unfold kx
 cases q : dl c m 64 ρ with
 | some o' => exact congrArg some (wg h q)
 | none =>
  have hx : ∃ o n, dl c m n ρ = some o := ⟨o, n, h⟩
  show qT c m ρ = some o
  unfold qT
  rw [dif_pos hx]
  obtain ⟨n2, h2⟩ := hx.choose_spec
  exact congrArg some (wg h h2)
theorem xV {c : XT} {m : XS} {ρ : Env} {o : Out} (h : kx c m ρ = some o) : ∃ n, dl c m n ρ = some o := by
 unfold kx at h
 cases q : dl c m 64 ρ with
 | some o' => rw [q] at h; exact ⟨64, q.trans h⟩
 | none =>
  rw [q] at h
  have h : qT c m ρ = some o := h
  unfold qT at h
  split at h
  ·rename_i hx
   cases h
   exact hx.choose_spec
  ·cases h
theorem B4 {c : XT} {m : XS} {ρ : Env} (h : c ρ = some false) : kx c m ρ = some (.nx ρ) := yh (n := 1) (by unfold dl; rw [h]; rfl)
theorem AC {c : XT} {m : XS} {ρ ρ2 : Env} {o : Out} (h : c ρ = some true) (hm : m ρ = some (.nx ρ2)) (k : kx c m ρ2 = some o) : kx c m ρ = some o := by
 obtain ⟨n, hn⟩ := xV k
 exact yh (n := n + 1) (by unfold dl; rw [h, hm]; exact hn)
theorem Iy {tc : TT} {tb : TS} {c : XT} {m : XS} (hc : ST K tc c) (hb : SS K tb m) : SS K (GJ tc tb) (kx c m) := fun A Λ ρ σ S H E o r y k => by
 obtain ⟨n, hn⟩ := xV y
 refine ⟨fun n σ' H' => ∃ ρ' S', RlA K A Λ ρ' σ' S' H' /\ Same S S' /\ dl c m n ρ' = some o, ⟨n, ρ, S, r, Same.refl _, hn⟩, ?_⟩
 rintro n σ1 H1 ⟨ρ1, S1, r1, s1, h1⟩
 cases n with
 | zero => cases h1
 | succ n =>
  unfold dl at h1
  cases qc : c ρ1 with
  | none => rw [qc] at h1; cases h1
  | some b =>
   rw [qc] at h1
   dsimp only [Option.bind] at h1
   refine hc ρ1 σ1 S1 H1 _ b r1.toRl qc fun S2 H2 z2 => ?_
   have r2 := r1.ext z2
   cases b with
   | false =>
    rw [NG (by decide)] at h1
    cases h1
    exact EO (k σ1 S2 H2 r2 (s1.trans z2.sh))
   | true =>
    rw [NF rfl] at h1
    refine DS ⟨fun σ' H' => ∃ ρ' S', RlA K A Λ ρ' σ' S' H' /\ Same S S' /\ dl c m n ρ' = some o, fun σ' H' a => ⟨n, Nat.lt_succ_self _, a⟩, ?_⟩
    cases qm : m ρ1 with
    | none => rw [qm] at h1; cases h1
    | some om =>
     rw [qm] at h1
     refine hb A Λ ρ1 σ1 S2 H2 _ om r2 qm ?_
     cases om with
     | nx ρ4 => exact fun σ4 S4 H4 r4 s4 => ⟨ρ4, S4, r4, (s1.trans z2.sh).trans s4, h1⟩
     | ct ρ4 => exact fun σ4 S4 H4 r4 s4 => ⟨ρ4, S4, r4, (s1.trans z2.sh).trans s4, h1⟩
     | bk ρ4 => cases h1; exact fun σ4 S4 H4 r4 s4 => k σ4 S4 H4 r4 ((s1.trans z2.sh).trans s4)
     | rt d4 => cases h1; exact fun v S4 H4 s4 => k v S4 H4 ((s1.trans z2.sh).trans s4)
     | ro d4 => cases h1; exact fun v fp S4 H4 s4 => k v fp S4 H4 ((s1.trans z2.sh).trans s4)
@[simp] noncomputable def zJ (js : List (Option Nat)) (ρ : Env) : Env := js.map fun o => match o with | none => .un | some j => match ρ[j]? with | some (.sh d) => .sh d | _ => .un
noncomputable def dW (g : XG) (c : XT) (e : XE) (ρ0 : Env) : List D -> Option (List D)
 | [] => some []
 | d :: l => (g d ρ0).bind fun ρ1 => (c ρ1).bind fun b => if b = true then (e ρ1).bind fun y => (dW g c e ρ0 l).map fun r => y :: r else dW g c e ρ0 l
@[simp] noncomputable def gi (js : List (Option Nat)) (w : XA) (g : XG) (c : XT) (e : XE) : XA := fun ρ => (w ρ).bind fun l => if l.length <= LIM then dW g c e (zJ js ρ) l else none
@[simp] noncomputable def gq : XT := fun _ => some true
theorem li : ST K Jg gq := fun ρ σ S H Q b r x k => by cases x; exact k S H (Ext.refl r.sub)
theorem qL {js : List (Option Nat)} {ρ : Env} {i : Nat} {s : Sl} (h : (zJ js ρ)[i]? = some s) : s = .un \/ ∃ d j, s = .sh d /\ js[i]? = some (some j) /\ ρ[j]? = some (.sh d) := by
 unfold zJ at h
 rw [Oh] at h
 cases q : js[i]? with
 | none => rw [q] at h; cases h
 | some o =>
  rw [q] at h
  cases o with
  | none => cases h; exact .inl rfl
  | some j =>
   simp only [Option.map_some] at h
   cases q2 : ρ[j]? with
   | none => rw [q2] at h; cases h; exact .inl rfl
   | some s2 =>
    rw [q2] at h
    cases s2 with
    | un => cases h; exact .inl rfl
    | lo => cases h; exact .inl rfl
    | ow l => cases h; exact .inl rfl
    | sh d => cases h; exact .inr ⟨d, j, rfl, rfl, q2⟩
noncomputable def pe (S H : Hp) : Hp := fun b => match S b with | none => H b | some _ => none
theorem yr {S H : Hp} : Same (pe S H) H := fun b o h => by
 unfold pe at h
 cases q : S b with
 | none => rw [q] at h; exact h
 | some _ => rw [q] at h; cases h
theorem xQ {S H : Hp} (b : Addr) : S b = none \/ pe S H b = none := by
 unfold pe
 cases q : S b with
 | none => exact .inl rfl
 | some _ => exact .inr rfl
theorem AO {S H : Hp} {b : Addr} {o : HO} (h : H b = some o) (n : S b = none) : pe S H b = some o := by
 unfold pe
 rw [n]
 exact h
theorem Kq {ρ : Env} {σ : St} (r : Rl K ρ σ S H) (js : List (Option Nat)) : RlA K (pe S H) (fun _ => none) (zJ js ρ) (inn js σ) S H := by
 refine ⟨fun _ => [], ?_⟩
 exact {
  len := by unfold zJ inn; rw [NT, NT]
  sub := r.sub
  sh := fun i d h => by
   rcases qL h with e | ⟨d', j, e, h1, h2⟩
   ·cases e
   ·cases e
    obtain ⟨v, k1, k2⟩ := r.sh j d h2
    refine ⟨v, ?_, k2⟩
    unfold inn
    rw [Oh, h1]
    show some ((σ[j]?).join) = some (some v)
    rw [k1]
    rfl
  ow := fun i o h => by
   rcases qL h with e | ⟨d', j, e, h1, h2⟩
   ·cases e
   ·cases e
  dj := fun i j o o' _ h => by
   rcases qL h with e | ⟨d', j, e, h1, h2⟩
   ·cases e
   ·cases e
  lo := fun i h => by
   rcases qL h with e | ⟨d', j, e, h1, h2⟩
   ·cases e
   ·cases e
  asub := yr
  adis := xQ }
theorem eZ {js : List (Option Nat)} {wi : TI} {g : TG} {tt : TIf} {te : TE} {w : XA} {x : XG} {c : XT} {e : XE} (hi : SIP K wi w) (hg : SG K g x) (hc : ST K tt c) (he : SE K te e) : SF K (C8 js wi g tt te) (gi js w x c e) := fun ρ σ S H Q l r y k => by
 unfold gi at y
 cases q : w ρ with
 | none => rw [q] at y; cases y
 | some ds =>
  rw [q] at y
  dsimp only [Option.bind] at y
  split at y
  ·rename_i hlim
   refine hi ρ σ S H _ ds r q fun J S1 H1 z1 wk D hD => ?_
   have r1 := r.ext z1
   have hD0 : H D = none := (z1.same r.sub).free hD
   -- the word: what is told so far, what is still to be told
   refine ⟨fun i n H' => n = ds.length - i /\ i <= ds.length /\ ∃ S' done ys rest, Ext S1 H1 S' H' /\ Same S1 S' /\ H' D = some (.lst ys) /\ S' D = none /\ Dens K S' done ys /\ done.length <= i /\ dW x c e (zJ js ρ) (ds.drop i) = some rest /\ l = done ++ rest,
    ⟨_, rfl, Ov _, S1, [], [], l, Ext.own z1.sub hD, Same.refl _, a8, z1.sub.free hD, .nil, Ov _, y, rfl⟩, ?_⟩
   rintro i n H2 ⟨rfl, hil, S2, done, ys, rest, z2, s2, hy, hSD, dy, hdl, y2, rfl⟩
   obtain ⟨w1, w2⟩ := wk S2 H2 z2
   cases qd : ds[i]? with
   | none =>
    have : ds.length = i := by have := List.getElem?_eq_none_iff.mp qd; lia
    subst this
    rw [OL (NK _)] at y2
    cases y2
    rw [Ol] at k
    exact .inl ⟨w2, k D ys S2 H2 (z1.trans z2) hD0 hSD hy dy⟩
   | some d =>
    obtain ⟨g1, g2⟩ := w1 i d qd
    have hlt := (Og.mp qd).1
    rw [Bt qd] at y2
    unfold dW at y2
    cases qx : x d (zJ js ρ) with
    | none => rw [qx] at y2; cases y2
    | some ρ3 =>
     rw [qx] at y2
     dsimp only [Option.bind] at y2
     refine .inr ⟨g1, fun xv H3 hyl => ?_⟩
     obtain ⟨rfl, dx⟩ := g2 xv H3 hyl
     have ri := Kq (r1.ext z2) js
     refine hg _ _ _ _ S2 H3 xv d _ ρ3 ri dx qx fun σ3 r3 => ?_
     cases qc : c ρ3 with
     | none => rw [qc] at y2; cases y2
     | some b =>
      rw [qc] at y2
      dsimp only at y2
      refine hc ρ3 σ3 S2 H3 _ b r3.toRl qc fun S4 H4 z4 => ?_
      obtain ⟨al1, al2⟩ := z4.al D _ hy hSD
      cases b with
      | false =>
       rw [NG (by decide)] at y2
       exact EO ⟨_, by lia, rfl, hlt, S4, done, ys, rest, z2.trans z4, s2.trans z4.sh, al1, al2, dy.mono z4.sh, by lia, y2, rfl⟩
      | true =>
       rw [NF rfl] at y2
       cases qe : e ρ3 with
       | none => rw [qe] at y2; cases y2
       | some dv =>
        rw [qe] at y2
        dsimp only at y2
        cases qr : dW x c e (zJ js ρ) (ds.drop (i + 1)) with
        | none => rw [qr] at y2; cases y2
        | some rest2 =>
         rw [qr] at y2
         cases y2
         refine DS (he ρ3 σ3 S4 H4 _ dv (r3.toRl.ext z4) qe fun v S5 H5 z5 d5 => ?_)
         obtain ⟨b1, b2⟩ := z5.al D _ al1 al2
         refine ⟨ys, b1, ?_, _, by lia, rfl, hlt, S5, done ++ [dv], ys ++ [v], rest2, ?_, (s2.trans z4.sh).trans z5.sh, a8, b2, ((dy.mono z4.sh).mono z5.sh).append (.cons d5 .nil), by rw [NO, Oi]; lia, qr, by rw [N9]; rfl⟩
         ·rw [<- dy.length]
          exact Ob (Ow hdl hlt) (N6 hlim (Om lG))
         ·have z6 := (z2.trans z4).trans z5
          exact ⟨z6.sh, fun b u hb => by rw [a6 fun z => by subst z; rw [b2] at hb; cases hb]; exact z6.sub b u hb, fun b o hb hn => by
           obtain ⟨c1, c2⟩ := z6.al b o hb hn
           exact ⟨by rw [a6 fun z => by subst z; rw [hD] at hb; cases hb]; exact c1, c2⟩⟩
  ·cases y
@[simp] noncomputable def MX (i : Nat) (g : XG) (m : XS) : XS := fun ρ => match ρ[i]? with
 | some (.ow (.lst os)) => (match shs os with
  | some l => (match gr g m l (ρ.set i .lo) with
   | some (.nx ρ') => (match ρ'[i]? with | some .lo => some (.nx (ρ'.set i (.ow (.lst os)))) | _ => none)
   | some (.rt d) => some (.rt d)
   | _ => none)
  | none => none)
 | _ => none
noncomputable def fnO (n : Nat) (x : XS) (ds : List D) : Option O := match x (ds.map .sh ++ List.replicate (n - ds.length) .un) with
 | some (.rt d) => some (.sh d)
 | some (.ro o) => some o
 | some (.nx _) => some (.sh .non)
 | _ => none
theorem Gn {N : List Str} {ds : List D} {vs : List V} (s : Same S H) (h : Dens K S ds vs) : RlA K (pe S H) (fun _ => none) (ds.map .sh ++ List.replicate (N.length - ds.length) .un) (L2.aI N vs) S H := by
 have hl := h.length
 have key : ∀ (i : Nat) t, (ds.map Sl.sh ++ List.replicate (N.length - ds.length) .un)[i]? = some t -> t = .un \/ ∃ d v, t = .sh d /\ (L2.aI N vs)[i]? = some (some v) /\ Den K S d v := fun i t ht => by
  by_cases hi : i < ds.length
  ·rw [OK (by rw [NT]; exact hi), Oh] at ht
   cases q : ds[i]? with
   | none => rw [q] at ht; cases ht
   | some d =>
    rw [q] at ht
    cases ht
    obtain ⟨v, e1, e2⟩ := h.get q
    refine .inr ⟨d, v, rfl, ?_, e2⟩
    unfold L2.aI
    rw [OK (by rw [NT]; lia), Oh, e1]
    rfl
  ·rw [OE (by rw [NT]; lia), List.getElem?_replicate] at ht
   split at ht
   ·cases ht; exact .inl rfl
   ·cases ht
 refine ⟨fun _ => [], ?_⟩
 exact {
  len := by unfold L2.aI; rw [NO, NO, NT, NT, List.length_replicate, List.length_replicate, hl]
  sub := s
  sh := fun i d hi => by
   rcases key i _ hi with e | ⟨d', v, e, h1, h2⟩
   ·cases e
   ·cases e; exact ⟨v, h1, h2⟩
  ow := fun i o hi => by
   rcases key i _ hi with e | ⟨d', v, e, h1, h2⟩
   ·cases e
   ·cases e
  dj := fun i j o o' _ hi => by
   rcases key i _ hi with e | ⟨d', v, e, h1, h2⟩
   ·cases e
   ·cases e
  lo := fun i hi => by
   rcases key i _ hi with e | ⟨d', v, e, h1, h2⟩
   ·cases e
   ·cases e
  asub := yr
  adis := xQ }
theorem gj {t : TS} {x : XS} {N : List Str} {n k : Nat} {vs : List V} {H : Hp} {Q : VK} {E : XK} (hs : SS K t x) (hN : N.length = n) (h : iY K k (fnO n x) vs H Q E) :
  t { nx := fun _ H' => Q .non H', rt := Q } (L2.aI N vs) H := by
 obtain ⟨_, S, ds, d, s, dd, y, q⟩ := h
 subst hN
 unfold fnO at y
 have r := Gn (N := N) s dd
 have ex : ∀ {S' H' : Hp}, Same S S' -> Same S' H' -> Same (pe S H) H' -> (∀ b, S' b = none \/ pe S H b = none) -> Ext S H S' H' := fun s1 s2 s3 s4 => ⟨s1, s2, fun b o hb hn => by
  have ha := AO hb hn
  refine ⟨s3 b o ha, ?_⟩
  rcases s4 b with z | z
  ·exact z
  ·rw [ha] at z; cases z⟩
 cases qx : x (ds.map .sh ++ List.replicate (N.length - ds.length) .un) with
 | none => rw [qx] at y; cases y
 | some o =>
  rw [qx] at y
  refine hs _ _ _ _ S H _ o r qx ?_
  cases o with
  | rt d' =>
   cases y
   exact fun v S' H' s1 s2 s3 s4 dv => q v [] S' H' (ex s1 s2 s3 s4) (own_sh.mpr ⟨rfl, dv⟩) .nil fun b hb => by cases hb
  | ro o' =>
   cases y
   refine fun v fp S' H' s1 s2 s3 s4 ow nd n => q v fp S' H' (ex s1 s2 s3 s4) ow nd fun b hb => ⟨?_, (n b hb).1⟩
   cases qb : H b with
   | none => rfl
   | some u =>
    have := AO qb (s1.free (n b hb).1)
    rw [(n b hb).2] at this; cases this
  | nx ρ' =>
   cases y
   exact fun σ' S' H' r' s1 => q .non [] S' H' (ex s1 r'.sub r'.asub r'.adis) (own_sh.mpr ⟨rfl, den_non.mpr rfl⟩) .nil fun b hb => by cases hb
  | bk ρ' => cases y
  | ct ρ' => cases y
end
noncomputable def dI (f : Int -> Int -> Option D) : D -> D -> Option D
 | .int i, .int j => f i j
 | _, _ => none
noncomputable def Hn : D -> D -> Option D := dI fun i j => ifC ((-18446744073709551616 < i /\ i < 18446744073709551616) \/ (-18446744073709551616 < j /\ j < 18446744073709551616)) (some (.int (i * j))) none
noncomputable def uY : D -> D -> Option D := dI fun i j => ifC (0 < j /\ j < 1073741824) (some (.int (i / j))) none
noncomputable def mM : D -> D -> Option D := dI fun i j => ifC (0 < j) (some (.int (i % j))) none
noncomputable def zn : D -> D -> Option D := dI fun i j => ifC (0 <= j /\ j <= 1000000 /\ i.natAbs < 18446744073709551616) (some (.int (i ^ j.toNat))) none
noncomputable def AU : D -> D -> Option D := dI fun i j => some (.int (i - j))
noncomputable def dLt : D -> D -> Option D := dI fun i j => some (.bl (decide (i < j)))
noncomputable def dLe : D -> D -> Option D := dI fun i j => some (.bl (decide (i <= j)))
noncomputable def dGt : D -> D -> Option D := dI fun i j => some (.bl (decide (j < i)))
noncomputable def dGe : D -> D -> Option D := dI fun i j => some (.bl (decide (j <= i)))
noncomputable def gn : D -> Option D
 | .int i => some (.int (-i))
 | _ => none
section
variable {K : W.Frag}
theorem r_i {C : Int -> Int -> Prop} {g : Int -> Int -> V} {f : Int -> Int -> Option D} (h : ∀ i j d, f i j = some d -> C i j /\ sL d = some (g i j)) : SR2 K (rI C g) (dI f) := fun S H x y d e z Q s dx dy q k => by
 cases d <;> cases e <;> try cases q
 rename_i i j
 obtain ⟨h1, h2⟩ := h i j z q
 exact ⟨i, j, dx.int, dy.int, h1, k _ S H (Ext.refl s) (rZ h2)⟩
theorem GS {g : Int -> Int -> V} {f : Int -> Int -> Option D} (h : ∀ i j d, f i j = some d -> sL d = some (g i j)) : SR2 K (rI0 g) (dI f) := fun S H x y d e z Q s dx dy q k => by
 cases d <;> cases e <;> try cases q
 rename_i i j
 exact ⟨i, j, dx.int, dy.int, k _ S H (Ext.refl s) (rZ (h i j z q))⟩
theorem Ja : SR2 K (rI CMul fun i j => .int (i * j)) Hn := r_i fun i j d h => by
 obtain ⟨c, rfl⟩ := ld h
 refine ⟨?_, rfl⟩
 unfold CMul
 have : (2 : Int) ^ 64 = 18446744073709551616 := by decide
 rw [this]
 exact c
theorem qI : SR2 K (rI KI fun i j => .int (i / j)) uY := r_i fun i j d h => by
 obtain ⟨c, rfl⟩ := ld h
 exact ⟨c, rfl⟩
theorem jD : SR2 K (rI (fun _ j => 0 < j) fun i j => .int (i % j)) mM := r_i fun i j d h => by
 obtain ⟨c, rfl⟩ := ld h
 exact ⟨c, rfl⟩
theorem DA : SR2 K (rI Kk fun i j => .int (i ^ j.toNat)) zn := r_i fun i j d h => by
 obtain ⟨c, rfl⟩ := ld h
 refine ⟨?_, rfl⟩
 unfold Kk
 have : (2 : Nat) ^ 64 = 18446744073709551616 := by decide
 rw [this]
 exact c
theorem xU : SR2 K (rI0 fun i j => .int (i - j)) AU := GS fun i j d h => by cases h; rfl
theorem Ig : SR2 K (rI0 fun i j => .bl (decide (i < j))) dLt := GS fun i j d h => by cases h; rfl
theorem HL : SR2 K (rI0 fun i j => .bl (decide (i <= j))) dLe := GS fun i j d h => by cases h; rfl
theorem J8 : SR2 K (rI0 fun i j => .bl (decide (j < i))) dGt := GS fun i j d h => by cases h; rfl
theorem d6 : SR1 K (rU fun i => .int (-i)) gn := fun S H x d g Q s dx q k => by
 cases d <;> try cases q
 rename_i i
 exact ⟨i, dx.int, k _ S H (Ext.refl s) (den_int.mpr rfl)⟩
end
noncomputable def Je : R2 := fun x y H Q => ∃ l b xs zs, x = .ref l /\ y = .ref b /\ Rd H l (.lst xs) /\ Rd H b (.lst zs) /\ xs.length + zs.length <= sizeLine /\ ∀ p, H p = none -> Q (.ref p) (upd H p (.lst (xs ++ zs)))
noncomputable def IZ (K : W.Frag) : R2 := fun x y H Q => ∃ a b xs ys, x = .ref a /\ y = .ref b /\ SqT K H a xs /\ SqT K H b ys /\ xs.length + ys.length <= sizeLine /\
 (ys = [] -> Q (.ref a) H) /\ (xs = [] -> Q (.ref b) H) /\ ∀ p, H p = none -> Q (.ref p) (upd H p (.tup (xs ++ ys)))
noncomputable def Jh : R2 := fun x y H Q => ∃ i j, x = .str i /\ y = .str j /\ i.length + j.length <= sizeLine /\ Q (.str (i ++ j)) H
noncomputable def IG (K : W.Frag) : R2 := fun x y H Q => (∃ i j, x = .int i /\ y = .int j /\ Q (.int (i + j)) H) \/ Je x y H Q \/ IZ K x y H Q \/ Jh x y H Q
noncomputable def fJ : D -> D -> Option D
 | .int i, .int j => some (.int (i + j))
 | .lst a, .lst b => if a.length + b.length <= LIM then some (.lst (a ++ b)) else none
 | .tup a, .tup b => if a.length + b.length <= LIM then some (.tup (a ++ b)) else none
 | .str a, .str b => if a.length + b.length <= LIM then some (.str (a ++ b)) else none
 | _, _ => none
section
variable {K : W.Frag}
theorem Dens.nil_iff {S : Hp} {ds : List D} {xs : List V} (h : Dens K S ds xs) : xs = [] ↔ ds = [] := by
 have := h.length
 cases ds <;> cases xs <;> simp_all
theorem wU {n : Nat} (h : n <= LIM) : n <= sizeLine := Om (Ow h lG)
theorem gN : SR2 K (IG K) fJ := fun S H x y d e z Q s dx dy q k => by
 cases d <;> cases e <;> try (cases q; done)
 ·rename_i i j
  cases q
  exact .inl ⟨i, j, dx.int, dy.int, k _ S H (Ext.refl s) (den_int.mpr rfl)⟩
 ·rename_i i j
  have q' : (if i.length + j.length <= LIM then some (D.str (i ++ j)) else none) = some z := q
  split at q'
  ·rename_i hl
   cases q'
   exact .inr (.inr (.inr ⟨i, j, dx.str, dy.str, wU hl, k _ S H (Ext.refl s) (den_str.mpr rfl)⟩))
  ·cases q'
 ·rename_i a b
  have q' : (if a.length + b.length <= LIM then some (D.lst (a ++ b)) else none) = some z := q
  split at q'
  ·rename_i hl
   cases q'
   obtain ⟨p, xs, rfl, h1, h2⟩ := dx.lst s
   obtain ⟨p', ys, rfl, h3, h4⟩ := dy.lst s
   refine .inr (.inl ⟨p, p', xs, ys, rfl, rfl, h1, h3, by rw [<- h2.length, <- h4.length]; exact wU hl, fun q hq => ?_⟩)
   have z := Ext.new (o := .lst (xs ++ ys)) s hq
   exact k _ _ _ z (den_lst.mpr ⟨q, _, rfl, .inl a8, (h2.append h4).mono z.sh⟩)
  ·cases q'
 ·rename_i a b
  have q' : (if a.length + b.length <= LIM then some (D.tup (a ++ b)) else none) = some z := q
  split at q'
  ·rename_i hl
   cases q'
   obtain ⟨p, xs, e1, h1, h2⟩ := dx.tup s
   obtain ⟨p', ys, e2, h3, h4⟩ := dy.tup s
   have dx' : Den K S (.tup a) x := dx.elim id fun ⟨_, _, _, e, _⟩ => by cases e
   have dy' : Den K S (.tup b) y := dy.elim id fun ⟨_, _, _, e, _⟩ => by cases e
   subst e1 e2
   refine .inr (.inr (.inl ⟨p, p', xs, ys, rfl, rfl, h1, h3, by rw [<- h2.length, <- h4.length]; exact wU hl, fun e => ?_, fun e => ?_, fun q hq => ?_⟩))
   ·have := h4.nil_iff.mp e
    subst this
    exact k _ S H (Ext.refl s) (by rw [Ol]; exact dx')
   ·have := h2.nil_iff.mp e
    subst this
    exact k _ S H (Ext.refl s) (by rw [List.nil_append]; exact dy')
   ·have z := Ext.new (o := .tup (xs ++ ys)) s hq
    exact k _ _ _ z (den_tup.mpr ⟨q, _, rfl, TpA.of a8, (h2.append h4).mono z.sh⟩)
  ·cases q'
end
mutual
noncomputable def eqD : D -> D -> Bool
 | .non, .non => true
 | .bl a, .bl b => a == b
 | .bl a, .int j => (if a then 1 else 0) == j
 | .int i, .bl b => i == (if b then 1 else 0)
 | .int i, .int j => i == j
 | .str x, .str y => x == y
 | .lst a, .lst b => eqDs a b
 | .tup a, .tup b => eqDs a b
 | _, _ => false
noncomputable def eqDs : List D -> List D -> Bool
 | [], [] => true
 | x :: xs, y :: ys => eqD x y && eqDs xs ys
 | _, _ => false
end
mutual
noncomputable def okD : Nat -> D -> Bool
 | _, .non => true
 | _, .bl _ => true
 | _, .int _ => true
 | _, .str x => PyData.strOk x
 | n + 1, .lst l => okDs n l
 | n + 1, .tup l => okDs n l
 | _, _ => false
noncomputable def okDs : Nat -> List D -> Bool
 | _, [] => true
 | n, d :: l => okD n d && okDs n l
end
noncomputable def Jm (K : W.Frag) (neg : Bool) : R2 := fun x y H Q => ∃ S d e, Same S H /\ DenP K S H d x /\ DenP K S H e y /\ okD 50 d = true /\ okD 50 e = true /\ Q (.bl (if neg then !eqD d e else eqD d e)) H
noncomputable def dEq (neg : Bool) (d e : D) : Option D := if okD 50 d = true /\ okD 50 e = true then some (.bl (if neg then !eqD d e else eqD d e)) else none
section
variable {K : W.Frag}
theorem pA (neg : Bool) : SR2 K (Jm K neg) (dEq neg) := fun S H x y d e z Q s dx dy q k => by
 unfold dEq at q
 split at q
 ·rename_i c
  cases q
  exact ⟨S, d, e, s, dx, dy, c.1, c.2, k _ S H (Ext.refl s) (den_bl.mpr rfl)⟩
 ·cases q
end
noncomputable def wH : D -> Bool
 | .non => true | _ => false
noncomputable def Mw (neg : Bool) (d e : D) : Option D := match e with | .non => some (.bl (if neg then !wH d else wH d)) | _ => none
section
variable {K : W.Frag}
end
noncomputable def dIx : D -> D -> Option D
 | .lst l, .int i => atI l i
 | .tup l, .int i => atI l i
 | .scr l, .int i => atI l i
 | .str x, .int i => if x.length <= LIM then (atI x.cps.toList i).map fun c => .str ⟨#[c]⟩ else none
 | _, _ => none
section
variable {K : W.Frag}
theorem wf {S : Hp} {ds : List D} {xs : List V} {i : Int} {d : D} (h : Dens K S ds xs) (e : atI ds i = some d) : ∃ v, atI xs i = some v /\ Den K S d v := by
 unfold atI at e ⊢
 rw [<- h.length]
 cases q : ixN ds.length i with
 | none => rw [q] at e; cases e
 | some j =>
  rw [q] at e
  exact h.get e
theorem ez : SR2 K (rIx K) dIx := fun S H x y d e z Q s dx dy q k => by
 cases d <;> cases e <;> try (cases q; done)
 ·rename_i x' i
  have q' : (if x'.length <= LIM then (atI x'.cps.toList i).map fun c => D.str ⟨#[c]⟩ else none) = some z := q
  split at q'
  ·rename_i hl
   cases qc : atI x'.cps.toList i with
   | none => rw [qc] at q'; cases q'
   | some c =>
    rw [qc] at q'
    cases q'
    exact .inr (.inr ⟨x', i, c, dx.str, dy.int, wU hl, qc, k _ S H (Ext.refl s) (den_str.mpr rfl)⟩)
  ·cases q'
 ·rename_i l i
  obtain ⟨p, xs, rfl, h1, h2⟩ := dx.lst s
  obtain ⟨v, h3, h4⟩ := wf h2 q
  exact .inl ⟨p, xs, i, v, rfl, dy.int, .inl h1, h3, k v S H (Ext.refl s) h4⟩
 ·rename_i l i
  obtain ⟨p, xs, rfl, h1, h2⟩ := dx.tup s
  obtain ⟨v, h3, h4⟩ := wf h2 q
  exact .inr (.inl ⟨p, xs, i, v, rfl, dy.int, h1, h3, k v S H (Ext.refl s) h4⟩)
 ·rename_i l i
  obtain ⟨p, xs, rfl, h1, h2⟩ := dx.scr s
  obtain ⟨v, h3, h4⟩ := wf h2 q
  exact .inl ⟨p, xs, i, v, rfl, dy.int, h1, h3, k v S H (Ext.refl s) h4⟩
end
noncomputable def jF {α : Type} (xs : List α) (lo hi : Option Int) : List α := (xs.drop (HT.sIx xs.length 0 lo)).take (HT.sIx xs.length xs.length hi - HT.sIx xs.length 0 lo)
noncomputable def Kw (K : W.Frag) : V -> Option Int -> Option Int -> Hp -> VK -> Prop := fun x lo hi H Q => K9 K x lo hi H Q \/
 ∃ a xs, x = .ref a /\ SqT K H a xs /\ (pK xs lo hi = xs -> Q (.ref a) H) /\ ∀ p, H p = none -> Q (.ref p) (upd H p (.tup (pK xs lo hi)))
noncomputable abbrev XO := Env -> Option (Option Int)
def SO (K : W.Frag) (t : TO) (o : XO) : Prop := ∀ ρ σ S H (Q : Option Int -> Hp -> Prop) i, Rl K ρ σ S H -> o ρ = some i -> (∀ S' H', Ext S H S' H' -> Q i H') -> t σ H Q
@[simp] noncomputable def LC : XO := fun _ => some none
@[simp] noncomputable def CU (a : XE) : XO := fun ρ => (a ρ).bind fun d => match d with | .int i => some (some i) | _ => none
section
variable {K : W.Frag}
theorem Fg {ta : TE} {a : XE} (h : SPk K ta a) : SO K (IK ta) (CU a) := fun ρ σ S H Q i r x k => by
 unfold CU at x
 cases q : a ρ with
 | none => rw [q] at x; cases x
 | some d =>
  rw [q] at x
  dsimp only [Option.bind] at x
  cases d <;> try (cases x; done)
  rename_i j
  cases x
  exact h ρ σ S H _ _ r q fun v S1 H1 z1 d1 => ⟨j, d1.int, k S1 H1 z1⟩
theorem qS {S : Hp} {ds : List D} {xs : List V} (h : Dens K S ds xs) (lo hi : Option Int) : Dens K S (jF ds lo hi) (pK xs lo hi) := by
 unfold jF pK
 rw [h.length]
 exact (h.drop _).take _
noncomputable def dSl (d : D) (lo hi : Option Int) : Option D := match d with
 | .lst l => some (.lst (jF l lo hi))
 | .tup l => some (.tup (jF l lo hi))
 | .scr l => some (.lst (jF l lo hi))
 | _ => none
@[simp] noncomputable def xSl (a : XE) (lo hi : XO) : XE := fun ρ => (a ρ).bind fun d => (lo ρ).bind fun l => (hi ρ).bind fun h => dSl d l h
theorem LM {te : TE} {tl th : TO} {a : XE} {lo hi : XO} (ha : SPk K te a) (hl : SO K tl lo) (hh : SO K th hi) : SE K (tSl (Kw K) te tl th) (xSl a lo hi) := fun ρ σ S H Q g r x k => by
 unfold xSl at x
 cases q : a ρ with
 | none => rw [q] at x; cases x
 | some d =>
  rw [q] at x
  dsimp only [Option.bind] at x
  cases ql : lo ρ with
  | none => rw [ql] at x; cases x
  | some l =>
   rw [ql] at x
   dsimp only at x
   cases qh : hi ρ with
   | none => rw [qh] at x; cases x
   | some h =>
    rw [qh] at x
    dsimp only at x
    refine ha ρ σ S H _ d r q fun v S1 H1 z1 d1 => ?_
    have r1 := r.ext z1
    refine hl ρ σ S1 H1 _ l r1 ql fun S2 H2 z2 => ?_
    have r2 := r1.ext z2
    refine hh ρ σ S2 H2 _ h r2 qh fun S3 H3 z3 => ?_
    have z23 := z2.trans z3
    have d3 := d1.mono z23 r1.sub
    have s3 := (r2.ext z3).sub
    have z := z1.trans z23
    cases d <;> try (cases x; done)
    ·cases x
     obtain ⟨p, xs, rfl, h1, h2⟩ := d3.lst s3
     refine .inl ⟨p, xs, rfl, .inl h1, fun p' hp => ?_⟩
     have z4 := Ext.new (o := .lst (pK xs l h)) s3 hp
     exact k _ _ _ (z.trans z4) (den_lst.mpr ⟨p', _, rfl, .inl a8, (qS h2 l h).mono z4.sh⟩)
    ·rename_i ds
     cases x
     have d3' : Den K S3 (.tup ds) v := d3.elim id fun ⟨_, _, _, e, _⟩ => by cases e
     obtain ⟨p, xs, e, h1, h2⟩ := d3.tup s3
     subst e
     refine .inr ⟨p, xs, rfl, h1, fun e => k _ S3 H3 z ?_, fun p' hp => ?_⟩
     ·obtain ⟨p2, xs2, e2, h3, h4⟩ := den_tup.mp d3'
      cases e2
      have c := qS h2 l h
      rw [e] at c
      refine den_tup.mpr ⟨p, xs2, rfl, h3, ?_⟩
      have hlen := c.length
      have : jF ds l h = ds := by
       have hl2 : (jF ds l h).length = ds.length := by rw [c.length, h2.length]
       unfold jF at hl2 ⊢
       rw [List.length_take, List.length_drop] at hl2
       have a0 : HT.sIx ds.length 0 l = 0 \/ ds.length = 0 := by lia
       rcases a0 with a0 | a0
       ·rw [a0, List.drop_zero] at *
        exact List.take_of_length_le (by lia)
       ·have : ds = [] := List.length_eq_zero_iff.mp a0
        subst this
        simp
      rw [this]
      exact h4
     ·have z4 := Ext.new (o := .tup (pK xs l h)) s3 hp
      exact k _ _ _ (z.trans z4) (den_tup.mpr ⟨p', _, rfl, TpA.of a8, (qS h2 l h).mono z4.sh⟩)
    ·cases x
     obtain ⟨p, xs, rfl, h1, h2⟩ := d3.scr s3
     refine .inl ⟨p, xs, rfl, h1, fun p' hp => ?_⟩
     have z4 := Ext.new (o := .lst (pK xs l h)) s3 hp
     exact k _ _ _ (z.trans z4) (den_lst.mpr ⟨p', _, rfl, .inl a8, (qS h2 l h).mono z4.sh⟩)
noncomputable def IT (K : W.Frag) : List V -> Hp -> VK -> Prop := fun xs H Q => ∃ x n, xs = [x] /\ K5 K x H n /\ Q (.int n) H
noncomputable def sF : List D -> Option D
 | [.lst l] => some (.int l.length)
 | [.tup l] => some (.int l.length)
 | [.scr l] => some (.int l.length)
 | [.str x] => if x.length <= LIM then some (.int x.length) else none
 | _ => none
theorem j9 {S H : Hp} {d : D} {vs : List V} (h : DensP K S H [d] vs) : ∃ v, vs = [v] /\ DenP K S H d v := by
 cases h with
 | cons a b => cases b; exact ⟨_, rfl, a⟩
theorem CJ {S H : Hp} {d e : D} {vs : List V} (h : DensP K S H [d, e] vs) : ∃ v w, vs = [v, w] /\ DenP K S H d v /\ DenP K S H e w := by
 cases h with
 | cons a b => cases b with
  | cons c b => cases b; exact ⟨_, _, rfl, a, c⟩
theorem yJ : SRB K (IT K) sF := fun S H vs ds g Q s d q k => by
 unfold sF at q
 split at q
 ·rename_i l
  cases q
  obtain ⟨v, rfl, d1⟩ := j9 d
  obtain ⟨p, xs, rfl, h1, h2⟩ := d1.lst s
  exact ⟨_, xs.length, rfl, .inl ⟨xs, .inl h1, rfl⟩, k _ S H (Ext.refl s) (den_int.mpr (by rw [h2.length]))⟩
 ·rename_i l
  cases q
  obtain ⟨v, rfl, d1⟩ := j9 d
  obtain ⟨p, xs, rfl, h1, h2⟩ := d1.tup s
  exact ⟨_, xs.length, rfl, .inr ⟨xs, h1, rfl⟩, k _ S H (Ext.refl s) (den_int.mpr (by rw [h2.length]))⟩
 ·rename_i l
  cases q
  obtain ⟨v, rfl, d1⟩ := j9 d
  obtain ⟨p, xs, rfl, h1, h2⟩ := d1.scr s
  exact ⟨_, xs.length, rfl, .inl ⟨xs, h1, rfl⟩, k _ S H (Ext.refl s) (den_int.mpr (by rw [h2.length]))⟩
 ·rename_i x
  split at q
  ·rename_i hl
   cases q
   obtain ⟨v, rfl, d1⟩ := j9 d
   exact ⟨_, x.length, rfl, by rw [d1.str]; exact ⟨wU hl, rfl⟩, k _ S H (Ext.refl s) (den_int.mpr rfl)⟩
  ·cases q
 ·cases q
noncomputable def gF : List D -> Option D
 | [.lst l] => some (.tup l)
 | [.tup l] => some (.tup l)
 | [.scr l] => some (.tup l)
 | _ => none
theorem jt : SRB K (Jn K) gF := fun S H vs ds g Q s d q k => by
 unfold gF at q
 split at q
 ·rename_i l
  cases q
  obtain ⟨v, rfl, d1⟩ := j9 d
  obtain ⟨p, xs, rfl, h1, h2⟩ := d1.lst s
  refine ⟨p, xs, rfl, .inl ⟨.inl h1, fun q hq => ?_⟩⟩
  have z := Ext.new (o := .tup xs) s hq
  exact k _ _ _ z (den_tup.mpr ⟨q, _, rfl, TpA.of a8, h2.mono z.sh⟩)
 ·rename_i l
  cases q
  obtain ⟨v, rfl, d1⟩ := j9 d
  have d' : Den K S (.tup l) v := d1.elim id fun ⟨_, _, _, e, _⟩ => by cases e
  obtain ⟨p, xs, rfl, h1, h2⟩ := d1.tup s
  exact ⟨p, xs, rfl, .inr ⟨h1, k _ S H (Ext.refl s) d'⟩⟩
 ·rename_i l
  cases q
  obtain ⟨v, rfl, d1⟩ := j9 d
  obtain ⟨p, xs, rfl, h1, h2⟩ := d1.scr s
  refine ⟨p, xs, rfl, .inl ⟨h1, fun q hq => ?_⟩⟩
  have z := Ext.new (o := .tup xs) s hq
  exact k _ _ _ z (den_tup.mpr ⟨q, _, rfl, TpA.of a8, h2.mono z.sh⟩)
 ·cases q
noncomputable def Gw : List D -> Option (List D)
 | [.lst l] => some l
 | [.tup l] => some l
 | [.scr l] => some l
 | _ => none
noncomputable def A9 : List D -> Option D
 | [.int i, .int j] => some (.int (if j > i then j else i))
 | _ => none
noncomputable def CT : List D -> Option D
 | [.int i, .int j] => some (.int (if j < i then j else i))
 | _ => none
theorem Fx : SRB K Ln A9 := fun S H vs ds g Q s d q k => by
 unfold A9 at q
 split at q
 ·rename_i i j
  cases q
  obtain ⟨v, w, rfl, d1, d2⟩ := CJ d
  exact ⟨i, j, by rw [d1.int, d2.int], k _ S H (Ext.refl s) (den_int.mpr rfl)⟩
 ·cases q
theorem Km : SRB K KC CT := fun S H vs ds g Q s d q k => by
 unfold CT at q
 split at q
 ·rename_i i j
  cases q
  obtain ⟨v, w, rfl, d1, d2⟩ := CJ d
  exact ⟨i, j, by rw [d1.int, d2.int], k _ S H (Ext.refl s) (den_int.mpr rfl)⟩
 ·cases q
noncomputable def ec : List D -> Option (List Int)
 | [] => some []
 | .int i :: l => (ec l).map fun r => i :: r
 | _ => none
theorem tF {S : Hp} : ∀ {ds : List D} {xs : List V} {ns : List Int}, Dens K S ds xs -> ec ds = some ns -> xs = ns.map V.int /\ ds = ns.map D.int
 | [], xs, ns, h, e => by cases e; exact ⟨h.nil_of, rfl⟩
 | d :: ds, xs, ns, h, e => by
  obtain ⟨y, ys, rfl, h1, h2⟩ := h.cons_of
  cases d <;> try (cases e; done)
  rename_i i
  have e' : (ec ds).map (fun r => i :: r) = some ns := e
  cases q : ec ds with
  | none => rw [q] at e'; cases e'
  | some ms =>
   rw [q] at e'
   cases e'
   obtain ⟨k1, k2⟩ := tF h2 q
   rw [den_int.mp h1, k1]
   exact ⟨rfl, congrArg (D.int i :: ·) k2⟩
noncomputable def EB : List D -> Option D
 | [.lst l] => (ec l).map fun ns => .int ns.sum
 | _ => none
theorem K0 : SRB K (IP K) EB := fun S H vs ds g Q s d q k => by
 unfold EB at q
 split at q
 ·rename_i l
  cases qi : ec l with
  | none => rw [qi] at q; cases q
  | some ns =>
   rw [qi] at q
   cases q
   obtain ⟨v, rfl, d1⟩ := j9 d
   obtain ⟨p, xs, rfl, h1, h2⟩ := d1.lst s
   obtain ⟨e, _⟩ := tF h2 qi
   subst e
   exact ⟨p, ns, rfl, .inl h1, k _ S H (Ext.refl s) (den_int.mpr rfl)⟩
 ·cases q
noncomputable def Aq : List D -> Option D
 | [.int i] => some (.int i)
 | [.bl b] => some (.int (if b then 1 else 0))
 | _ => none
theorem IX : SRB K KL Aq := fun S H vs ds g Q s d q k => by
 unfold Aq at q
 split at q
 ·rename_i i
  cases q
  obtain ⟨v, rfl, d1⟩ := j9 d
  exact .inl ⟨i, by rw [d1.int], k _ S H (Ext.refl s) (den_int.mpr rfl)⟩
 ·rename_i i
  cases q
  obtain ⟨v, rfl, d1⟩ := j9 d
  exact .inr ⟨i, by rw [d1.bl], k _ S H (Ext.refl s) (den_int.mpr rfl)⟩
 ·cases q
@[simp] noncomputable def M2 (a : XE) : XA := fun ρ => (a ρ).bind fun d => match d with | .lst l => some l.reverse | _ => none
noncomputable def tyD : D -> Option String
 | .non => some "NoneType" | .bl _ => some "bool" | .int _ => some "int" | .str _ => some "str" | .lst _ => some "list" | .tup _ => some "tuple" | _ => none
noncomputable def Eb (t T : String) : Bool := t == T || (t == "bool" && T == "int")
def tyM (K : W.Frag) (H : Hp) (x : V) (t : String) : Prop := match x with
 | .non => t = "NoneType" | .bl _ => t = "bool" | .int _ => t = "int" | .str _ => t = "str"
 | .ref p => (t = "list" /\ ∃ xs, Rd H p (.lst xs)) \/ (t = "tuple" /\ ∃ xs, SqT K H p xs)
 | _ => False
noncomputable def Hu : List String := ["bool", "int", "str", "list", "tuple"]
noncomputable def I0 (K : W.Frag) : List V -> Hp -> VK -> Prop := fun xs H Q => ∃ x T t, xs = [x, .ty T] /\ tyM K H x t /\ T ∈ Hu /\ Q (.bl (Eb t T)) H
noncomputable def sN : List D -> Option D
 | [d, .ty T] => if T ∈ Hu then (tyD d).map fun t => .bl (Eb t T) else none
 | _ => none
theorem K8 {S H : Hp} {d : D} {v : V} {t : String} (s : Same S H) (h : DenP K S H d v) (e : tyD d = some t) : tyM K H v t := by
 cases d with
 | non => rw [h.non]; cases e; rfl
 | bl b => rw [h.bl]; cases e; rfl
 | int b => rw [h.int]; cases e; rfl
 | str b => rw [h.str]; cases e; rfl
 | lst l =>
  cases e
  obtain ⟨p, xs, rfl, h1, h2⟩ := h.lst s
  exact .inl ⟨rfl, xs, h1⟩
 | tup l =>
  cases e
  obtain ⟨p, xs, rfl, h1, h2⟩ := h.tup s
  exact .inr ⟨rfl, xs, h1⟩
 | _ => cases e
theorem Db : SRB K (I0 K) sN := fun S H vs ds g Q s d q k => by
 unfold sN at q
 split at q
 ·rename_i d0 T
  split at q
  ·rename_i hT
   cases qt : tyD d0 with
   | none => rw [qt] at q; cases q
   | some t =>
    rw [qt] at q
    cases q
    obtain ⟨v, w, rfl, d1, d2⟩ := CJ d
    exact ⟨v, T, t, by rw [d2.ty], K8 s d1 qt, hT, k _ S H (Ext.refl s) (den_bl.mpr rfl)⟩
  ·cases q
 ·cases q
end
noncomputable def xH (k : List Int) : D := .tup (k.map D.int)
noncomputable def Iq : D -> Option (List Int)
 | .tup l => if l.isEmpty then none else ec l
 | _ => none
noncomputable def keys : List D -> Option (List (List Int))
 | [] => some []
 | d :: l => (Iq d).bind fun k => (keys l).map fun r => k :: r
theorem Ax : ∀ a b : List Int, HT.dh a b = true -> HT.dh b a = false
 | [], [], h => by cases h
 | [], _ :: _, _ => rfl
 | _ :: _, [], h => by cases h
 | x :: a, y :: b, h => by
  have h' : (if x = y then HT.dh a b else decide (x < y)) = true := h
  show (if y = x then HT.dh b a else decide (y < x)) = false
  by_cases e : x = y
  ·rw [NF e] at h'; rw [NF e.symm]; exact Ax a b h'
  ·rw [NG e] at h'; rw [NG (fun z => e z.symm)]
   have := OH h'
   exact Oj (by lia)
theorem ym : ∀ a b : List Int, HT.dh a b = false -> HT.dh b a = false -> a = b
 | [], [], _, _ => rfl
 | [], _ :: _, h, _ => by cases h
 | _ :: _, [], _, h => by cases h
 | x :: a, y :: b, h, k => by
  have h' : (if x = y then HT.dh a b else decide (x < y)) = false := h
  have k' : (if y = x then HT.dh b a else decide (y < x)) = false := k
  by_cases e : x = y
  ·rw [NF e] at h'; rw [NF e.symm] at k'
   rw [e, ym a b h' k']
  ·rw [NG e] at h'; rw [NG (fun z => e z.symm)] at k'
   have := Op h'
   have := Op k'
   lia
theorem yD : ∀ a b c : List Int, HT.dh a b = false -> HT.dh b c = false -> HT.dh a c = false
 | [], [], _, _, k => k
 | [], _ :: _, _, h, _ => by cases h
 | _ :: _, _, [], _, _ => rfl
 | _ :: _, [], _ :: _, _, k => by cases k
 | x :: a, y :: b, z :: c, h, k => by
  have h' : (if x = y then HT.dh a b else decide (x < y)) = false := h
  have k' : (if y = z then HT.dh b c else decide (y < z)) = false := k
  show (if x = z then HT.dh a c else decide (x < z)) = false
  by_cases e1 : x = y
  ·rw [NF e1] at h'
   subst e1
   by_cases e2 : x = z
   ·rw [NF e2] at k' ⊢; exact yD a b c h' k'
   ·rw [NG e2] at k' ⊢; exact k'
  ·rw [NG e1] at h'
   have g1 := Op h'
   by_cases e2 : y = z
   ·subst e2
    rw [NG e1]; exact h'
   ·rw [NG e2] at k'
    have g2 := Op k'
    rw [NG (by lia)]
    exact Oj (by lia)
noncomputable def D4 (x : List Int) : List (List Int) -> List (List Int)
 | [] => [x]
 | y :: l => if HT.dh y x = true then y :: D4 x l else x :: y :: l
noncomputable def j6 (ks : List (List Int)) : List (List Int) := ks.foldr D4 []
theorem xT (x : List Int) (l : List (List Int)) : (D4 x l).Perm (x :: l) := by
 induction l with
 | nil => exact .refl _
 | cons y l ih =>
  unfold D4
  split
  ·exact (ih.cons y).trans (.swap x y l)
  ·exact .refl _
noncomputable def tX (ns : List Int) : List Int := ns.mergeSort fun a b => decide (a <= b)
theorem ki (ks : List (List Int)) : (j6 ks).Perm ks := by
 induction ks with
 | nil => exact .refl _
 | cons x l ih => exact (xT x (j6 l)).trans (ih.cons x)
theorem qy (ns : List Int) : (tX ns).Perm ns := List.mergeSort_perm _ _
theorem Ip (x : List Int) (l : List (List Int)) (h : l.Pairwise fun a b => HT.dh b a = false) : (D4 x l).Pairwise fun a b => HT.dh b a = false := by
 induction l with
 | nil => exact .cons (fun _ z => by cases z) .nil
 | cons y l ih =>
  have hy : ∀ z, z ∈ l -> HT.dh z y = false := fun z hz => List.rel_of_pairwise_cons h hz
  unfold D4
  cases q : HT.dh y x with
  | true =>
   refine .cons (fun z hz => ?_) (ih (List.Pairwise.of_cons h))
   rcases NQ.mp ((xT x l).mem_iff.mp hz) with rfl | hz
   ·exact Ax y _ q
   ·exact hy z hz
  | false =>
   refine .cons (fun z hz => ?_) h
   rcases NQ.mp hz with rfl | hz
   ·exact q
   ·exact yD z y x (hy z hz) q
theorem qG (ks : List (List Int)) : (j6 ks).Pairwise fun a b => HT.dh b a = false := by
 induction ks with
 | nil => exact .nil
 | cons x l ih => exact Ip x (j6 l) ih
theorem FW (ns : List Int) : (tX ns).Pairwise (· <= ·) := by
 have h := List.pairwise_mergeSort (le := fun a b : Int => decide (a <= b)) (fun a b c h k => by
  have := OH h; have := OH k; exact OP (by lia)) (fun a b => by
  by_cases h : a <= b
  ·simp [h]
  ·simp [show b <= a by lia]) ns
 exact h.imp fun {a b} e => OH e
theorem Cl {ks js : List (List Int)} (hp : js.Perm ks) (hw : js.Pairwise fun a b => HT.dh b a = false) : js = j6 ks :=
 List.Perm.eq_of_pairwise (fun a b _ _ h k => ym a b k h) hw (qG ks) (hp.trans (ki ks).symm)
theorem BC {ns ms : List Int} (hp : ms.Perm ns) (hw : ms.Pairwise (· <= ·)) : ms = tX ns :=
 List.Perm.eq_of_pairwise (fun a b _ _ h k => by lia) hw (FW ns) (hp.trans (qy ns).symm)
noncomputable def GG (K : W.Frag) : List V -> Hp -> VK -> Prop := fun xs H Q => ∃ p, ∃ yks : List (V × List Int), xs = [.ref p] /\ SqL K H p (yks.map (·.1)) /\ yks.length < 30000 /\ (∀ yk ∈ yks, ∃ q, yk.1 = .ref q /\ SqT K H q (yk.2.map V.int) /\ yk.2 ≠ []) /\
 ∀ (zks : List (V × List Int)) l, zks.Perm yks -> zks.Pairwise (fun a b => HT.dh b.2 a.2 = false) -> H l = none -> Q (.ref l) (upd H l (.lst (zks.map (·.1))))
noncomputable def Ar (K : W.Frag) : List V -> Hp -> VK -> Prop := fun xs H Q => AX K xs H Q \/ GG K xs H Q
noncomputable def kL : List D -> Option (List D)
 | [.lst l] => if l.length < 30000 then (match ec l with
  | some ns => some ((tX ns).map D.int)
  | none => (keys l).map fun ks => (j6 ks).map xH) else none
 | _ => none
section
variable {K : W.Frag}
theorem HG {d : D} {k : List Int} (h : Iq d = some k) : d = xH k /\ k ≠ [] := by
 cases d <;> try (cases h; done)
 rename_i l
 have h' : (if l.isEmpty then none else ec l) = some k := h
 split at h'
 ·cases h'
 ·rename_i hne
  have key : ∀ (l : List D) (k : List Int), ec l = some k -> l = k.map D.int := by
   intro l
   induction l with
   | nil => intro k e; cases e; rfl
   | cons d l ih =>
    intro k e
    cases d <;> try (cases e; done)
    rename_i i
    have e' : (ec l).map (fun r => i :: r) = some k := e
    cases q : ec l with
    | none => rw [q] at e'; cases e'
    | some m => rw [q] at e'; cases e'; rw [ih m q]; rfl
  have e := key l k h'
  subst e
  exact ⟨rfl, fun z => by subst z; exact hne rfl⟩
theorem Dr : ∀ {l : List D} {ks : List (List Int)}, keys l = some ks -> l = ks.map xH /\ ∀ k ∈ ks, k ≠ []
 | [], ks, h => by cases h; exact ⟨rfl, fun _ h => by cases h⟩
 | d :: l, ks, h => by
  have h' : ((Iq d).bind fun k => (keys l).map fun r => k :: r) = some ks := h
  cases q : Iq d with
  | none => rw [q] at h'; cases h'
  | some k =>
   rw [q] at h'
   dsimp only [Option.bind] at h'
   cases q2 : keys l with
   | none => rw [q2] at h'; cases h'
   | some r =>
    rw [q2] at h'
    cases h'
    obtain ⟨a, b⟩ := Dr q2
    obtain ⟨c, d⟩ := HG q
    refine ⟨by rw [N1, <- a, <- c], fun k hk => ?_⟩
    rcases NQ.mp hk with rfl | hk
    ·exact d
    ·exact b k hk
theorem wj : ∀ {S : Hp} {k : List Int} {xs : List V}, Dens K S (k.map D.int) xs -> xs = k.map V.int
 | S, [], xs, h => h.nil_of
 | S, i :: k, xs, h => by
  obtain ⟨y, ys, rfl, h1, h2⟩ := h.cons_of
  rw [den_int.mp h1, wj h2]
  rfl
theorem Ao {S : Hp} : ∀ {ks : List (List Int)} {xs : List V}, Dens K S (ks.map xH) xs -> (xs.zip ks).map (·.1) = xs /\ (xs.zip ks).map (·.2) = ks /\ (xs.zip ks).length = ks.length /\ ∀ yk ∈ xs.zip ks, Den K S (xH yk.2) yk.1
 | [], xs, h => by rw [h.nil_of]; exact ⟨rfl, rfl, rfl, fun _ h => by cases h⟩
 | k :: ks, xs, h => by
  obtain ⟨y, ys, rfl, h1, h2⟩ := h.cons_of
  obtain ⟨a, b, c, d⟩ := Ao h2
  refine ⟨by rw [OM, N1, a], by rw [OM, N1, b], by rw [OM, NV, c, NV], fun yk hm => ?_⟩
  rw [OM] at hm
  rcases NQ.mp hm with rfl | hm
  ·exact h1
  ·exact d yk hm
theorem ph {S : Hp} : ∀ {zks : List (V × List Int)}, (∀ yk ∈ zks, Den K S (xH yk.2) yk.1) -> Dens K S ((zks.map (·.2)).map xH) (zks.map (·.1))
 | [], _ => .nil
 | yk :: zks, h => .cons (h yk NL) (ph fun z hz => h z (NN _ hz))
theorem rH : SRF K (Ar K) kL := fun S H vs ds g Q s d q k => by
 unfold kL at q
 split at q
 ·rename_i l
  split at q
  ·rename_i hl
   obtain ⟨v, rfl, d1⟩ := j9 d
   obtain ⟨p, xs, rfl, h1, h2⟩ := d1.lst s
   cases qi : ec l with
   | some ns =>
    rw [qi] at q
    cases q
    obtain ⟨e1, e2⟩ := tF h2 qi
    subst e1 e2
    refine .inl ⟨p, ns, rfl, .inl h1, by rw [NT] at hl; exact hl, fun ms a pm pw ha => ?_⟩
    rw [BC pm pw]
    refine k a _ _ (Ext.own s ha) ha a8 ?_
    have key : ∀ ns : List Int, Dens K S (ns.map D.int) (ns.map V.int) := by
     intro ns
     induction ns with
     | nil => exact .nil
     | cons n ns ih => exact .cons (den_int.mpr rfl) ih
    exact key _
   | none =>
    rw [qi] at q
    dsimp only at q
    cases qk : keys l with
    | none => rw [qk] at q; cases q
    | some ks =>
     rw [qk] at q
     cases q
     obtain ⟨e1, e2⟩ := Dr qk
     subst e1
     obtain ⟨a, b, c, dd⟩ := Ao h2
     refine .inr ⟨p, xs.zip ks, rfl, by rw [a]; exact .inl h1, by rw [c]; rw [NT] at hl; exact hl, fun yk hm => ?_, fun zks l pm pw hl => ?_⟩
     ·obtain ⟨q, ys, e, g1, g2⟩ := kj (dd yk hm)
      have := wj g2
      subst this
      refine ⟨q, e, cV s g1, e2 _ ?_⟩
      rw [<- b]
      exact NY.mpr ⟨yk, hm, rfl⟩
     ·have e : zks.map (·.2) = j6 ks := by
       refine Cl ?_ ?_
       ·rw [<- b]; exact pm.map _
       ·rw [OG]; exact pw
      have dz : Dens K S ((zks.map (·.2)).map xH) (zks.map (·.1)) := ph fun yk hm => dd yk (pm.mem_iff.mp hm)
      rw [e] at dz
      exact k l _ _ (Ext.own s hl) hl a8 dz
  ·cases q
 ·cases q
theorem i6 {ta : TE} {a : XE} (ha : SPk K ta a) : ST K (KH K ta) (jm a) := Lm ha
end
noncomputable def Hc : D -> D -> Option D := dI fun i j => some (.int (i + j))
section
variable {K : W.Frag}
theorem Im : SR2 K (ipI fun i j => i + j) Hc := GS (g := fun i j => .int (i + j)) fun i j d h => by cases h; rfl
end
theorem JR {K : W.Frag} {ta : TE} {a : XE} (ha : SQ K ta a) : ST K (KH K ta) (jm a) := fun ρ σ S H Q b r x k => by
 unfold jm at x
 cases qa : a ρ with
 | none => rw [qa] at x; cases x
 | some da =>
  rw [qa] at x
  exact ha ρ σ S H _ da r qa fun v S1 H1 z1 d1 => ⟨b, GA (Same.refl H1) (.inl d1) x, k S1 H1 z1⟩
theorem BZ (g : XG) (m : XS) (d : D) (l : List D) (ρ : Env) : gr g m (d :: l) ρ = (g d ρ).bind fun ρ1 => match m ρ1 with
  | some (.nx ρ2) => gr g m l ρ2
  | some (.ct ρ2) => gr g m l ρ2
  | some (.bk ρ2) => some (.nx ρ2)
  | some (.rt d) => some (.rt d)
  | some (.ro d) => some (.ro d)
  | none => none := rfl
theorem EK {α : Type} {g : XG} {m : XS} (enc : α -> D) (P : List α -> Env -> Prop) (R : D -> Prop) (B : Env -> Prop) (l : List α) (ρ0 : Env) (h0 : P [] ρ0)
  (step : ∀ pre a post ρ, l = pre ++ a :: post -> P pre ρ -> ∃ ρ1 o, g (enc a) ρ = some ρ1 /\ m ρ1 = some o /\ (match o with | .nx ρ2 => P (pre ++ [a]) ρ2 | .ct ρ2 => P (pre ++ [a]) ρ2 | .bk ρ2 => B ρ2 | .rt d => R d | .ro _ => False)) :
  ∃ o, gr g m (l.map enc) ρ0 = some o /\ (match o with | .nx ρ' => P l ρ' \/ B ρ' | .rt d => R d | _ => False) := by
 have key : ∀ (post pre : List α) (ρ : Env), l = pre ++ post -> P pre ρ -> ∃ o, gr g m (post.map enc) ρ = some o /\ (match o with | .nx ρ' => P l ρ' \/ B ρ' | .rt d => R d | _ => False) := by
  intro post
  induction post with
  | nil =>
   intro pre ρ e p
   rw [Ol] at e
   subst e
   exact ⟨_, rfl, .inl p⟩
  | cons a post ih =>
   intro pre ρ e p
   obtain ⟨ρ1, o, h1, h2, h3⟩ := step pre a post ρ e p
   rw [N1, BZ, h1]
   dsimp only [Option.bind]
   rw [h2]
   cases o with
   | nx ρ2 => exact ih (pre ++ [a]) ρ2 (by rw [e, N9]; rfl) h3
   | ct ρ2 => exact ih (pre ++ [a]) ρ2 (by rw [e, N9]; rfl) h3
   | bk ρ2 => exact ⟨_, rfl, .inr h3⟩
   | rt d => exact ⟨_, rfl, h3⟩
   | ro d => exact h3.elim
 exact key l [] ρ0 rfl h0
theorem dN {α : Type} {g : XG} {m : XS} (enc : α -> D) (P : List α -> Env -> Prop) (l : List α) (ρ0 : Env) (h0 : P [] ρ0)
  (step : ∀ pre a post ρ, l = pre ++ a :: post -> P pre ρ -> ∃ ρ1 ρ2, g (enc a) ρ = some ρ1 /\ (m ρ1 = some (.nx ρ2) \/ m ρ1 = some (.ct ρ2)) /\ P (pre ++ [a]) ρ2) :
  ∃ ρ', gr g m (l.map enc) ρ0 = some (.nx ρ') /\ P l ρ' := by
 obtain ⟨o, h1, h2⟩ := EK (g := g) (m := m) enc P (fun _ => False) (fun _ => False) l ρ0 h0 fun pre a post ρ e p => by
  obtain ⟨ρ1, ρ2, k1, k2, k3⟩ := step pre a post ρ e p
  rcases k2 with k2 | k2
  ·exact ⟨ρ1, _, k1, k2, k3⟩
  ·exact ⟨ρ1, _, k1, k2, k3⟩
 cases o with
 | nx ρ' => exact ⟨ρ', h1, h2.elim id False.elim⟩
 | rt d => exact h2.elim
 | ro d => exact h2.elim
 | bk ρ' => exact h2.elim
 | ct ρ' => exact h2.elim
noncomputable def iZ (g : XG) (c : XT) (e : XE) (ρ0 : Env) (d : D) : Option (Option D) := (g d ρ0).bind fun ρ1 => (c ρ1).bind fun b => if b = true then (e ρ1).map some else some none
theorem lj {α : Type} {g : XG} {c : XT} {e : XE} {ρ0 : Env} (enc : α -> D) (f : α -> Option D) : ∀ (l : List α), (∀ a ∈ l, iZ g c e ρ0 (enc a) = some (f a)) -> dW g c e ρ0 (l.map enc) = some (l.filterMap f)
 | [], _ => rfl
 | a :: l, h => by
  have ih := lj (g := g) (c := c) (e := e) (ρ0 := ρ0) enc f l fun b hb => h b (NN _ hb)
  have h1 := h a NL
  unfold iZ at h1
  rw [N1, dW]
  cases q1 : g (enc a) ρ0 with
  | none => rw [q1] at h1; cases h1
  | some ρ1 =>
   rw [q1] at h1
   dsimp only [Option.bind] at h1 ⊢
   cases q2 : c ρ1 with
   | none => rw [q2] at h1; cases h1
   | some b =>
    rw [q2] at h1
    dsimp only at h1 ⊢
    cases b with
    | false =>
     rw [NG (by decide)] at h1 ⊢
     rw [ih, List.filterMap_cons]
     have : f a = none := (Oc h1).symm
     rw [this]
    | true =>
     rw [NF rfl] at h1 ⊢
     cases q3 : e ρ1 with
     | none => rw [q3] at h1; cases h1
     | some y =>
      rw [q3] at h1
      have : f a = some y := (Oc h1).symm
      rw [ih, List.filterMap_cons, this]
      rfl
theorem cM {α : Type} {g : XG} {e : XE} {ρ0 : Env} (enc : α -> D) (f : α -> D) (l : List α) (h : ∀ a ∈ l, iZ g gq e ρ0 (enc a) = some (some (f a))) : dW g gq e ρ0 (l.map enc) = some (l.map f) := by
 rw [lj enc (fun a => some (f a)) l h]
 exact congrArg some (congrFun List.filterMap_eq_map' l)
theorem BB {c : XT} {m : XS} (P : Env -> Prop) (μ : Env -> Nat) (E : Env -> Prop) (step : ∀ ρ, P ρ -> (c ρ = some false /\ E ρ) \/ (c ρ = some true /\ ∃ ρ2, m ρ = some (.nx ρ2) /\ P ρ2 /\ μ ρ2 < μ ρ)) (ρ0 : Env) (h0 : P ρ0) : ∃ ρ', kx c m ρ0 = some (.nx ρ') /\ E ρ' := by
 have key : ∀ (n : Nat) (ρ : Env), μ ρ = n -> P ρ -> ∃ ρ', kx c m ρ = some (.nx ρ') /\ E ρ' := by
  intro n
  induction n using Nat.strongRecOn with
  | ind n ih =>
   intro ρ hn p
   rcases step ρ p with ⟨h1, h2⟩ | ⟨h1, ρ2, h2, h3, h4⟩
   ·exact ⟨ρ, B4 h1, h2⟩
   ·obtain ⟨ρ', k1, k2⟩ := ih (μ ρ2) (by lia) ρ2 rfl h3
    exact ⟨ρ', AC h1 h2 k1, k2⟩
 exact key _ ρ0 rfl h0
noncomputable abbrev prD (p : Int × Int) : D := .tup [.int p.1, .int p.2]
noncomputable abbrev F4 (r : List (Int × Int)) : D := .tup (r.map prD)
noncomputable abbrev D5 (r : List (Int × Int)) : D := .lst (r.map prD)
@[simp] theorem rP {α : Type} (l : List α) (x : α) : atI (l ++ [x]) (-1) = some x := by
 unfold atI ixN
 rw [NG (by decide), NO, Oi, NF (by lia)]
 have : ((-1 : Int) + ((l.length + 1 : Nat) : Int)).toNat = l.length := by lia
 dsimp only [Option.bind]
 rw [this]
 simp
theorem JI {α : Type} {l : List α} {j : Nat} {x : α} (h : l[j]? = some x) : atI l (j : Int) = some x := by
 have := (Og.mp h).1
 unfold atI ixN
 rw [NF (by lia), NF (by lia)]
 dsimp only [Option.bind]
 rw [Int.toNat_natCast]
 exact h
@[simp] theorem yH (l : List O) (x : O) (f : O -> O) : vG (l ++ [x]) (-1) f = l ++ [f x] := by
 unfold vG ixN
 rw [NG (by decide), NO, Oi, NF (by lia)]
 have : ((-1 : Int) + ((l.length + 1 : Nat) : Int)).toNat = l.length := by lia
 dsimp only
 rw [this]
 simp
@[simp] theorem Kt {α : Type} (l : List α) (a b : α) : atI (l ++ [a, b]) (-1) = some b := by
 have := rP (l ++ [a]) b
 rw [N9] at this
 exact this
@[simp] theorem LA {α : Type} (a : α) : atI [a] (-1) = some a := rP [] a
@[simp] theorem Jo (l : List O) (a b : O) (f : O -> O) : vG (l ++ [a, b]) (-1) f = l ++ [a, f b] := by
 have := yH (l ++ [a]) b f
 rw [N9, N9] at this
 exact this
@[simp] theorem KY (a : O) (f : O -> O) : vG [a] (-1) f = [f a] := yH [] a f
@[simp] theorem Lr (i : Int) : sL (.int i) = some (.int i) := rfl
@[simp] theorem LG (i : Bool) : sL (.bl i) = some (.bl i) := rfl
@[simp] theorem KA (i : Str) : sL (.str i) = some (.str i) := rfl
@[simp] theorem Lb : sL .non = some .non := rfl
@[simp] theorem LF (a b : O) (f : O -> O) : vG [a, b] 1 f = [a, f b] := rfl
theorem Ba {n : Nat} : ixN (n + 1) (-1) = some n := by
 unfold ixN
 rw [NG (by decide), NF (by lia)]
 congr 1
 lia
section
variable (i j : Int) (a b : List D) (neg : Bool) (ρ : Env)
@[simp] theorem Na : AU (.int i) (.int j) = some (.int (i - j)) := rfl
@[simp] theorem MN : fJ (.int i) (.int j) = some (.int (i + j)) := rfl
@[simp] theorem Ml : Hc (.int i) (.int j) = some (.int (i + j)) := rfl
@[simp] theorem Nl : dLt (.int i) (.int j) = some (.bl (decide (i < j))) := rfl
@[simp] theorem Nd : dLe (.int i) (.int j) = some (.bl (decide (i <= j))) := rfl
@[simp] theorem No : dGt (.int i) (.int j) = some (.bl (decide (j < i))) := rfl
@[simp] theorem Nq : dGe (.int i) (.int j) = some (.bl (decide (j <= i))) := rfl
@[simp] theorem M4 : gn (.int i) = some (.int (-i)) := rfl
@[simp] theorem Mu {i j : Int} (h : -18446744073709551616 < j /\ j < 18446744073709551616) : Hn (.int i) (.int j) = some (.int (i * j)) := lN (.inr h)
@[simp] theorem Mv {i j : Int} (h : -18446744073709551616 < i /\ i < 18446744073709551616) : Hn (.int i) (.int j) = some (.int (i * j)) := lN (.inl h)
@[simp] theorem M0 {i j : Int} (h : 0 < j /\ j < 1073741824) : uY (.int i) (.int j) = some (.int (i / j)) := lN h
@[simp] theorem MP {i j : Int} (h : 0 < j) : mM (.int i) (.int j) = some (.int (i % j)) := lN h
@[simp] theorem GP {i j : Int} (h : 0 <= j /\ j <= 1000000 /\ i.natAbs < 18446744073709551616) : zn (.int i) (.int j) = some (.int (i ^ j.toNat)) := lN h
theorem GV : fJ (.lst a) (.lst b) = if a.length + b.length <= LIM then some (.lst (a ++ b)) else none := rfl
theorem Hb : fJ (.tup a) (.tup b) = if a.length + b.length <= LIM then some (.tup (a ++ b)) else none := rfl
@[simp] theorem M5 (d : D) : Mw neg d .non = some (.bl (if neg then !wH d else wH d)) := rfl
@[simp] theorem KQ : wH .non = true := rfl
@[simp] theorem Ld : wH (.int i) = false := rfl
@[simp] theorem Kz : wH (.tup a) = false := rfl
@[simp] theorem MZ : dIx (.lst a) (.int i) = atI a i := rfl
@[simp] theorem MC : dIx (.tup a) (.int i) = atI a i := rfl
@[simp] theorem M1 : dIx (.scr a) (.int i) = atI a i := rfl
@[simp] theorem Md : AG (.lst a) = some (!a.isEmpty) := rfl
@[simp] theorem Mq : AG (.tup a) = some (!a.isEmpty) := rfl
@[simp] theorem LR : AG (.scr a) = some (!a.isEmpty) := rfl
@[simp] theorem Mf (x : Bool) : AG (.bl x) = some x := rfl
@[simp] theorem LL : AG (.int i) = some (i != 0) := rfl
@[simp] theorem Mg : AG .non = some false := rfl
@[simp] theorem Mm : sF [.lst a] = some (.int a.length) := rfl
@[simp] theorem LP : sF [.tup a] = some (.int a.length) := rfl
@[simp] theorem Mc : sF [.scr a] = some (.int a.length) := rfl
@[simp] theorem Mr : gF [.lst a] = some (.tup a) := rfl
@[simp] theorem LZ : gF [.tup a] = some (.tup a) := rfl
@[simp] theorem LS : Gw [.lst a] = some a := rfl
@[simp] theorem Mo : Gw [.tup a] = some a := rfl
@[simp] theorem L8 : Gw [.scr a] = some a := rfl
@[simp] theorem MF : A9 [.int i, .int j] = some (.int (if j > i then j else i)) := rfl
@[simp] theorem M7 : CT [.int i, .int j] = some (.int (if j < i then j else i)) := rfl
@[simp] theorem MU : Aq [.int i] = some (.int i) := rfl
@[simp] theorem Mx (x : Bool) : Aq [.bl x] = some (.int (if x then 1 else 0)) := rfl
@[simp] theorem Mj : Ih (.lst a) = some a := rfl
@[simp] theorem L6 : Ih (.tup a) = some a := rfl
@[simp] theorem L7 : Ih (.scr a) = some a := rfl
@[simp] theorem MJ (lo hi : Option Int) : dSl (.lst a) lo hi = some (.lst (jF a lo hi)) := rfl
@[simp] theorem MH (lo hi : Option Int) : dSl (.tup a) lo hi = some (.tup (jF a lo hi)) := rfl
@[simp] theorem ML (lo hi : Option Int) : dSl (.scr a) lo hi = some (.lst (jF a lo hi)) := rfl
@[simp] theorem Nc (y : XGs) : b9 y (.tup a) ρ = y a ρ := rfl
@[simp] theorem Nv (x : XG) (y : XGs) (d : D) : au x y (d :: a) ρ = (x d ρ).bind (y a) := rfl
@[simp] theorem Nu : bV [] ρ = some ρ := rfl
@[simp] theorem Mp : sN [.int i, .ty "int"] = some (.bl true) := rfl
@[simp] theorem Me : sN [.int i, .ty "bool"] = some (.bl false) := rfl
@[simp] theorem LV : sN [.tup a, .ty "tuple"] = some (.bl true) := rfl
@[simp] theorem L3 : sN [.lst a, .ty "list"] = some (.bl true) := rfl
@[simp] theorem LI (x : Bool) : sN [.bl x, .ty "bool"] = some (.bl true) := rfl
theorem IM {j : Int} (h : j < 1000000 /\ -1000000 < j) : Ew [.int j] = some (dH 0 j.toNat) := lN h
theorem Kg {i j : Int} (h : j < 4000000000000000000 /\ -4000000000000000000 < i /\ i < 4000000000000000000 /\ -4000000000000000000 < j) : Ew [.int i, .int j] = some (dH i (j - i).toNat) := lN h
end
noncomputable abbrev owl (l : List D) : Sl := .ow (.lst (l.map O.sh))
@[simp] theorem KJ (os : List O) : Ia (.ow (.lst os)) = (shs os).map D.lst := rfl
@[simp] theorem Lx : shs [] = some [] := rfl
@[simp] theorem Bc (d : D) (l : List O) : shs (.sh d :: l) = (shs l).map fun r => d :: r := rfl
@[simp] theorem KW (l : List D) : shs (l.map O.sh) = some l := u8 l
@[simp] theorem FO {α : Type} (f : α -> D) (l : List α) : shs (l.map (O.sh ∘ f)) = some (l.map f) := by rw [<- Oa]; exact u8 _
@[simp] theorem Kv {α : Type} (f : α -> D) (l : List α) : shs (l.map fun a => O.sh (f a)) = some (l.map f) := FO f l
@[simp] theorem Ib : ∀ (a b : List O), shs (a ++ b) = (shs a).bind fun x => (shs b).map fun y => x ++ y
 | [], b => by cases h : shs b <;> simp [h]
 | .sh d :: a, b => by
  rw [List.cons_append, Bc, Bc, Ib a b]
  cases shs a with
  | none => rfl
  | some x => cases shs b <;> rfl
 | .dic _ :: _, _ => rfl
 | .lst _ :: a, b => rfl
 | .tup _ :: a, b => rfl
@[simp] theorem KN (o : O) : fD o [] = some o := by unfold fD; rfl
@[simp] theorem Kx (l : List O) (k : Int) (r : List Int) : fD (.lst l) (k :: r) = (atI l k).bind fun o => fD o r := rfl
@[simp] theorem KZ (l : List O) (k : Int) (r : List Int) : fD (.tup l) (k :: r) = (atI l k).bind fun o => fD o r := rfl
@[simp] theorem KM (o q : O) : lv o [] q = q := by unfold lv; rfl
@[simp] theorem KB (l : List O) (k : Int) (r : List Int) (q : O) : lv (.lst l) (k :: r) q = .lst (vG l k fun o => lv o r q) := rfl
@[simp] theorem Lk (l : List O) (k : Int) (r : List Int) (q : O) : lv (.tup l) (k :: r) q = .tup (vG l k fun o => lv o r q) := rfl
@[simp] theorem L4 (d : D) : O.d (.sh d) = d := by unfold O.d; rfl
@[simp] theorem Lz (l : List O) : O.d (.lst l) = .lst (O.ds l) := by rw [O.d]
@[simp] theorem LD (l : List O) : O.d (.tup l) = .tup (O.ds l) := by rw [O.d]
@[simp] theorem Ky : O.ds [] = [] := by rw [O.ds]
@[simp] theorem D0 (o : O) (l : List O) : O.ds (o :: l) = o.d :: O.ds l := by rw [O.ds]
@[simp] theorem FL : ∀ (a b : List O), O.ds (a ++ b) = O.ds a ++ O.ds b
 | [], b => by simp
 | o :: a, b => by simp [FL a b]
@[simp] theorem zV : ∀ l : List D, O.ds (l.map O.sh) = l
 | [] => by simp
 | d :: l => by simp [zV l]
@[simp] theorem Ks {α : Type} (f : α -> D) (l : List α) : O.ds (l.map (O.sh ∘ f)) = l.map f := by rw [<- Oa]; exact zV _
@[simp] theorem MB {α : Type} (a b : α) : atI [a, b] 0 = some a := rfl
@[simp] theorem MY {α : Type} (a b : α) : atI [a, b] 1 = some b := rfl
@[simp] theorem MG {α : Type} (a b c : α) : atI [a, b, c] 0 = some a := rfl
@[simp] theorem M8 {α : Type} (a b c : α) : atI [a, b, c] 1 = some b := rfl
@[simp] theorem MW {α : Type} (a b c : α) : atI [a, b, c] 2 = some c := rfl
theorem ic : LIM = 1000000 := by unfold LIM; rfl
@[simp] theorem Nb : (0 : Nat) <= LIM := Ov _
@[simp] theorem Ni : (1 : Nat) <= LIM := by rw [ic]; decide
@[simp] theorem Nm : (2 : Nat) <= LIM := by rw [ic]; decide
@[simp] theorem Nj : (3 : Nat) <= LIM := by rw [ic]; decide
@[simp] theorem Nt : (4 : Nat) <= LIM := by rw [ic]; decide
@[simp] theorem NA : (5 : Nat) <= LIM := by rw [ic]; decide
@[simp] theorem Nn : (6 : Nat) <= LIM := by rw [ic]; decide
@[simp] theorem NB : (7 : Nat) <= LIM := by rw [ic]; decide
@[simp] theorem NC : (8 : Nat) <= LIM := by rw [ic]; decide
@[simp] theorem ND : (9 : Nat) <= LIM := by rw [ic]; decide
@[simp] theorem M3 : (10 : Nat) <= LIM := by rw [ic]; decide
@[simp] theorem MI : (0 : Nat) < LIM := by rw [ic]; decide
theorem AQ (n : Nat) : ∀ r : List (Int × Int), okDs (n + 1) (r.map prD) = true
 | [] => by simp [okDs]
 | p :: r => by rw [N1, okDs, AQ n r]; simp [prD, okD, okDs]
@[simp] theorem Lv (neg : Bool) (i j : Int) : dEq neg (.int i) (.int j) = some (.bl (if neg then !decide (i = j) else decide (i = j))) := by
 unfold dEq
 rw [NF ⟨by simp [okD], by simp [okD]⟩]
 have : eqD (.int i) (.int j) = decide (i = j) := by simp [eqD]; by_cases h : i = j <;> simp [h]
 rw [this]
@[simp] theorem LQ (neg : Bool) (i j : Bool) : dEq neg (.bl i) (.bl j) = some (.bl (if neg then !decide (i = j) else decide (i = j))) := by
 unfold dEq
 rw [NF ⟨by simp [okD], by simp [okD]⟩]
 have : eqD (.bl i) (.bl j) = decide (i = j) := by simp [eqD]; by_cases h : i = j <;> simp [h]
 rw [this]
theorem xS {K : W.Frag} {S : Hp} : ∀ ns : List Int, Dens K S (ns.map D.int) (ns.map V.int)
 | [] => .nil
 | n :: ns => .cons (den_int.mpr rfl) (xS ns)
theorem D9 {K : W.Frag} {H : Hp} {a : Addr} {ns : List Int} {m : List D -> Option O} {E : XK} (hS : SqL K H a (ns.map V.int)) (h : (m [.scr (ns.map D.int)]).map O.d = some (.bl true)) : iY K 1 m [.ref a] H (fun v _ => v = .bl true) E := by
 cases q : m [.scr (ns.map D.int)] with
 | none => rw [q] at h; cases h
 | some o =>
  rw [q] at h
  have e : o.d = .bl true := Oc h
  exact ⟨rfl, H, [.scr (ns.map D.int)], o, Same.refl _, .cons (den_scr.mpr ⟨a, _, rfl, hS, xS ns⟩) .nil, q, fun v fp S' H' z ow _ _ => by
   have dv := ow.denH z.sub
   rw [e] at dv
   exact den_bl.mp dv⟩
end M
namespace L2
open PySem PySem.Spec PyProof.Rows
theorem sU : bootBuiltins "len" = some (.builtin "len") := by decide +kernel
theorem nW : bootBuiltins "sorted" = some (.builtin "sorted") := by decide +kernel
theorem GI : bootBuiltins "max" = some (.builtin "max") := by decide +kernel
theorem G9 : bootBuiltins "min" = some (.builtin "min") := by decide +kernel
theorem Ji : bootBuiltins "sum" = some (.builtin "sum") := by decide +kernel
theorem fA : bootBuiltins "isinstance" = some (.builtin "isinstance") := by decide +kernel
theorem dD : bootBuiltins "tuple" = some (.type "tuple") := by decide +kernel
theorem Gm : bootBuiltins "int" = some (.type "int") := by decide +kernel
section
variable {X : Cx}
theorem nU {K : W.Frag} {t T : String} (ht : t ∈ ["NoneType", "bool", "int", "str", "list", "tuple"]) (hT : T ∈ ["bool", "int", "str", "list", "tuple"]) : W.kitOne K (.type t) (.type T) = some (M.Eb t T) := by
 simp only [NQ, List.not_mem_nil, or_false] at ht hT
 rcases ht with rfl | rfl | rfl | rfl | rfl | rfl <;> rcases hT with rfl | rfl | rfl | rfl | rfl <;> kernel_rfl
theorem AW : ∀ a b : List Int, Srt.jG a b = HT.dh a b
 | [], [] => rfl
 | [], _ :: _ => rfl
 | _ :: _, [] => rfl
 | x :: xs, y :: ys => by
  rw [HT.BO, <- AW xs ys]
  rfl
end
end L2
namespace Rev
open PySem
section
variable {prog : Program} {w : World} {A : Around} {s : Shared} {R : Result -> Shared -> Prop} {I : Addr} {fp wr : List Addr} {G : Array GenState -> Array GenState -> Prop} {n : Nat} {P : Nat -> Value -> Prop} {St : Nat -> Shared -> Prop}
end
section
variable {prog : Program} {w : World} {A : Around} {E : Value -> Shared -> Prop} {s : Shared} {I : Addr} {fp wr : List Addr} {G : Array GenState -> Array GenState -> Prop} {n : Nat} {P : Nat -> Value -> Prop} {St : Nat -> Shared -> Prop}
end
end Rev
namespace L2
open PySem PySem.Spec PyProof.Rows
theorem AK : bootBuiltins "reversed" = some (.type "reversed") := by decide +kernel
section
variable {X : Cx} {tg : Expr}
theorem cU {l : Expr} {tl : TE} (hl : PE X l tl) : PI X tg l (JA X.K tl) := by
 intro pins s σ H R I h
 refine thn (hl pins s σ H _ I h) fun v s1 h1 => ?_
 obtain ⟨x, H1, I1, r1, a, e, q⟩ := h1
 subst e
 cases r1
 rcases q with ⟨⟨xs, hq⟩, q⟩ | ⟨⟨xs, hq⟩, q⟩
 ·obtain ⟨its, rv, p, hz⟩ := I1.list hq
  refine wpAny_pyIter_list p.isList ⟨s1.heap.objs.size, [s1.heap.objs.size], _, _, H1, rfl, I1.kept (t' := s1.toks) fun b o e => NW _ e, DT a _, ⟨_, Od _ rfl, rfl, rfl⟩, fun b hb => ?_, q⟩
  rw [NI.mp hb]
  exact I1.fpOk (NK _) I1.fresh
 ·obtain ⟨its, rv, p, hz⟩ := I1.tuple hq
  refine wpAny_pyIter_tuple (show s1.heap.IsTuple a its.toArray from p) ⟨s1.heap.objs.size, [s1.heap.objs.size], _, _, H1, rfl, I1.kept (t' := s1.toks) fun b o e => NW _ e, Cw a _, ⟨_, Od _ rfl, rfl, rfl⟩, fun b hb => ?_, q⟩
  rw [NI.mp hb]
  exact I1.fpOk (NK _) I1.fresh
end
section
variable {X : Cx} {tg : Expr}
theorem yL : ∀ {vs : List Value} {ns : List Int}, IntsAre vs ns -> Vals (ns.map V.int) vs
 | _, _, .nil => .nil
 | _, _, .cons n t h => .cons ⟨t, rfl⟩ (yL h)
theorem call_sortedI : CallR X (.builtin "sorted") (AX X.K) := by
 intro pins s σ H xs us Q I r h
 obtain ⟨p, ns, rfl, hS, h64, k⟩ := h
 obtain ⟨u, rfl, ru⟩ := r.one
 cases ru
 obtain ⟨its, rv, pl, hz⟩ := I.list hS
 have hI : IntsAre its ns := qA rv
 have hl : its.length = ns.length := by have := rv.length; rw [NT] at this; exact this.symm
 refine Srt.zP pl.isList hI (by rw [sizeLine_eq]; lia) fun out ms ho perm pw => ?_
 obtain ⟨e, at1⟩ := sortedAll_at s.heap its out
 have fresh : s.heap.objs.size <= s.heap.objs.size + 1 := Nat.le_succ _
 refine ⟨.ref (s.heap.objs.size + 1), upd H (s.heap.objs.size + 1) (.lst (ms.map V.int)), I.laid (t' := s.toks) (fun b o hb => sortedAll_old hb) fresh ?_, rfl, k ms _ perm pw (I.hok.fresh fresh)⟩
 exact ⟨by rw [NT, perm.length_eq, sizeLine_eq]; lia, out.toList, e, yL ho, by simpa using at1⟩
theorem DW (hc : X.calm = true) : CallR X (.builtin "sum") (IP X.K) := by
 intro pins s σ H xs us Q I r h
 obtain ⟨p, ns, rfl, hS, q⟩ := h
 obtain ⟨u, rfl, ru⟩ := r.one
 cases ru
 obtain ⟨its, rv, pl, hz⟩ := I.list hS
 have hI : IntsAre its ns := qA rv
 obtain ⟨ys, e⟩ := hI.allInts.items
 have hl := pl.isList
 have en : ns = ys.toList.map (·.1) := by
  rw [<- nums_intItems, <- e]
  simpa using hI.numsOf.symm
 rw [e] at hl
 refine sum_intListG (I.ok.hd hc) hl fun h' tk t' hk => ⟨.int ns.sum, H, I.kept hk, ⟨t', ?_⟩, q⟩
 rw [preSum_eq, List.take_of_length_le (by simp), en]
end
end L2
namespace HT
open PySem PySem.Spec PyProof.Rows
section
variable {prog : Program} {w : World} {A : Around} {E : Value -> Shared -> Prop} {s : Shared}
theorem oz {t sl : Addr} {items : Array Value} {vl vu : Value} {lo hi : Option Int} {Q : Value -> Shared -> Prop} (ht : IsTup s.heap t items) (hs : s.heap.IsSliceOf sl vl vu .none) (pl : IsPart vl lo) (pu : IsPart vu hi)
  (hw : sIx items.size 0 lo = 0 /\ sIx items.size items.size hi = items.size) (h : Q (.ref t) s) : wpAny (model prog w) A (getItem (.ref t) (.ref sl)) Q E s := by
 obtain ⟨os, hos, hcs, hds⟩ := id hs
 have hTs : s.TypeIs (.ref sl) "slice" := ⟨os, hos, hcs⟩
 unfold getItem
 try with_reducible refine OB ?_
 first | refine NH (NJ ?_) | skip
 refine NH (wpAny_sequenceKey ht.typeIs (by decide) ?_)
 refine NH (wpAny_callSpecial?_slot (name := Str.ofString "__getitem__") ht.typeIs PyProof.Rows.slot_tuple_getitem
  (wpAny_call_entry PyProof.Rows.slot_tuple_getitem ht.typeIs entry_tuple_getitem ?_ (args_tuple_getitem _ _)))
 show wpAny _ _ (Builtin.Tuple.tupleItemsOf (.ref t) >>= _) _ _ s
 refine NH (tupleItemsOf_ ht ?_)
 refine NH (wpAny_typeOf hTs ?_)
 rw [NF (by decide)]
 refine NH (ll hs pl pu ?_)
 have hyes : ((((sIx items.size 0 lo : Nat) : Int) == 0 && (1 : Int) == 1 && (sIx items.size items.size hi - sIx items.size 0 lo) == items.size) = true) := by
  rw [hw.1, hw.2]
  simp
 show wpAny _ _ (if (((sIx items.size 0 lo : Nat) : Int) == 0 && (1 : Int) == 1 && (sIx items.size items.size hi - sIx items.size 0 lo) == items.size) = true then _ else _) _ _ s
 rw [NF hyes]
 refine NH (m := Builtin.Tuple.tupleIsExact _) (NH (wpAny_typeOf ht.typeIs (NJ ?_)))
 rw [NF (by decide)]
 exact NH (wpAny_rule (NJ ⟨_, rfl, NJ h⟩))
end
end HT
namespace L2
open PySem PySem.Spec PyProof.Rows M
theorem Inv.rdl {X : Cx} {pins : List (Addr × Obj)} {σ : St} {H : Hp} {s : Shared} {l : Addr} {xs : List V} (I : Inv X pins σ H s) (h : Rd H l (.lst xs)) : xs.length <= sizeLine /\ ∃ (its : List Value) (n : Nat), Vals xs its /\ xs.length = its.length /\ s.heap.get? l = some { cls := .type "list", data := .seq its.toArray n } := by
 obtain ⟨h1, its, n, r, e⟩ := (show ObjOk X.prog X.w H s.heap l (.lst xs) from h.ok I.hok)
 exact ⟨h1, its, n, r, r.length, e⟩
section
variable {X : Cx}
theorem op_catM : OpR X (binaryOp .Add) Je := by
 intro pins s σ H x y v u Q I rx ry h
 obtain ⟨l, b, xs, zs, rfl, rfl, hH, hB, hz, q⟩ := h
 cases rx
 cases ry
 obtain ⟨z, its, n, r, hl, e⟩ := I.rdl hH
 obtain ⟨z2, its2, n2, r2, hl2, e2⟩ := I.rdl hB
 refine PySem.P.add_list e e2 ?_ (by rw [NZ, NZ]; lia)
 have ea : its.toArray ++ its2.toArray = (its ++ its2).toArray := by simp
 rw [ea]
 exact ⟨.ref _, _, I.lnew (t' := s.toks) (r.append r2) (by rw [NO]; lia), rfl, q _ I.fresh⟩
theorem op_tupM : OpR X (binaryOp .Add) (IZ X.K) := by
 intro pins s σ H x y v u Q I rx ry h
 obtain ⟨a, b, xs, ys, rfl, rfl, ha, hb, hz, q1, q2, q⟩ := h
 cases rx
 cases ry
 obtain ⟨its, r1, p1, _⟩ := I.tuple ha
 obtain ⟨its2, r2, p2, _⟩ := I.tuple hb
 have hz2 : its.length + its2.length <= sizeLine := by rw [<- r1.length, <- r2.length]; exact hz
 by_cases hv : its = []
 ·have hx : xs = [] := r1.nil_iff.mp hv
  obtain ⟨⟨cls, dd, data, sl⟩, ho, hc, n, hd⟩ := id p1
  obtain ⟨⟨cls2, dd2, data2, sl2⟩, ho2, hc2, n2, hd2⟩ := id p2
  simp only at hc hd hc2 hd2; subst hc hd hc2 hd2
  exact concat_meets ⟨_, ho, rfl⟩ ⟨_, ho2, rfl⟩ noFill_tuple_add seq_tuple_add PySem.F.slot_tuple_add PySem.F.entry_tuple_add (PySem.F.args_tuple_add_2 (.ref a) (.ref b)) (tuple_addW0 a b its.toArray its2.toArray n n2 dd dd2 sl sl2 (by simp [hv])) ⟨ho, ho2, ⟨.ref b, H, I, rfl, q2 hx⟩⟩
 ·refine HT.HM p1 p2 hv (fun z => ⟨.ref a, H, I, rfl, q1 (r2.nil_iff.mp z)⟩) (fun z => ?_) hz2
  refine ⟨.ref s.heap.objs.size, _, I.laid (t' := s.toks) (o := .tup (xs ++ ys)) (fun b ob e => NW _ e) (NK _) ?_, rfl, q _ (I.hok.fresh (NK _))⟩
  exact ⟨by rw [NO]; exact hz, _, r1.append r2, IsTup.new _ _⟩
theorem HR : OpR X (binaryOp .Add) Jh := CC
theorem cF : OpR X (binaryOp .Add) (IG X.K) := op_add.or (op_catM.or (op_tupM.or HR))
mutual
noncomputable def pyD : D -> PyData
 | .non => .none
 | .bl b => .bool b
 | .int i => .int i
 | .str x => .str x
 | .lst l => .list (pyDs l)
 | .tup l => .tuple (pyDs l)
 | _ => .none
noncomputable def pyDs : List D -> List PyData
 | [] => []
 | d :: l => pyD d :: pyDs l
end
mutual
theorem vB : ∀ (n : Nat) (d : D), okD n d = true -> (pyD d).canLay0 = true /\ (pyD d).depth <= n
 | _, .non, _ => by simp [pyD, PyData.canLay0, PyData.depth]
 | _, .bl _, _ => by simp [pyD, PyData.canLay0, PyData.depth]
 | _, .int _, _ => by simp [pyD, PyData.canLay0, PyData.depth]
 | n, .str x, h => by
  have h' : PyData.strOk x = true := by cases n <;> simpa [okD] using h
  simp [pyD, PyData.canLay0, PyData.depth, h']
 | 0, .lst l, h => by simp [okD] at h
 | n + 1, .lst l, h => by
  obtain ⟨a, b⟩ := zA n l (by simpa [okD] using h)
  simp only [pyD, PyData.canLay0, PyData.depth]
  exact ⟨a, by lia⟩
 | 0, .tup l, h => by simp [okD] at h
 | n + 1, .tup l, h => by
  obtain ⟨a, b⟩ := zA n l (by simpa [okD] using h)
  simp only [pyD, PyData.canLay0, PyData.depth]
  exact ⟨a, by lia⟩
 | n, .ty _, h => by cases n <;> simp [okD] at h
 | n, .scr _, h => by cases n <;> simp [okD] at h
 | n, .ins _ _ _, h => by cases n <;> simp [okD] at h
theorem zA : ∀ (n : Nat) (l : List D), okDs n l = true -> PyData.canLayAll0 (pyDs l) = true /\ PyData.depthAll (pyDs l) <= n
 | _, [], _ => by simp [pyDs, PyData.canLayAll0, PyData.depthAll]
 | n, d :: l, h => by
  rw [okDs, Os] at h
  obtain ⟨a, b⟩ := vB n d h.1
  obtain ⟨c, e⟩ := zA n l h.2
  simp only [pyDs, PyData.canLayAll0, PyData.depthAll, a, c]
  exact ⟨rfl, by lia⟩
end
mutual
theorem Cq : ∀ (n m : Nat) (d e : D), okD n d = true -> okD m e = true -> PyData.eqv (pyD d) (pyD e) = eqD d e
 | n, m, .non, e, _, he => by cases e <;> first | (simp [pyD, PyData.eqv, eqD]; done) | (cases m <;> simp [okD] at he)
 | n, m, .bl _, e, _, he => by cases e <;> first | (simp [pyD, PyData.eqv, eqD]; done) | (cases m <;> simp [okD] at he)
 | n, m, .int _, e, _, he => by cases e <;> first | (simp [pyD, PyData.eqv, eqD]; done) | (cases m <;> simp [okD] at he)
 | n, m, .str _, e, _, he => by cases e <;> first | (simp [pyD, PyData.eqv, eqD]; done) | (cases m <;> simp [okD] at he)
 | 0, m, .lst _, e, hd, he => by simp [okD] at hd
 | n + 1, m, .lst l, e, hd, he => by
  cases e with
  | lst l' =>
   cases m with
   | zero => simp [okD] at he
   | succ m =>
    simp only [pyD, PyData.eqv, eqD]
    exact eqvs_is n m l l' (by simpa [okD] using hd) (by simpa [okD] using he)
  | _ => first | (simp [pyD, PyData.eqv, eqD]; done) | (cases m <;> simp [okD] at he)
 | 0, m, .tup _, e, hd, he => by simp [okD] at hd
 | n + 1, m, .tup l, e, hd, he => by
  cases e with
  | tup l' =>
   cases m with
   | zero => simp [okD] at he
   | succ m =>
    simp only [pyD, PyData.eqv, eqD]
    exact eqvs_is n m l l' (by simpa [okD] using hd) (by simpa [okD] using he)
  | _ => first | (simp [pyD, PyData.eqv, eqD]; done) | (cases m <;> simp [okD] at he)
 | n, _, .ty _, _, h, _ => by cases n <;> simp [okD] at h
 | n, _, .scr _, _, h, _ => by cases n <;> simp [okD] at h
 | n, _, .ins _ _ _, _, h, _ => by cases n <;> simp [okD] at h
theorem eqvs_is : ∀ (n m : Nat) (l l' : List D), okDs n l = true -> okDs m l' = true -> PyData.eqvAll (pyDs l) (pyDs l') = eqDs l l'
 | _, _, [], [], _, _ => by simp [pyDs, PyData.eqvAll, eqDs]
 | _, _, [], _ :: _, _, _ => by simp [pyDs, PyData.eqvAll, eqDs]
 | _, _, _ :: _, [], _, _ => by simp [pyDs, PyData.eqvAll, eqDs]
 | n, m, d :: l, e :: l', hd, he => by
  rw [okDs, Os] at hd he
  rw [pyDs, pyDs, PyData.eqvAll, eqDs, Cq n m d e hd.1 he.1, eqvs_is n m l l' hd.2 he.2]
end
mutual
theorem lr {pins : List (Addr × Obj)} {σ : St} {H : Hp} {s : Shared} (I : Inv X pins σ H s) : ∀ (n : Nat) {d : D} {x : V} {v : Value}, okD n d = true -> Den X.K H d x -> RelV x v -> ∃ as, Reads s.heap v (pyD d) as
 | _, .non, x, v, _, dx, r => by rw [den_non.mp dx] at r; cases r; exact ⟨_, .none⟩
 | _, .bl b, x, v, _, dx, r => by rw [den_bl.mp dx] at r; cases r; exact ⟨_, .bool b⟩
 | _, .int i, x, v, _, dx, r => by rw [den_int.mp dx] at r; obtain ⟨t, rfl⟩ := r; exact ⟨_, .int i t⟩
 | _, .str y, x, v, _, dx, r => by rw [den_str.mp dx] at r; obtain ⟨t, rfl⟩ := r; exact ⟨_, .str y t⟩
 | 0, .lst _, x, v, h, dx, r => by simp [okD] at h
 | n + 1, .lst l, x, v, h, dx, r => by
  obtain ⟨p, xs, rfl, hp, ds⟩ := den_lst.mp dx
  cases r
  obtain ⟨_, its, k, rv, _, e⟩ := I.rdl hp
  obtain ⟨as, ra⟩ := dens_reads I n (by simpa [okD] using h) ds rv
  exact ⟨_, .list e rfl rfl (by simpa using ra)⟩
 | 0, .tup _, x, v, h, dx, r => by simp [okD] at h
 | n + 1, .tup l, x, v, h, dx, r => by
  obtain ⟨p, xs, rfl, hp, ds⟩ := kj dx
  cases r
  obtain ⟨its, rv, ⟨o, e, c, k, d⟩, _⟩ := I.tuple hp
  obtain ⟨as, ra⟩ := dens_reads I n (by simpa [okD] using h) ds rv
  exact ⟨_, .tuple e c d (by simpa using ra)⟩
 | n, .ty _, _, _, h, _, _ => by cases n <;> simp [okD] at h
 | n, .scr _, _, _, h, _, _ => by cases n <;> simp [okD] at h
 | n, .ins _ _ _, _, _, h, _, _ => by cases n <;> simp [okD] at h
theorem dens_reads {pins : List (Addr × Obj)} {σ : St} {H : Hp} {s : Shared} (I : Inv X pins σ H s) : ∀ (n : Nat) {ds : List D} {xs : List V} {vs : List Value}, okDs n ds = true -> Dens X.K H ds xs -> Vals xs vs -> ∃ as, ReadsAll s.heap vs (pyDs ds) as
 | _, [], xs, vs, _, d, r => by
  rw [d.nil_of] at r
  cases r
  exact ⟨_, .nil⟩
 | n, d :: ds, xs, vs, h, dd, r => by
  rw [okDs, Os] at h
  obtain ⟨y, ys, rfl, a, b⟩ := dd.cons_of
  cases r with
  | cons r rr =>
   obtain ⟨as, ra⟩ := lr I n h.1 a r
   obtain ⟨bs, rb⟩ := dens_reads I n h.2 b rr
   exact ⟨_, .cons ra rb⟩
end
theorem hW (hu : X.A.units + 64 < cLine) : OpR X (compareOp .Eq) (Jm X.K false) := by
 intro pins s σ H x y v u Q I rx ry h
 obtain ⟨S, d, e, sm, dx, dy, cd, ce, q⟩ := h
 obtain ⟨as, ra⟩ := lr I 50 cd (wM sm dx) rx
 obtain ⟨bs, rb⟩ := lr I 50 ce (wM sm dy) ry
 obtain ⟨a1, a2⟩ := vB 50 d cd
 obtain ⟨b1, b2⟩ := vB 50 e ce
 have hm := Nat.min_le_left (pyD d).depth (pyD e).depth
 refine SeqAt.compareEq_reads ra rb a1 b1 (by lia) ⟨.bl _, H, I, rfl, ?_⟩
 rw [Cq 50 50 d e cd ce]
 exact q
theorem G8 (hu : X.A.units + 64 < cLine) : OpR X (compareOp .NotEq) (Jm X.K true) := by
 intro pins s σ H x y v u Q I rx ry h
 obtain ⟨S, d, e, sm, dx, dy, cd, ce, q⟩ := h
 obtain ⟨as, ra⟩ := lr I 50 cd (wM sm dx) rx
 obtain ⟨bs, rb⟩ := lr I 50 ce (wM sm dy) ry
 obtain ⟨a1, a2⟩ := vB 50 d cd
 obtain ⟨b1, b2⟩ := vB 50 e ce
 have hm := Nat.min_le_left (pyD d).depth (pyD e).depth
 refine SeqAt.compareNe_reads ra rb a1 b1 (by lia) ⟨.bl _, H, I, rfl, ?_⟩
 rw [Cq 50 50 d e cd ce]
 exact q
theorem jA : CallR X (.builtin "len") (IT X.K) := GB
theorem nT : CallR X (.builtin "isinstance") (I0 X.K) := by
 intro pins s σ H xs us Q I r h
 obtain ⟨x, T, t, rfl, ht, hm, q⟩ := h
 obtain ⟨u, w', rfl, ru, rw'⟩ := r.two
 cases rw'
 have fin : ∀ tk : Nat, EP X pins σ Q (.bool (Eb t T)) { s with toks := tk } := fun tk => ⟨.bl _, H, I.tok tk, rfl, q⟩
 cases x with
 | non => cases ht; exact k6 I ru .non (nU (by decide) hm) fin
 | bl b => cases ht; exact k6 I ru (.bl b) (nU (by decide) hm) fin
 | int i => cases ht; exact k6 I ru (.int i) (nU (by decide) hm) fin
 | str y => cases ht; exact k6 I ru (.str y) (nU (by decide) hm) fin
 | ref p =>
  cases ru
  rcases ht with ⟨rfl, xs, h⟩ | ⟨rfl, xs, h⟩
  ·obtain ⟨_, its, n, rv, _, e⟩ := I.rdl h
   exact W.kia_one W.kitx_list I.kIn ⟨_, e, rfl⟩ (nU (by decide) hm) (fun z => nomatch z) fin
  ·obtain ⟨its, rv, ⟨o, e, c, _⟩, _⟩ := I.tuple h
   exact W.kia_one W.kitx_tuple I.kIn ⟨o, e, c⟩ (nU (by decide) hm) (fun z => nomatch z) fin
 | _ => exact (show False from ht).elim
theorem CY : MtM X "list.extend" rExtM := by
 intro pins s σ H x vs v us Q I rx rv h
 obtain ⟨l, b, xs, zs, rfl, rfl, hH, hB, hz, q⟩ := h
 cases rx
 obtain ⟨u, rfl, ru⟩ := rv.one
 cases ru
 obtain ⟨z, its, n, r, hl, e⟩ := I.lstM hH
 obtain ⟨z2, its2, n2, r2, hl2, e2⟩ := I.rdl hB
 have hsz : its.toArray.size + its2.toArray.size <= sizeLine := by rw [NZ, NZ]; lia
 have hlong : ¬ (!its.toArray.isEmpty && Builtin.List.listTooLong (its.toArray.size + its2.toArray.size)) = true := by
  rw [GU hsz, Bool.and_false]
  exact OC
 refine call_meets F.slot_list_extend ⟨_, e, rfl⟩ F.entry_list_extend (F.args_list_extend_2 _ _)
  (AutoSeq1.list_extend_list_list_0 l its.toArray n b its2.toArray n2 hlong (by rw [NZ]; lia) (by lia)) ⟨e, e2, ?_⟩
 refine ⟨.non, _, I.lset (its' := its ++ its2) hH e (by simp) (r.append r2) ?_, rfl, q⟩
 rw [NO]
 lia
theorem LW : SlR X (Kw X.K) := by
 refine SlR.or HC ?_
 intro pins s σ H x v vl vu lo hi sl Q I rx hs pl pu h
 obtain ⟨a, xs, rfl, hx, q1, q2⟩ := h
 cases rx
 by_cases hw : HT.sIx xs.length 0 lo = 0 /\ HT.sIx xs.length xs.length hi = xs.length
 ·obtain ⟨its, r, ht, hz⟩ := I.tuple hx
  have hlen : its.toArray.size = xs.length := by rw [NZ]; exact r.length.symm
  have hcut : pK xs lo hi = xs := by
   unfold pK
   rw [hw.1, hw.2, List.drop_zero, Nat.sub_zero, List.take_of_length_le (NK _)]
  refine ⟨"tuple", _, PyProof.Rows.slot_tuple_getitem.lookup, ht.typeIs, ?_⟩
  exact HT.oz ht hs pl pu (by rw [hlen]; exact hw) ⟨.ref a, H, I, rfl, q1 hcut⟩
 ·exact Ki pins s σ H (.ref a) (.ref a) vl vu lo hi sl Q I rfl hs pl pu ⟨a, xs, rfl, hx, hw, q2⟩
theorem BJ : CallR X (.builtin "sorted") (GG X.K) := by
 intro pins s σ H xs us Q I r h
 obtain ⟨p, yks, rfl, hS, h64, hk, k⟩ := h
 obtain ⟨u, rfl, ru⟩ := r.one
 cases ru
 obtain ⟨its, rv, pl, hz⟩ := I.list hS
 have hl : yks.length = its.length := by rw [<- rv.length, NT]
 have atI : ∀ i, i < its.length -> ∃ yk, yks[i]? = some yk /\ yks.getD i (.non, []) = yk /\ RelV yk.1 (its.getD i Value.none) := fun i hi => by
  have ey : yks[i]? = some yks[i] := OA (by lia)
  have ex : (yks.map (·.1))[i]? = some yks[i].1 := by rw [Oh, ey]; rfl
  obtain ⟨v, ev, rl⟩ := rv.get ex
  exact ⟨_, ey, by rw [OT, ey]; rfl, by rw [OT, ev]; exact rl⟩
 have tup : ∀ i, i < its.length -> Srt.K4 s.heap (its.getD i Value.none) (yks.getD i (.non, [])).2 /\ (yks.getD i (.non, [])).2 ≠ [] := fun i hi => by
  obtain ⟨yk, e1, e2, rl⟩ := atI i hi
  obtain ⟨q, e3, e4, e5⟩ := hk _ (OO e1)
  rw [e2]
  refine ⟨?_, e5⟩
  rw [e3] at rl
  have rl' : its.getD i Value.none = Value.ref q := rl
  obtain ⟨js, rj, ⟨o, ho, hc, n, hd⟩, _⟩ := I.tuple e4
  refine ⟨q, o, js.toArray, n, rl', ho, hc, hd, ?_⟩
  simpa using qA rj
 refine Srt.xI (Srt.Gs fun i => (yks.getD i (.non, [])).2) pl.isList (by rw [sizeLine_eq]; lia) (Srt.Cv tup) fun q hq ha => ?_
 obtain ⟨pv, pw⟩ := Srt.B5 (vs := its) (d := Value.none) hq ha
 rw [<- hl] at hq ha
 obtain ⟨py, wy⟩ := Srt.B5 (vs := yks) (d := ((V.non, []) : V × List Int)) hq ha
 obtain ⟨e, at1⟩ := sortedAll_at s.heap its (Srt.mF its q)
 have hv : Vals ((q.toList.map fun i => yks.getD i (.non, [])).map (·.1)) (q.toList.map fun i => its.getD i Value.none) := by
  have hb : ∀ i ∈ q.toList, i < its.length := fun i hi => by
   have : i < yks.length := by simpa using (Array.perm_iff_toList_perm.mp hq).mem_iff.mp hi
   lia
  revert hb
  generalize q.toList = L
  induction L with
  | nil => exact fun _ => .nil
  | cons i L ih =>
   intro hb
   refine .cons ?_ (ih fun j hj => hb j (NN _ hj))
   obtain ⟨yk, _, e2, rl⟩ := atI i (hb i NL)
   dsimp only
   rw [e2]
   exact rl
 have fresh : s.heap.objs.size <= s.heap.objs.size + 1 := Nat.le_succ _
 refine ⟨.ref (s.heap.objs.size + 1), upd H (s.heap.objs.size + 1) (.lst ((q.toList.map fun i => yks.getD i (.non, [])).map (·.1))), I.laid (t' := s.toks) (fun b o hb => sortedAll_old hb) fresh ?_, rfl, ?_⟩
 ·refine ⟨by rw [NT, py.length_eq, sizeLine_eq]; lia, _, e, hv, at1⟩
 ·refine k _ _ py (wy _ fun i j _ _ h => ?_) (I.hok.fresh fresh)
  rw [<- AW]
  exact h
theorem ji : CallR X (.builtin "sorted") (Ar X.K) := call_sortedI.or BJ
end
end L2
namespace M
noncomputable def Ll (a : List Int) (k : Int) : List Int := if a.any (· == k) then a else a ++ [k]
noncomputable def LU (ns : List Int) : List Int := ns.foldl Ll []
end M
namespace L2
open PySem
section
variable {X : Cx}
end
end L2
namespace M
open PySem L2
section
variable {K : W.Frag}
noncomputable def tG (K : W.Frag) (d : D) : TE := fun _ H Q => ∀ v, (∀ S, Den K S d v) -> Q v H
theorem s_g {d : D} : SE K (tG K d) (xC d) := fun ρ σ S H Q e r x k v hv => by
 cases x
 exact k v S H (Ext.refl r.sub) (hv S)
end
end M
namespace L2
open PySem M
theorem Fq {X : _} {x : Str} {v : V} {u : Value} {pos : Pos} {K : W.Frag} {d : D} (hg : Gl X x) (hm : X.mg x = some u) (r : RelV v u) (hD : ∀ S, Den K S d v) (hd : (x == ("__debug__" : Str)) = false := by decide) : PE X (.Name x pos) (tG K d) :=
 fun a b c H Q I h => zt hg hm r hd a b c H Q I (h v hD)
end L2
namespace M
open PySem L2
theorem rN {K : W.Frag} {a : Addr} {o : Obj} {its : Array Value} {n : Nat} {xs : List V} {l : List D} (h : K.lookup a = some o) (hc : o.cls = .type "tuple") (hd : o.data = .seq its n) (hs : its.size <= sizeLine) (hv : Vals xs its.toList) (hD : ∀ S, Dens K S l xs) (S : Hp) : Den K S (.tup l) (.ref a) :=
 den_tup.mpr ⟨a, xs, rfl, (show SqT K S a xs from .inr ⟨o, its, n, h, hc, hd, hs, hv⟩), hD S⟩
@[simp] noncomputable def Ly (a : XE) : XE := fun ρ => (a ρ).bind fun d => match d with | .lst l => (ec l).bind fun ns => if ns.length < 4000 then some (.int ((LU ns).length : Nat)) else none | _ => none
end M
namespace L2
open PySem
def xw (K : W.Frag) (Ns : List Str) (P : Addr -> Prop) : Prop := ∀ N ∈ Ns, ∀ C, W.nsIn K mainGlobals N = some (some (.ref C)) -> P C
def Lh (K : W.Frag) (Ns : List Str) (H : Hp) (x : V) (a : Addr) (C dx : Addr) (fs : List (Str × V)) : Prop := x = .ref a /\ (∃ N ∈ Ns, W.nsIn K mainGlobals N = some (some (.ref C))) /\ H a = some (.ins C dx fs)
noncomputable def I9 (K : W.Frag) (Ns : List Str) (ta : TE) (f : Str) : TE := fun σ H Q => ta σ H fun x H1 => ∃ a C dx fs v, Lh K Ns H1 x a C dx fs /\ fs.lookup f = some v /\ Q v H1
noncomputable def CL (K : W.Frag) (Ns : List Str) (m : Str) (sp : Sp) (ta : TE) (t : TA) : TE := fun σ H Q => ta σ H fun x H1 => ∃ a C dx fs, Lh K Ns H1 x a C dx fs /\ fs.lookup m = none /\ t σ H1 fun vs H2 => sp (x :: vs) H2 Q E0
noncomputable def Gq (K : W.Frag) (N : Str) (sp : Sp) (t : TA) : TE := fun σ H Q => ∀ C, W.nsIn K mainGlobals N = some (some (.ref C)) -> Jf C sp [] E0 t σ H Q
section
variable {X : Cx} {o e : Expr} {es : List Expr} {f m : Str} {pos apos p : Pos} {ta : TE} {t : TA} {Ns : List Str} {k : Nat} {g C : Addr} {fd : FuncData} {ps : List Str} {sp : Sp}
theorem zm (hc : xw X.K Ns fun C => Cls X.K C /\ NoAttr X.K C f) (he : PE X e ta) (hb : attributeBase e f X.env (eval e X.env) = eval e X.env) : PE X (.Attribute e f pos) (I9 X.K Ns ta f) := by
 intro pins s σ H Q I h
 refine Ij hb (thn (he pins s σ H _ I h) fun u s1 hpt9 => ?_)
 obtain ⟨x, H1, I1, rx, a, C, dx, fs, v, ⟨ex, ⟨N, hN, hC⟩, ea⟩, l, q⟩ := hpt9
 subst ex
 have eu : u = Value.ref a := rx
 subst eu
 obtain ⟨c, n⟩ := hc N hN C hC
 exact Cc I1 ea c n l fun u' s2 I2 ru => ⟨v, H1, I2, ru, q⟩
theorem Gb {pl : Sem Bool} (hc : xw X.K Ns fun C => Cls X.K C /\ Meth X.K C m g) (F : FnOk X.prog X.w X.K X.mg X.base CX0 k g fd ps sp) (hr : Room k X.A) (hb : Binds X.K fd ps []) (hx : lI CX0 X E0) (he : PE X o ta) (ha : PA X (e :: es) t)
  (hst : starEach (e :: es) X.env = (false, eval e X.env) :: starEach es X.env := by rfl) (hpl : (backTo pos (starEach es X.env)).any (·.1) = false := by rfl)
  (ht : eval (.Call (.Attribute o m apos) (e :: es) [] pos) X.env = (do
   let ov ← eval o X.env
   standAt apos.atName
   let (f, first) ← holding [ov] (getMethod ov m pl)
   callWith pos f first (backTo pos (starEach (e :: es) X.env)) (backToKw pos (keywordEach [] X.env))) := by rfl) :
  PE X (.Call (.Attribute o m apos) (e :: es) [] pos) (CL X.K Ns m sp ta t) := by
 intro pins s σ H Q I h
 refine W.methodCall_KW (pl := pl) (thn (he pins s σ H _ I h) fun u s1 hpt9 => ?_) ht
 obtain ⟨x, H1, I1, rx, a, C, dx, fs, ⟨ex, ⟨N, hN, hC⟩, ea⟩, l, q⟩ := hpt9
 subst ex
 have eu : u = Value.ref a := rx
 subst eu
 obtain ⟨c, hm⟩ := hc N hN C hC
 refine wA I1 ea c hm l ?_
 refine W.callWith_K (first := [.ref a]) (h₀ := X.base) I.ok.mod.kin hm.kp (thn (ha pos pins s1 σ H1 _ I1 q) fun us s2 ⟨vs, H2, I2, r, q2⟩ => ⟨I2.kIn, ?_⟩) hst hpl
 exact zM (us := .ref a :: us) (vs := .ref a :: vs) (dvs := []) F hr hb .nil hx I2 (.cons rfl r) (by rw [Ol]; exact q2)
theorem EM {pl : Sem Bool} (hc : xw X.K Ns fun C => Cls X.K C /\ Meth X.K C m g) (F : FnOk X.prog X.w X.K X.mg X.base CX0 k g fd ps sp) (hr : Room k X.A) (hb : Binds X.K fd ps []) (hx : lI CX0 X E0) (he : PE X o ta)
  (ht : eval (.Call (.Attribute o m apos) [] [] pos) X.env = (do
   let ov ← eval o X.env
   standAt apos.atName
   let (f, first) ← holding [ov] (getMethod ov m pl)
   callWith pos f first (backTo pos (starEach [] X.env)) (backToKw pos (keywordEach [] X.env))) := by rfl) :
  PE X (.Call (.Attribute o m apos) [] [] pos) (CL X.K Ns m sp ta rX) := by
 intro pins s σ H Q I h
 refine W.methodCall_KW (pl := pl) (thn (he pins s σ H _ I h) fun u s1 hpt9 => ?_) ht
 obtain ⟨x, H1, I1, rx, a, C, dx, fs, ⟨ex, ⟨N, hN, hC⟩, ea⟩, l, q⟩ := hpt9
 subst ex
 have eu : u = Value.ref a := rx
 subst eu
 obtain ⟨c, hm⟩ := hc N hN C hC
 refine wA I1 ea c hm l ?_
 exact W.callWith_K0 (first := [.ref a]) I1.kIn hm.kp (zM (us := [.ref a]) (vs := [.ref a]) (dvs := []) F hr hb .nil hx I1 (.cons rfl .nil) q)
structure ClsFn (K : W.Frag) (C : Addr) (m : Str) (f : Addr) : Prop where
 sp : W.specialIn K (.ref C) "__getattribute__" = some (some (.builtin "type.__getattribute__"))
 rd : W.readsIn K C (.type "type") = true
 fn : W.findCls K (.ref C) (.type "type") m = some (.val (.ref f))
 kp : W.keepIn K (.ref f) = true
theorem lH {pl : Sem Bool} {B : Str} (cf : ClsFn X.K C m g) (gB : Gl X B) (hm : X.mg B = some (.ref C)) (F : FnOk X.prog X.w X.K X.mg X.base CX0 k g fd ps sp) (hr : Room k X.A) (hb : Binds X.K fd ps []) (hx : lI CX0 X E0) (ha : PA X (e :: es) t) (hdb : (B == ("__debug__" : Str)) = false := by decide)
  (hst : starEach (e :: es) X.env = (false, eval e X.env) :: starEach es X.env := by rfl) (hpl : (backTo pos (starEach es X.env)).any (·.1) = false := by rfl)
  (ht : eval (.Call (.Attribute (.Name B p) m apos) (e :: es) [] pos) X.env = (do
   let ov ← eval (.Name B p) X.env
   standAt apos.atName
   let (f, first) ← holding [ov] (getMethod ov m pl)
   callWith pos f first (backTo pos (starEach (e :: es) X.env)) (backToKw pos (keywordEach [] X.env))) := by rfl) :
  PE X (.Call (.Attribute (.Name B p) m apos) (e :: es) [] pos) (wu sp [] E0 t) := by
 intro pins s σ H Q I h
 refine W.methodCall_KW (pl := pl) (thn (zt (v := .ref C) gB hm rfl hdb pins s σ H (fun x H1 => x = .ref C /\ H1 = H) I ⟨rfl, rfl⟩) fun u s1 hpt9 => ?_) ht
 obtain ⟨x, H1, I1, rx, ex, eH⟩ := hpt9
 subst ex
 subst eH
 have eu : u = Value.ref C := rx
 subst eu
 refine W.method_cls I1.kIn cf.sp (W.cls_value I1.kIn cf.rd cf.fn rfl ?_)
 refine W.callWith_K (first := []) (h₀ := X.base) I.ok.mod.kin cf.kp (thn (ha pos pins _ σ H1 _ (I1.tok _) h) fun us s2 ⟨vs, H2, I2, r, q2⟩ => ⟨I2.kIn, ?_⟩) hst hpl
 exact zM F hr hb .nil hx I2 r q2
theorem kd {N : Str} (hN : W.nsIn X.K mainGlobals N = some (some (.ref C))) (M : Mk X.K C g) (F : FnOk X.prog X.w X.K X.mg X.base CX0 k g fd ps sp) (hr : Room (k + 1) X.A) (hg : Gl X N) (hm : X.mg N = some (.ref C)) (hb : Binds X.K fd ps []) (hx : lI CX0 X E0)
  (ha : PA X (e :: es) t) (hdb : (N == ("__debug__" : Str)) = false := by decide) (he : starEach (e :: es) X.env = (false, eval e X.env) :: starEach es X.env := by rfl) (hpl : (backTo pos (starEach es X.env)).any (·.1) = false := by rfl) :
  PE X (.Call (.Name N p) (e :: es) [] pos) (Gq X.K N sp t) := fun a b c d q I h => Iu M F hr hg hm hb .nil hx ha hdb he hpl a b c d q I (h C hN)
end
end L2
namespace M
open PySem L2
section
variable {K : W.Frag} {S S' H H' : Hp}
noncomputable def y8 : List Str -> List D -> Str -> Option D
 | n :: ns, d :: l, f => if f = n then some d else y8 ns l f
 | _, _, _ => none
theorem Fc : ∀ {fs : List (Str × V)} {l : List D} {f : Str} {d : D}, Dens K S l (fs.map (·.2)) -> y8 (fs.map (·.1)) l f = some d -> ∃ v, fs.lookup f = some v /\ Den K S d v
 | [], l, f, d, h, e => by
  cases l <;> simp [y8] at e
 | (n, v) :: fs, l, f, d, h, e => by
  cases l with
  | nil => simp [y8] at e
  | cons a l =>
   obtain ⟨y, ys, e1, h1, h2⟩ := h.cons_of
   rw [N1] at e1
   cases e1
   rw [N1, y8] at e
   by_cases hf : f = n
   ·rw [NF hf] at e
    cases e
    exact ⟨v, by simp [List.lookup, hf], h1⟩
   ·rw [NG hf] at e
    obtain ⟨w, q1, q2⟩ := Fc h2 e
    have hb : (f == n) = false := by simpa using hf
    exact ⟨w, by simp [List.lookup, hb, q1], q2⟩
theorem F3 : ∀ {fs : List (Str × V)} {f : Str}, (fs.map (·.1)).contains f = false -> fs.lookup f = none
 | [], _, _ => rfl
 | (n, v) :: fs, f, h => by
  simp at h
  have hb : (f == n) = false := by simpa using h.1
  rw [List.lookup, hb]
  exact F3 (by simpa using h.2)
@[simp] noncomputable def sd (Ns : List Str) (f : Str) (e : XE) : XE := fun ρ => (e ρ).bind fun d => match d with | .ins N ns l => if Ns.contains N then y8 ns l f else none | _ => none
theorem GK {Ns : List Str} {f : Str} {ta : TE} {e : XE} (h : SE K ta e) : SE K (I9 K Ns ta f) (sd Ns f e) := fun ρ σ S H Q d r x k => by
 unfold sd at x
 cases q : e ρ with
 | none => rw [q] at x; cases x
 | some d0 =>
  rw [q] at x
  dsimp only [Option.bind] at x
  cases d0 <;> try (cases x; done)
  rename_i N ns l
  dsimp only at x
  split at x
  ·rename_i hc
   refine h ρ σ S H _ _ r q fun v S1 H1 z1 d1 => ?_
   obtain ⟨p, C, dx, fs, rfl, hC, h1, h2, h3⟩ := den_ins.mp d1
   subst h2
   obtain ⟨w, w1, w2⟩ := Fc h3 x
   exact ⟨p, C, dx, fs, w, ⟨rfl, ⟨N, by simpa using hc, hC⟩, z1.sub _ _ h1⟩, w1, k w S1 H1 z1 w2⟩
  ·cases x
@[simp] noncomputable def vM (Ns : List Str) (m : Str) (g : List D -> Option D) (e : XE) (a : XA) : XE := fun ρ => (e ρ).bind fun d => match d with | .ins N ns l => if Ns.contains N && !ns.contains m then (a ρ).bind fun ds => g (.ins N ns l :: ds) else none | _ => none
theorem Fm {Ns : List Str} {m : Str} {n : Nat} {g : List D -> Option O} {ta : TE} {t : TA} {e : XE} {a : XA} (h : SE K ta e) (ha : SA K t a) (hn : ∀ ρ ds, a ρ = some ds -> ds.length = n) : SE K (CL K Ns m (iY K (n + 1) g) ta t) (vM Ns m (fun ds => (g ds).map O.d) e a) := fun ρ σ S H Q d r x k => by
 unfold vM at x
 cases q : e ρ with
 | none => rw [q] at x; cases x
 | some d0 =>
  rw [q] at x
  dsimp only [Option.bind] at x
  cases d0 <;> try (cases x; done)
  rename_i N ns l
  dsimp only at x
  split at x
  ·rename_i hc
   rw [Os] at hc
   cases qa : a ρ with
   | none => rw [qa] at x; cases x
   | some ds =>
    rw [qa] at x
    dsimp only at x
    cases qg : g (.ins N ns l :: ds) with
    | none => rw [qg] at x; cases x
    | some o =>
     rw [qg] at x
     cases x
     refine h ρ σ S H _ _ r q fun v S1 H1 z1 d1 => ?_
     obtain ⟨p, C, dx, fs, rfl, hC, h1, h2, h3⟩ := den_ins.mp d1
     refine ⟨p, C, dx, fs, ⟨rfl, ⟨N, by simpa using hc.1, hC⟩, z1.sub _ _ h1⟩, F3 (by rw [h2]; simpa using hc.2), ?_⟩
     refine ha ρ σ S1 H1 _ ds (r.ext z1) qa fun vs S2 H2 z2 d2 => ?_
     have dd : Dens K S2 (.ins N ns l :: ds) (.ref p :: vs) := .cons (d1.mono z2.sh) d2
     refine ⟨by rw [NV, <- d2.length, hn ρ ds qa], S2, _, o, z2.sub, dd, qg, fun v fp S3 H3 z3 ow nd fr => ?_⟩
     exact k v _ H3 ((z1.trans z2).trans (AB z3 fr)) (ow.den (n9 fun b hb => (fr b hb).2) fun b hb => vm hb)
  ·cases x
noncomputable def mD (K : W.Frag) (Ns : List Str) (f : Str) (n : Nat) (mi : List D -> Option D) : Sp := fun vs H Q _ => vs.length = n + 1 /\ ∃ x rest C dx S ds d, vs = .ref x :: rest /\ H x = some (.ins C dx []) /\ (∃ N ∈ Ns, W.nsIn K mainGlobals N = some (some (.ref C))) /\ S x = none /\ Same S H /\ Dens K S ds rest /\ mi ds = some d /\
 ∀ S' H' v, Ext S H S' H' -> Den K S' d v -> Q .non (upd H' x (.ins C dx [(f, v)]))
noncomputable def FH : List D -> Option D
 | [d] => some d
 | _ => none
theorem Fb {Ns : List Str} {f : Str} {vs : List V} {H : Hp} {Q : VK} {E : XK} (hc : xw K Ns fun C => Cls K C /\ NoAttr K C f) {N : List Str} (h : mD K Ns f 1 FH vs H Q E) : K3 K (ut 0) (ut 1) f { nx := fun _ H' => Q .non H', rt := Q } (L2.aI N vs) H := by
 obtain ⟨_, x, rest, C, dx, S, ds, d, rfl, hx, ⟨M, hM, hC⟩, nS, sub, dd, e, k⟩ := h
 match ds, e with
 | [d'], e =>
  cases e
  obtain ⟨v, ys, rfl, dv, dn⟩ := dd.cons_of
  cases dn.nil_of
  obtain ⟨c, n⟩ := hc M hM C hC
  exact ⟨v, rfl, .ref x, rfl, x, C, dx, [], rfl, hx, c, n, by decide, k S H v (Ext.refl sub) dv⟩
theorem C9 {x : Addr} {ds : List D} {vs : List V} (s : Same S H) (h : Dens K S ds vs) : Rl K (.lo :: ds.map .sh) (some (.ref x) :: vs.map some) S H := by
 have hl := h.length
 refine ⟨fun _ => none, fun i => if i = 0 then some x else none, fun _ => [], ?_⟩
 have ge : ∀ (i : Nat) t, (Sl.lo :: ds.map Sl.sh)[i]? = some t -> (i = 0 /\ t = .lo) \/ ∃ d v, t = .sh d /\ (some (V.ref x) :: vs.map some)[i]? = some (some v) /\ Den K S d v := fun i t ht => by
  cases i with
  | zero => cases ht; exact .inl ⟨rfl, rfl⟩
  | succ i =>
   rw [List.getElem?_cons_succ, Oh] at ht
   cases q : ds[i]? with
   | none => rw [q] at ht; cases ht
   | some d =>
    rw [q] at ht
    cases ht
    obtain ⟨v, e1, e2⟩ := h.get q
    refine .inr ⟨d, v, rfl, ?_, e2⟩
    rw [List.getElem?_cons_succ, Oh, e1]
    rfl
 exact {
  len := by rw [NV, NV, NT, NT, hl]
  sub := s
  sh := fun i d hi => by
   rcases ge i _ hi with ⟨_, e⟩ | ⟨d', v, e, h1, h2⟩
   ·cases e
   ·cases e; exact ⟨v, h1, h2⟩
  ow := fun i o hi => by
   rcases ge i _ hi with ⟨_, e⟩ | ⟨d', v, e, h1, h2⟩
   ·cases e
   ·cases e
  dj := fun i j o o' _ hi _ => by
   rcases ge i _ hi with ⟨_, e⟩ | ⟨d', v, e, h1, h2⟩
   ·cases e
   ·cases e
  lo := fun i hi => by
   rcases ge i _ hi with ⟨rfl, e⟩ | ⟨d', v, e, h1, h2⟩
   ·exact ⟨x, rfl, rfl⟩
   ·cases e
  asub := fun b o e => by cases e
  adis := fun b => .inr rfl }
noncomputable def zZ (xt : XT) (xe : XE) (ds : List D) : Option D := if xt (.lo :: ds.map .sh) = some false then xe (.lo :: ds.map .sh) else none
noncomputable def KK (xe : XE) (ds : List D) : Option D := xe (.lo :: ds.map .sh)
theorem Bo {Ns : List Str} {f : Str} {te : TE} {xe : XE} {x : Addr} {rest : List V} {C dx : Addr} {ds : List D} {d : D} {S H : Hp} {Dd : _} {Q : VK} (he : SE K te xe) (sub : Same S H) (dd : Dens K S ds rest) (hx : H x = some (.ins C dx [])) (hc : ∃ N ∈ Ns, W.nsIn K mainGlobals N = some (some (.ref C))) (nS : S x = none)
  (e : xe (.lo :: ds.map .sh) = some d) (hD : Dd = ({ nx := fun _ H' => Q .non H', rt := Q } : _)) (k : ∀ S' H' v, Ext S H S' H' -> Den K S' d v -> Q .non (upd H' x (.ins C dx [(f, v)]))) :
  yO (wu (mD K Ns f 1 FH) [] E0 (gW (ut 0) (gW te rX))) Dd (some (.ref x) :: rest.map some) H := by
 subst hD
 refine ⟨.ref x, rfl, he _ _ S H _ d (C9 sub dd) e fun v S1 H1 z1 d1 => ?_⟩
 refine ⟨rfl, x, [v], C, dx, S1, [d], d, rfl, (z1.al x _ hx nS).1, hc, (z1.al x _ hx nS).2, z1.sub, .cons d1 .nil, rfl, fun S2 H2 w z2 d2 => k S2 H2 w (z1.trans z2) d2⟩
theorem vZ {Ns : List Str} {f : Str} {n : Nat} {tt : TT} {xt : XT} {te : TE} {xe : XE} {N : List Str} {vs : List V} {H : Hp} {Q : VK} {E : XK} (ht : ST K tt xt) (he : SE K te xe) (hN : N.length = n + 1) (h : mD K Ns f n (zZ xt xe) vs H Q E) :
  J4 (Ke tt E8 Fj) (yO (wu (mD K Ns f 1 FH) [] E0 (gW (ut 0) (gW te rX)))) { nx := fun _ H' => Q .non H', rt := Q } (L2.aI N vs) H := by
 obtain ⟨hl, x, rest, C, dx, S, ds, d, rfl, hx, hc, nS, sub, dd, e, k⟩ := h
 have es : L2.aI N (.ref x :: rest) = some (.ref x) :: rest.map some := by
  unfold L2.aI
  rw [hl, hN, Nat.sub_self]
  simp
 unfold zZ at e
 split at e
 ·rename_i q
  rw [es]
  refine ht _ _ S H _ false (C9 sub dd) q fun S1 H1 z1 => ?_
  rw [NG OC]
  exact Bo he z1.sub (dd.mono z1.sh) (z1.al x _ hx nS).1 hc (z1.al x _ hx nS).2 e rfl fun S2 H2 w z2 d2 => k S2 H2 w (z1.trans z2) d2
 ·cases e
theorem ET {Ns : List Str} {f : Str} {n : Nat} {te : TE} {xe : XE} {N : List Str} {vs : List V} {H : Hp} {Q : VK} {E : XK} (he : SE K te xe) (hN : N.length = n + 1) (h : mD K Ns f n (KK xe) vs H Q E) :
  yO (wu (mD K Ns f 1 FH) [] E0 (gW (ut 0) (gW te rX))) { nx := fun _ H' => Q .non H', rt := Q } (L2.aI N vs) H := by
 obtain ⟨hl, x, rest, C, dx, S, ds, d, rfl, hx, hc, nS, sub, dd, e, k⟩ := h
 have es : L2.aI N (.ref x :: rest) = some (.ref x) :: rest.map some := by
  unfold L2.aI
  rw [hl, hN, Nat.sub_self]
  simp
 rw [es]
 exact Bo he sub dd hx hc nS e rfl k
@[simp] noncomputable def dr (N f : Str) (mi : List D -> Option D) (a : XA) : XE := fun ρ => ((a ρ).bind mi).map fun d => .ins N [f] [d]
theorem pp {Ns : List Str} {N f : Str} {n : Nat} {mi : List D -> Option D} {t : TA} {a : XA} (hN : N ∈ Ns) (h : SA K t a) (hn : ∀ ρ ds, a ρ = some ds -> ds.length = n) : SE K (Gq K N (mD K Ns f n mi) t) (dr N f mi a) := fun ρ σ S H Q d r x k C hC => by
 unfold dr at x
 cases q : a ρ with
 | none => rw [q] at x; cases x
 | some ds =>
  rw [q] at x
  dsimp only [Option.bind] at x
  cases q2 : mi ds with
  | none => rw [q2] at x; cases x
  | some d0 =>
   rw [q2] at x
   cases x
   refine h ρ σ S H _ ds r q fun vs S1 H1 z1 d1 => ?_
   intro x dx nx ndx nex
   have s0 : Same S1 (upd (upd H1 dx (.own x)) x (.ins C dx [])) := fun b o e => by
    have e' := z1.sub b o e
    rw [a6 (bj e' nx), a6 (bj e' ndx)]
    exact e'
   have nS : S1 x = none := z1.sub.free nx
   refine ⟨by rw [Ol, NV, <- d1.length, hn ρ ds q], x, vs, C, dx, S1, ds, d0, by rw [Ol], a8, ⟨N, hN, hC⟩, nS, s0, d1, q2, fun S2 H2 v z2 d2 => ⟨rfl, ?_⟩⟩
   have hx2 := z2.al x _ a8 nS
   have z3 : Ext S1 H1 (upd S2 x (.ins C dx [(f, v)])) (upd H2 x (.ins C dx [(f, v)])) := {
    sh := fun b o e => by
     rw [a6 (bj (z1.sub b o e) nx)]
     exact z2.sh b o e
    sub := fun b o e => by
     by_cases hb : b = x
     ·subst hb; rw [a8] at e ⊢; exact e
     ·rw [a6 hb] at e ⊢; exact z2.sub b o e
    al := fun b o e ne => by
     have hb := bj e nx
     rw [a6 hb, a6 hb]
     exact z2.al b o (by rw [a6 hb, a6 (bj e ndx)]; exact e) ne }
   refine k (.ref x) _ _ (z1.trans z3) (den_ins.mpr ⟨x, C, dx, [(f, v)], rfl, hC, a8, rfl, ?_⟩)
   refine .cons (d2.mono fun b o e => ?_) .nil
   rw [a6 (bj e hx2.2)]
   exact e
end
end M
namespace M
noncomputable def sI : List Int -> Int
 | [] => 0
 | [a] => a
 | a :: l => min a (sI l)
theorem D1 (a b : Int) (l : List Int) : sI (a :: b :: l) = min a (sI (b :: l)) := rfl
theorem yp : ∀ (a : Int) (l : List Int), sI (a :: l) ∈ a :: l /\ ∀ b ∈ a :: l, sI (a :: l) <= b
 | a, [] => ⟨NL, fun b hb => by rw [NI] at hb; subst hb; exact Int.le_refl _⟩
 | a, c :: l => by
  obtain ⟨h1, h2⟩ := yp c l
  rw [D1]
  refine ⟨?_, fun b hb => ?_⟩
  ·rcases Int.le_total a (sI (c :: l)) with h | h
   ·rw [Int.min_eq_left h]; exact NL
   ·rw [Int.min_eq_right h]; exact NN _ h1
  ·rcases NQ.mp hb with rfl | hb
   ·exact Int.min_le_left _ _
   ·exact Int.le_trans (Int.min_le_right _ _) (h2 b hb)
theorem Ea {ns : List Int} {m : Int} (h1 : m ∈ ns) (h2 : ∀ a, a ∈ ns -> m <= a) : sI ns = m := by
 cases ns with
 | nil => cases h1
 | cons a l =>
  obtain ⟨k1, k2⟩ := yp a l
  exact Int.le_antisymm (k2 m h1) (h2 _ k1)
end M
namespace L2
open PySem PySem.Spec PyProof.Rows
section
variable {prog : Program} {w : World} {A : Around} {E : Value -> Shared -> Prop} {s : Shared}
theorem Ed (a b c d : Value) : argsOk "min" ⟨[a, b, c, d], []⟩ := by unfold argsOk; kernel_rfl
theorem E2 {a b c d : Value} {Q : Value -> Shared -> Prop}
  (h : wpAny (model prog w) A.in1 (pyIter (.ref s.heap.objs.size)) (fun it s₂ => ∃ I fp wr n P St bt, it = .ref I /\ Walks prog w A.in1 I fp wr n P St /\ St 0 s₂.heap /\ (∀ b ∈ fp, b < s₂.heap.objs.size) /\ 0 < n /\ CmpOf prog w A.in1 .Lt P bt /\ ∀ v h' tk, P (argBest bt (n - 1)) v -> (∀ b o, b ∉ wr -> s₂.heap.get? b = some o -> h'.get? b = some o) -> Q v { s₂ with heap := h', toks := tk }) E { s with heap := s.heap.push { cls := .type "tuple", data := .seq #[a, b, c, d] } }) :
  wpAny (model prog w) A (call (.builtin "min") [a, b, c, d]) Q E s := by
 have hname : (toString "min" ++ toString ".loop" : String) = "min.loop" := by decide
 refine call_function_tree F.kind_min F.plain_min F.entry_min (Ed _ _ _ _) ?_; show wpAny _ A.in1 (Builtin.Builtins.bindParams "min" ["key", "default"] 0 ⟨[], []⟩ >>= _) _ _ s
 refine NH (wpAny_of_eq (show Builtin.Builtins.bindParams "min" ["key", "default"] 0 ⟨[], []⟩ = pure [none, none] from rfl) ?_); show wpAny _ A.in1 (newTuple [a, b, c, d] >>= _) _ _ s
 refine NH (Ot ?_); refine NH (wpAny_mono h (fun it s₂ h₂ => ?_) fun _ _ e => e); obtain ⟨I, fp, wr, n, P, St, bt, rfl, W, hst, hfp, hn, hcmp, hQ⟩ := h₂
 refine NH (Ot ?_); have hSf : s₂.heap.objs.size ∉ fp := fun hm => Nat.lt_irrefl _ (hfp _ hm)
 rw [hname]; refine NJ ⟨plainId_quiet F.plain_min_loop _, codeAny_min_loop_first W bt hcmp s₂.heap.objs.size hSf hn (W.frame _ _ _ hst fun b _ o e => NW _ e) (Od _ rfl) fun v h' tk hP hk => ?_⟩
 exact hQ v h' tk hP fun b o hbw e => hk b o hbw (N5 (NU e)) (NW _ e)
theorem Bb {a b c d : Int} {t u x y : Tok} {Q : Value -> Shared -> Prop} (hh : A.handled = none) (h : ∀ (h' : Heap) (z : Tok) (tk : Nat), (∀ b o, s.heap.get? b = some o -> h'.get? b = some o) -> Q (.int (M.sI [a, b, c, d]) z) { s with heap := h', toks := tk }) :
  wpAny (model prog w) A (call (.builtin "min") [.int a t, .int b u, .int c x, .int d y]) Q E s := by
 have hT : (s.heap.push { cls := .type "tuple", data := .seq #[.int a t, .int b u, .int c x, .int d y] }).IsTuple s.heap.objs.size (intItems #[(a, t), (b, u), (c, x), (d, y)]) := ⟨_, Od _ rfl, rfl, 0, by simp [intItems]⟩
 refine E2 (wpAny_pyIter_tuple hT ?_); have hsz : (s.heap.push { cls := .type "tuple", data := .seq #[.int a t, .int b u, .int c x, .int d y] }).objs.size = s.heap.objs.size + 1 := Heap.size_push ..
 refine ⟨_, [_, s.heap.objs.size], [_], _, _, _, _, rfl, Walks.tuple (A := A.in1) hh _ s.heap.objs.size (by rw [hsz]; exact N5 (Nat.lt_succ_self _)) (intItems #[(a, t), (b, u), (c, x), (d, y)]), ⟨⟨_, Od _ rfl, rfl, rfl⟩, hT.push _⟩, fun e hd => ?_, by simp [intItems], CmpOf.ints_lt (numAt #[(a, t), (b, u), (c, x), (d, y)]) (fun _ _ => intItems_at), fun v h' tk hP hk => ?_⟩
 ·show e < ((s.heap.push _).push _).objs.size
  rw [Heap.size_push, hsz]; rcases NQ.mp hd with rfl | hd
  ·rw [hsz]; exact Nat.lt_succ_self _
  ·rcases NQ.mp hd with rfl | hd
   ·exact Nat.lt_succ_of_lt (Nat.lt_succ_self _)
   ·cases hd
 ·have hold : ∀ z o, s.heap.get? z = some o -> h'.get? z = some o := fun z o e => by
   refine hk z o (fun hm => ?_) (NW _ (NW _ e)); rcases NQ.mp hm with e1 | hm
   ·have := NU e; rw [e1, hsz] at this; exact Nat.lt_irrefl _ (Nat.lt_of_succ_lt this)
   ·cases hm
  have hP' : (intItems #[(a, t), (b, u), (c, x), (d, y)])[argBest (fun i j => decide (numAt #[(a, t), (b, u), (c, x), (d, y)] i < numAt #[(a, t), (b, u), (c, x), (d, y)] j)) 3]? = some v := by
   have hsz2 : (intItems #[(a, t), (b, u), (c, x), (d, y)]).size - 1 = 3 := by simp [intItems]
   rw [<- hsz2]; exact hP
  obtain ⟨z, rfl⟩ := intItems_at hP'; obtain ⟨h1, h2⟩ := argBest_lt (numAt #[(a, t), (b, u), (c, x), (d, y)]) 3
  have em : M.sI [a, b, c, d] = numAt #[(a, t), (b, u), (c, x), (d, y)] (argBest (fun i j => decide (numAt #[(a, t), (b, u), (c, x), (d, y)] i < numAt #[(a, t), (b, u), (c, x), (d, y)] j)) 3) := by
   have k0 := h2 0 (by lia); have k1 := h2 1 (by lia); have k2 := h2 2 (by lia); have k3 := h2 3 (by lia)
   generalize hg : argBest (fun i j => decide (numAt #[(a, t), (b, u), (c, x), (d, y)] i < numAt #[(a, t), (b, u), (c, x), (d, y)] j)) 3 = g at h1 k0 k1 k2 k3 ⊢
   refine M.Ea ?_ fun e he => ?_
   ·rcases (show g = 0 \/ g = 1 \/ g = 2 \/ g = 3 by lia) with rfl | rfl | rfl | rfl <;> simp [numAt]
   ·simp only [NQ, List.not_mem_nil, or_false] at he
    rcases he with rfl | rfl | rfl | rfl
    ·exact k0
    ·exact k1
    ·exact k2
    ·exact k3
  rw [<- em]; exact h h' z tk hold
end
noncomputable def Jc : List V -> Hp -> VK -> Prop := fun xs H Q => ∃ a b c d, xs = [.int a, .int b, .int c, .int d] /\ Q (.int (M.sI [a, b, c, d])) H
section
variable {X : Cx}
theorem DH (hc : X.calm = true) : CallR X (.builtin "min") Jc := by
 intro pins s σ H xs us Q I r h
 obtain ⟨a, b, c, d, rfl, q⟩ := h
 cases r with
 | cons r1 r => cases r with
  | cons r2 r => cases r with
   | cons r3 r => cases r with
    | cons r4 r =>
     cases r
     obtain ⟨t, rfl⟩ := r1
     obtain ⟨t2, rfl⟩ := r2
     obtain ⟨t3, rfl⟩ := r3
     obtain ⟨t4, rfl⟩ := r4
     exact Bb (I.ok.hd hc) fun h' t tk k => ⟨.int (M.sI [a, b, c, d]), H, I.kept k, ⟨t, rfl⟩, q⟩
end
end L2
namespace M
open PySem L2
noncomputable def MD : List D -> Option D
 | [.lst l] => (ec l).bind fun ns => if 0 < ns.length then some (.int (sI ns)) else none
 | _ => none
noncomputable def CQ : List D -> Option D
 | [.int a, .int b, .int c, .int d] => some (.int (sI [a, b, c, d]))
 | _ => none
section
variable {K : W.Frag}
theorem IC {S H : Hp} {a b c d : D} {vs : List V} (h : DensP K S H [a, b, c, d] vs) : ∃ v w x y, vs = [v, w, x, y] /\ DenP K S H a v /\ DenP K S H b w /\ DenP K S H c x /\ DenP K S H d y := by
 cases h with
 | cons h1 h => cases h with
  | cons h2 h => cases h with
   | cons h3 h => cases h with
    | cons h4 h => cases h; exact ⟨_, _, _, _, rfl, h1, h2, h3, h4⟩
theorem Ka : SRB K Jc CQ := fun S H vs ds g Q s d q k => by
 unfold CQ at q
 split at q
 ·rename_i a b c e
  cases q
  obtain ⟨v, w, x, y, rfl, d1, d2, d3, d4⟩ := IC d
  exact ⟨a, b, c, e, by rw [d1.int, d2.int, d3.int, d4.int], k _ S H (Ext.refl s) (den_int.mpr rfl)⟩
 ·cases q
end
end M
namespace L2
open PySem
theorem jg {XN : List Str} {sc scope : Scope} {N : List Str} {js : List (Option Nat)} (h1 : scope.kind = .function := by rfl) (h2 : ∀ y ∈ scope.names, y.2 ≠ .cell := by decide +kernel) (h3 : ∀ y ∈ scope.names, y.2 = .free -> sc.names.lookup y.1 = some .cell \/ sc.names.lookup y.1 = some .free := by decide +kernel)
  (h4 : ∀ y ∈ scope.names, y.2 = .local -> scope.names.lookup y.1 = some .local := by decide +kernel) (h5 : js.length = N.length := by rfl) (h6 : ((N.zip js).all fun p => match p.2 with | none => true | some j => decide (XN[j]? = some p.1) && decide (scope.names.lookup p.1 = some .free)) = true := by decide +kernel) : CmpOk XN sc scope N js := ⟨h1, h2, h3, h4, h5, h6⟩
end L2
namespace M
open PySem L2
@[simp] noncomputable def Mt (m : List D -> Option D) (e : D) (a : XA) : XE := fun ρ => (a ρ).bind fun ds => m (ds ++ [e])
section
variable {K : W.Frag}
end
end M
namespace L2
open PySem
structure FunD (K : W.Frag) (x qual : Str) (st : Stmt) (T : Addr) (f : Addr) (fd : FuncData) : Prop where
 ex : ∃ (oc : Value) (od : Option Addr) (kV doc pm : Value) (an : Option Addr) (cdv ct : Value) (osl : Array (Option Value)), fd = W.fnOf x qual (ba st) (a5 st) (aj st) (.ref T) kV doc pm an cdv ct /\ K.lookup f = some ⟨oc, od, .func fd, osl⟩ /\ W.codeIn K cdv qual = true
section
variable {P : Program} {w : World} {K : W.Frag} {mg : Str -> Option Value} {base : Heap}
end
end L2
namespace L2
open PySem PySem.Spec PyProof.Rows
structure CmpOkC (XN : List Str) (sc scope : Scope) (N : List Str) (js : List (Option Nat)) (t : Str) : Prop where
 kind : scope.kind = .function
 free : ∀ y ∈ scope.names, y.2 = .free -> sc.names.lookup y.1 = some .cell \/ sc.names.lookup y.1 = some .free
 loc : ∀ y ∈ scope.names, y.2 = .local -> scope.names.lookup y.1 = some .local
 len : js.length = N.length
 ix : ((N.zip js).all fun p => match p.2 with | none => true | some j => decide (XN[j]? = some p.1) && decide (scope.names.lookup p.1 = some .free)) = true
 cell1 : ∀ y ∈ scope.names, y.2 = .cell -> y.1 = t
 tl : scope.names.lookup t = some .cell
 laid : ∀ n acc, cellsFrom n scope.names acc = (t, n) :: acc
 pushed : ∀ h, pushCells h scope.names = h.push { cls := .type "cell", data := .cell none }
theorem JL {XN : List Str} {sc scope : Scope} {N : List Str} {js : List (Option Nat)} {t : Str} (h1 : scope.kind = .function := by rfl) (h3 : ∀ y ∈ scope.names, y.2 = .free -> sc.names.lookup y.1 = some .cell \/ sc.names.lookup y.1 = some .free := by decide +kernel)
  (h4 : ∀ y ∈ scope.names, y.2 = .local -> scope.names.lookup y.1 = some .local := by decide +kernel) (h5 : js.length = N.length := by rfl) (h6 : ((N.zip js).all fun p => match p.2 with | none => true | some j => decide (XN[j]? = some p.1) && decide (scope.names.lookup p.1 = some .free)) = true := by decide +kernel)
  (h7 : ∀ y ∈ scope.names, y.2 = .cell -> y.1 = t := by decide +kernel) (h8 : scope.names.lookup t = some .cell := by decide +kernel) (h9 : ∀ n acc, cellsFrom n scope.names acc = (t, n) :: acc := by intro n acc; rfl) (h10 : ∀ h, pushCells h scope.names = h.push { cls := .type "cell", data := .cell none } := by intro h; rfl) : CmpOkC XN sc scope N js t := ⟨h1, h3, h4, h5, h6, h7, h8, h9, h10⟩
noncomputable def cxD (t : Str) (X : Cx) (N : List Str) (scope : Scope) (z : CxZ) : Cx := { cxC X N scope z with fn := fun y => y == t }
theorem nl {env : Env} : ∀ {names : List (Str × NameKind)} {x : Str} {j : NameKind}, (j = .cell \/ j = .free) ->
  (names.map fun (n, k) => if (k == NameKind.free && env.scope.kind == .function && env.kindOf n == some .cell) then (n, NameKind.cell) else (n, k)).lookup x = some j -> (x, NameKind.free) ∈ names \/ (x, NameKind.cell) ∈ names
 | [], _, _, _, h => by simp at h
 | (n, k) :: r, x, j, hj, h => by
  have ih := @nl env r x j hj
  rw [N1] at h
  dsimp only at h
  cases q : x == n with
  | true =>
   have e : x = n := by simpa using q
   subst e
   split at h
   ·rename_i g
    have : k = .free := by simp only [Os, beq_iff_eq] at g; exact g.1.1
    subst this
    exact .inl NL
   ·rw [N8, q] at h
    cases h
    rcases hj with z | z
    ·rw [z]; exact .inr NL
    ·rw [z]; exact .inl NL
  | false =>
   have h' : (r.map fun (n, k) => if (k == NameKind.free && env.scope.kind == .function && env.kindOf n == some .cell) then (n, NameKind.cell) else (n, k)).lookup x = some j := by
    split at h
    ·rw [N8, q] at h; exact h
    ·rw [N8, q] at h; exact h
   exact (ih h').imp (NN _) (NN _)
section
variable {X : Cx} {pins : List (Addr × Obj)} {σ : St} {H : Hp} {s : Shared} {XN N : List Str} {sc scope : Scope} {js : List (Option Nat)}
theorem Hs {M : Model} {A : Around} {E : Value -> Shared -> Prop} {t : Str} {cl : List (Str × Addr)} {globals : Addr} {qual : Str} {env : Env} {Q : Env -> Shared -> Prop} (ck : CmpOkC XN sc scope N js t)
  (h : Q { scope := scope, locals := s.heap.objs.size, globals := globals, cells := (t, s.heap.objs.size + 1) :: cl, qual := qual, func := none, code := env.code, frame := env.frame, builtins := env.builtins } { s with heap := (s.heap.push { cls := .type "dict", data := .dict #[] }).push { cls := .type "cell", data := .cell none } }) : wpAny M A (newFunctionEnv scope globals cl [] qual none .none (some env)) Q E s := by
 simp only [newFunctionEnv, Option.isSome_some, if_true]
 refine NH (wpAny_alloc ?_)
 refine NH (wpAny_layCells _ (fun name kind cells => by cases hkc : kind == NameKind.cell <;> simp [hkc]) _ _ _ _ ?_)
 rw [ck.pushed, ck.laid, show ({ s with heap := s.heap.push { cls := .type "dict", data := .dict #[] } } : Shared).heap.objs.size = s.heap.objs.size + 1 from Heap.size_push ..]
 exact NJ h
theorem D3 {t : Str} {h1 : Heap} {tk : Nat} {fp : List Addr} (ck : CmpOkC XN sc scope N js t) (hXN : X.N = XN) (hsc : X.env.scope = sc) (I : Inv X pins σ H s) (hf : ∀ b ∈ fp, sf X pins H b)
  (hfo : ∀ b ∈ fp, b < s.heap.objs.size) (hh : h1 = (s.heap.push { cls := .type "dict", data := .dict #[] }).push { cls := .type "cell", data := .cell none }) :
  Inv (cxD t X N scope ⟨(t, s.heap.objs.size + 1) :: g7 X.env scope.names [], s.heap.objs.size, s, H, fp, pins⟩) [] (inn js σ) H { s with heap := h1, toks := tk } := by
 subst hXN hsc
 have hk : ∀ b o, s.heap.get? b = some o -> h1.get? b = some o := fun b o e => by rw [hh]; exact NW _ (NW _ e)
 have hn : h1.Ns s.heap.objs.size (fun _ => none) := by rw [hh]; exact (Heap.Ns.new s.heap (.type "dict")).keeps fun b o e => NW _ e
 have hcell : h1.get? (s.heap.objs.size + 1) = some { cls := .type "cell", data := .cell none } := by
  rw [hh, <- Heap.size_push s.heap { cls := .type "dict", data := .dict #[] }]
  exact Od _ rfl
 have look : ∀ n c, ((t, s.heap.objs.size + 1) :: g7 X.env scope.names []).lookup n = some c -> (n = t /\ c = s.heap.objs.size + 1) \/ (n ≠ t /\ (g7 X.env scope.names []).lookup n = some c) := fun n c h => by
  rw [N8] at h
  cases q : n == t with
  | true => rw [q] at h; cases h; exact .inl ⟨by simpa using q, rfl⟩
  | false => rw [q] at h; exact .inr ⟨fun e => by rw [e] at q; simp at q, h⟩
 have sub : ∀ n c, (g7 X.env scope.names []).lookup n = some c -> X.env.cells.lookup n = some c := wN fun n c h => by simp at h
 have clt : ∀ n c, (g7 X.env scope.names []).lookup n = some c -> c < s.heap.objs.size := fun n c h => by
  obtain ⟨v, q⟩ := I.cell n c (sub n c h)
  exact q.lt
 have has : ∀ x, (x, NameKind.free) ∈ scope.names -> ∃ c, (g7 X.env scope.names []).lookup x = some c := fun x hx =>
  wC (.inl ⟨hx, I.ok.has x (ck.free _ hx rfl)⟩)
 refine ⟨⟨I.ok.mod, ck.kind, I.ok.glob, I.ok.blt, NK _, fun x y c h1 h2 => ?inj, fun x hx => ?has, fun x c hx hl => ?cab, I.ok.hd, I.ok.frames, .inl rfl, fun b hb => ?exf, I.bs, ?bsz, fun b o e hb => ?noex, fun b hb => ?exfs, I.stack, I.stkFree⟩,
  rfl, I.bare, Un.kept hk, ⟨_, hn, fun i x v h1 h2 h3 => ?loc⟩, fun x c h => ?cell, I.hok.fresh (NK _), fun x c h => ?freeC, fun p hp => ?pin, I.hok.kept hk, ?len⟩
 case inj =>
  rcases look x c h1 with ⟨e1, e2⟩ | ⟨e1, e2⟩ <;> rcases look y c h2 with ⟨e3, e4⟩ | ⟨e3, e4⟩
  ·rw [e1, e3]
  ·have z : c < s.heap.objs.size := clt y c e4
   rw [e2] at z
   exact absurd z (Nat.not_lt.mpr (Nat.le_succ _))
  ·have z : c < s.heap.objs.size := clt x c e2
   rw [e4] at z
   exact absurd z (Nat.not_lt.mpr (Nat.le_succ _))
  ·exact I.ok.inj x y c (sub x c e2) (sub y c e4)
 case freeC =>
  rcases look x c h with ⟨e1, e2⟩ | ⟨e1, e2⟩
  ·rw [e2]; exact I.hok.fresh (Nat.le_succ _)
  ·exact I.freeC x c (sub x c e2)
 case has =>
  have hb : (x, NameKind.free) ∈ scope.names \/ (x, NameKind.cell) ∈ scope.names := by
   rcases hx with hx | hx
   ·exact nl (.inl rfl) hx
   ·exact nl (.inr rfl) hx
  by_cases e : x = t
  ·exact ⟨s.heap.objs.size + 1, by subst e; show List.lookup x ((x, _) :: _) = _; rw [N8, beq_self_eq_true]⟩
  ·rcases hb with hb | hb
   ·obtain ⟨c, hc⟩ := has x hb
    refine ⟨c, ?_⟩
    show List.lookup x ((t, _) :: _) = _
    rw [N8, show (x == t) = false by simpa using e]
    exact hc
   ·exact absurd (ck.cell1 _ hb rfl) e
 case cab =>
  have e : x = t := by
   have hx' : (x == t) = true := hx
   simpa using hx'
  rcases look x c hl with ⟨_, e2⟩ | ⟨e1, _⟩
  ·rw [e2]; exact Nat.le_succ _
  ·exact absurd e e1
 case exf =>
  obtain ⟨f0, f1, f2, f3, f4, f5⟩ := hf b hb
  refine ⟨N5 (hfo b hb), fun x c e => ?_⟩
  rcases look x c e with ⟨_, e2⟩ | ⟨_, e2⟩
  ·intro z
   have w := hfo b hb
   rw [<- z, e2] at w
   exact absurd w (Nat.not_lt.mpr (Nat.le_succ _))
  ·exact f4 x c (sub x c e2)
 case bsz => exact N6 I.ok.bsz I.sz
 case noex =>
  obtain ⟨f0, f1, f2, f3, f4, f5⟩ := hf b hb
  rcases f3 with f3 | f3
  ·exact I.ok.noex b o e f3
  ·exact absurd (Ob (NU e) (N6 I.ok.bsz f3)) (Nat.lt_irrefl _)
 case exfs =>
  obtain ⟨f0, f1, f2, f3, f4, f5⟩ := hf b hb
  intro z
  rcases NQ.mp (I.stkSub b z) with e | e
  ·exact f1 e
  ·exact f2 e
 case loc =>
  have hl : N.length = js.length := ck.len.symm
  have hi : i < js.length := by
   have := (Og.mp h1).1
   have e : (cxD t X N scope ⟨(t, s.heap.objs.size + 1) :: g7 X.env scope.names [], s.heap.objs.size, s, H, fp, pins⟩).N = N := rfl
   rw [e] at this
   lia
  have hN : N[i]? = some x := h1
  have hj : js[i]? = some js[i] := OA hi
  unfold inn at h2
  rw [Oh, hj] at h2
  cases q : js[i] with
  | none => rw [q] at h2; cases h2
  | some j =>
   rw [q] at h2 hj
   have h2' : (σ[j]?).join = some v := Oc h2
   have hσ : σ[j]? = some (some v) := by
    cases e : σ[j]? with
    | none => rw [e] at h2'; cases h2'
    | some o => rw [e] at h2'; exact congrArg some h2'
   have hm : (x, some j) ∈ N.zip js := by
    refine OO (i := i) ?_
    rw [List.getElem?_zip_eq_some]
    exact ⟨hN, hj⟩
   have hc := List.all_eq_true.mp ck.ix _ hm
   simp only [Os, decide_eq_true_eq] at hc
   obtain ⟨c1, c2⟩ := hc
   have hfr : (x, NameKind.free) ∈ scope.names := PySem.mem_of_lookup c2
   have hvis : X.env.scope.names.lookup x = some .cell \/ X.env.scope.names.lookup x = some .free := ck.free _ hfr rfl
   obtain ⟨m0, hn0, hl0⟩ := I.loc
   obtain ⟨u, r, l⟩ := hl0 j x v c1 hσ (hvis.elim (fun z => .inr (.inl z)) fun z => .inr (.inr z))
   refine ⟨u, r, .inr ⟨?_, ?_⟩⟩
   ·exact p6 c2
   ·rcases l with ⟨k1, _⟩ | ⟨_, c, k1, k2⟩
    ·have k1' : X.env.scope.names.lookup x = some .local := k1
     rcases hvis with z | z
     ·rw [z] at k1'; cases k1'
     ·rw [z] at k1'; cases k1'
    ·obtain ⟨c', hc'⟩ := has x hfr
     have e := sub x c' hc'
     rw [k1] at e
     cases e
     obtain ⟨oc, ho, hd⟩ := k2
     refine ⟨c, ?_, oc, hk _ _ ho, hd⟩
     have ne : x ≠ t := fun e => by rw [e, ck.tl] at c2; cases c2
     show List.lookup x ((t, _) :: _) = _
     rw [N8, show (x == t) = false by simpa using ne]
     exact hc'
 case cell =>
  rcases look x c h with ⟨e1, e2⟩ | ⟨e1, e2⟩
  ·exact ⟨none, _, by rw [e2]; exact hcell, rfl⟩
  ·obtain ⟨v, oc, ho, hd⟩ := I.cell x c (sub x c e2)
   exact ⟨v, oc, hk _ _ ho, hd⟩
 case pin =>
  have hp' : p ∈ X.pn ++ pins := by simpa [cxD, cxC] using hp
  obtain ⟨p1, p2, p3, p4, p5⟩ := I.pin p hp'
  refine ⟨hk _ _ p1, p2, N5 (NU p1), fun z => ?_, p5⟩
  rcases NQ.mp (I.stkSub _ z) with e | e
  ·exact p3 e
  ·exact p4 e
 case len =>
  show (inn js σ).length = N.length
  unfold inn
  rw [NT]
  exact ck.len
variable {tg iter elt : Expr} {ifs : List Expr} {pos : Pos} {wi : TI} {g : TG} {tt : TIf} {te : TE}
theorem BS {t : Str} {E : Value -> Shared -> Prop} {R : Result -> Shared -> Prop} {it D : Addr} {fp : List Addr} {tn : Nat -> Heap -> Prop} {J : It} {z : CxZ} {W : Nat -> Nat -> Hp -> Prop} {n : Nat}
  (hc : X.calm = true) (T : Turn X.prog X.w X.K tg J fp it tn) (hz : ∀ b ∈ fp, ∀ H', H' b = none -> sf (cxD t X N scope z) [] H' b)
  (hg : PG (cxD t X N scope z) tg g) (hs : xy js g) (ht : PIf (cxD t X N scope z) ifs tt) (he : PE (cxD t X N scope z) elt te)
  (turn : ∀ i m H, W i m H -> (J.stop i H /\ ∀ s', Inv (cxD t X N scope z) [] (inn js σ) H s' -> R (.ok .next) s') \/ (J.go i H /\ ∀ x H', J.yld i H x H' -> g x (inn js σ) H' fun σ2 H2 => tt σ2 H2 fun b H3 =>
   if b = true then te σ2 H3 fun y H4 => ∃ ys, H4 D = some (.lst ys) /\ ys.length < sizeLine /\ ∃ m', m' < m /\ W (i + 1) m' (upd H4 D (.lst (ys ++ [y]))) else ∃ m', m' < m /\ W (i + 1) m' H3))
  {s1 : Shared} {H1 : Hp} (I1 : Inv (cxD t X N scope z) [] (inn js σ) H1 s1) (t1 : tn 0 s1.heap) (f1 : ∀ b ∈ fp, H1 b = none) (w1 : W 0 n H1) :
  codeAny (model X.prog X.w) X.A (.compLoop (.ListComp elt [⟨tg, iter, ifs, 0⟩] scope pos) 0 (.ref it) (.ref D) (compEnvC scope z.cl z.C X.env)) R s1 := by
 refine codeAny_loop (c := .compLoop (.ListComp elt [⟨tg, iter, ifs, 0⟩] scope pos) 0 (.ref it) (.ref D) (compEnvC scope z.cl z.C X.env)) rfl
  (fun k s' => ∃ i H', Inv (cxD t X N scope z) [] (inn js σ) H' s' /\ tn i s'.heap /\ (∀ b ∈ fp, H' b = none) /\ W i k H') ?_ n ⟨0, H1, I1, t1, f1, w1⟩
 rintro k s2 ⟨i, H2, I2, t2, f2, w2⟩
 show wpAny (model X.prog X.w) X.A ((compTurn (.ListComp elt [⟨tg, iter, ifs, 0⟩] scope pos) 0 (.ref it) (.ref D) (compEnvC scope z.cl z.C X.env)).onRaise fun x => do noteFrame x (compEnvC scope z.cl z.C X.env); theTreesLotGoes x) _ _ s2
 refine wpAny_noted ?_
 rw [compTurn_list]
 refine NH (wpAny_standAt ?_)
 rcases turn i k H2 w2 with ⟨stop, fin⟩ | ⟨go, step⟩
 ·refine NH (thn (T.done (cxD t X N scope z) rfl rfl rfl hc i [] s2 (inn js σ) H2 _ I2 (fun b hb => hz b hb H2 (f2 b hb)) t2 stop) fun r s3 h3 => ?_)
  obtain ⟨rfl, I3⟩ := h3
  exact NJ (fin s3 I3)
 ·refine NH (thn (T.item (cxD t X N scope z) rfl rfl rfl hc i [] s2 (inn js σ) H2 _ I2 (fun b hb => hz b hb H2 (f2 b hb)) t2 go) fun r s3 h3 => ?_)
  obtain ⟨u, rfl, h3⟩ := h3
  refine NH (thn h3 fun _ s4 h4 => ?_)
  obtain ⟨x, H4, I4, r4, y4, t4, f4⟩ := h4
  have P4 := I4.pinned (fun b hb => hz b hb H4 (f4 b hb)) (T.obj _ _ t4)
  have ff : ∀ {e : Value} {s' : Shared}, (cxD t X N scope z).xe e s' -> False := fun h => h
  refine NH (wpAny_mono (hg _ s4 (inn js σ) H4 x u _ P4 r4 (hs σ x (inn js σ) H4 _ (Lev.refl _) (step x H4 y4))) (fun _ s5 h5 => ?_) fun _ _ h => (ff h).elim)
  obtain ⟨σ5, H5, I5, lev, q5⟩ := h5
  refine NH (wpAny_mono (ht _ s5 σ5 H5 _ I5 q5) (fun ok s6 h6 => ?_) fun _ _ h => (ff h).elim)
  obtain ⟨H6, I6, q6⟩ := h6
  have again : ∀ {s7 : Shared} {H7 : Hp}, Inv (cxD t X N scope z) ([] ++ sP fp s4.heap) σ5 H7 s7 -> (∃ m', m' < k /\ W (i + 1) m' H7) -> ∃ m, m < k /\ ∃ i H', Inv (cxD t X N scope z) [] (inn js σ) H' s7 /\ tn i s7.heap /\ (∀ b ∈ fp, H' b = none) /\ W i m H' := fun {s7 H7} I7 h7 => by
   obtain ⟨m', hm, w7⟩ := h7
   refine ⟨m', hm, i + 1, H7, (I7.unpinned).weak lev.1 lev.2, T.keep _ _ _ t4 fun b hb o e => (I7.pin (b, o) (NP _ (NP _ (iq hb e)))).1, fun b hb => ?_, w7⟩
   obtain ⟨o, e, d⟩ := T.obj _ _ t4 b hb
   exact (I7.pin (b, o) (NP _ (NP _ (iq hb e)))).2.1
  cases ok with
  | false =>
   rw [NG (by decide)] at q6
   exact NJ ⟨rfl, again I6 q6⟩
  | true =>
   rw [NF rfl] at q6
   refine NH (NH (wpAny_mono (he _ s6 σ5 H6 _ I6 q6) (fun y s7 h7 => ?_) fun _ _ h => (ff h).elim))
   obtain ⟨vy, H7, I7, r7, ys, hD, hl, q7⟩ := h7
   refine NH (wpAny_mono (eF (X := cxD t X N scope z) _ s7 σ5 H7 (.ref D) [vy] (.ref D) [y] (fun _ H' => ∃ m', m' < k /\ W (i + 1) m' H') I7 rfl (.cons r7 .nil) ⟨D, ys, vy, rfl, rfl, hD, hl, q7⟩) (fun _ s8 h8 => ?_) fun _ _ h => (ff h).elim)
   obtain ⟨_, H8, I8, _, q8⟩ := h8
   exact NJ (NJ ⟨rfl, again I8 q8⟩)
theorem Ac {t : Str} {E : Value -> Shared -> Prop} {RR : Value -> Addr -> Result -> Shared -> Prop} {Q : VK} {itv : Value} {s2 : Shared} (ck : CmpOkC XN sc scope N js t) (hXN : X.N = XN) (hsc : X.env.scope = sc) (hc : X.calm = true)
  (hg : ∀ z, PG (cxD t X N scope z) tg g) (hs : xy js g) (ht : ∀ z, PIf (cxD t X N scope z) ifs tt) (he : ∀ z, PE (cxD t X N scope z) elt te)
  (h2 : PIE X pins σ tg (fun J H1 => ∀ D, H1 D = none -> ∃ W : Nat -> Nat -> Hp -> Prop, (∃ m, W 0 m (upd H1 D (.lst []))) /\ ∀ i m H, W i m H ->
   (J.stop i H /\ Q (.ref D) H) \/ (J.go i H /\ ∀ x H', J.yld i H x H' -> g x (inn js σ) H' fun σ2 H2 => tt σ2 H2 fun b H3 =>
    if b = true then te σ2 H3 fun y H4 => ∃ ys, H4 D = some (.lst ys) /\ ys.length < sizeLine /\ ∃ m', m' < m /\ W (i + 1) m' (upd H4 D (.lst (ys ++ [y]))) else ∃ m', m' < m /\ W (i + 1) m' H3)) itv s2)
  (hRR : ∀ D C s' H' m o, Inv X (pins ++ [(C, o)]) σ H' s' -> s'.heap.Ns C m -> (X.s₀.heap.objs.size <= C /\ C ≠ X.env.locals /\ (∀ x c, X.env.cells.lookup x = some c -> c ≠ C) /\ ∀ p ∈ X.pn ++ pins, p.1 ≠ C) -> H' C = none -> Q (.ref D) H' -> RR (.ref D) C (.ok .next) s') :
  wpAny (model X.prog X.w) X.A (newList []) (fun acc s₃ => wpAny (model X.prog X.w) X.A (newFunctionEnv scope X.env.globals (g7 X.env scope.names []) [] X.env.qual none .none (some X.env)) (fun cenv s₄ =>
   codeAny (model X.prog X.w) X.A (.compStart (.ListComp elt [⟨tg, iter, ifs, 0⟩] scope pos) 0 itv acc { cenv with scope := relabel scope X.env }) (RR acc cenv.locals) s₄) E s₃) E s2 := by
 obtain ⟨it, fp, tn, J, H2, rfl, I2, T, t2, f2, q2⟩ := h2
 have fo : ∀ b ∈ fp, b < s2.heap.objs.size := fun b hb => by
  obtain ⟨o, e, _⟩ := T.obj _ _ t2 b hb
  exact NU e
 have hD : H2 s2.heap.objs.size = none := I2.fresh
 obtain ⟨W, ⟨n, w0⟩, turn⟩ := q2 _ hD
 refine Ot (Hs ck ?_)
 generalize hh1 : ((s2.heap.push { cls := .type "list", data := .seq ([] : List Value).toArray }).push { cls := .type "dict", data := .dict #[] }).push { cls := .type "cell", data := .cell none } = h1
 have I3 : Inv X pins σ (upd H2 s2.heap.objs.size (.lst [])) { s2 with heap := s2.heap.push { cls := .type "list", data := .seq ([] : List Value).toArray }, toks := s2.toks } := I2.lnew (its := []) .nil (Ov _)
 have f3 : ∀ b ∈ fp, sf X pins (upd H2 s2.heap.objs.size (.lst [])) b := fun b hb => by
  obtain ⟨g0, g1⟩ := f2 b hb
  exact ⟨by rw [a6 (N5 (fo b hb))]; exact g0, g1⟩
 have sz : (s2.heap.push { cls := .type "list", data := .seq ([] : List Value).toArray }).objs.size = s2.heap.objs.size + 1 := Heap.size_push _ _
 have kept : ∀ b o, (s2.heap.push { cls := .type "list", data := .seq ([] : List Value).toArray }).get? b = some o -> h1.get? b = some o := fun b o e => by
  rw [<- hh1]; exact NW _ (NW _ e)
 have I4 := D3 (tk := s2.toks) ck hXN hsc I3 f3 (fun b hb => by show b < (s2.heap.push _).objs.size; rw [sz]; exact Nat.lt_succ_of_lt (fo b hb)) hh1.symm
 have t4 : tn 0 h1 := T.keep _ _ _ t2 fun b hb o e => kept b o (NW _ e)
 have fz : ∀ b ∈ fp, ∀ H', H' b = none -> sf (cxD t X N scope ⟨(t, (s2.heap.push { cls := .type "list", data := .seq ([] : List Value).toArray }).objs.size + 1) :: g7 X.env scope.names [], (s2.heap.push { cls := .type "list", data := .seq ([] : List Value).toArray }).objs.size, { s2 with heap := s2.heap.push { cls := .type "list", data := .seq ([] : List Value).toArray }, toks := s2.toks }, upd H2 s2.heap.objs.size (.lst []), fp, pins⟩) [] H' b := fun b hb H' hn => by
  obtain ⟨g0, g1, g2, g3, g4, g5⟩ := f3 b hb
  refine ⟨hn, (I4.ok.exf b hb).1, I4.ok.exfs b hb, .inl hb, (I4.ok.exf b hb).2, fun p hp => ?_⟩
  exact g5 p (by simpa [cxD, cxC] using hp)
 have loop := BS (X := X) (t := t) (σ := σ) (N := N) (scope := scope) (js := js) (iter := iter) (pos := pos) (E := E) (R := RR (.ref s2.heap.objs.size) (s2.heap.push { cls := .type "list", data := .seq ([] : List Value).toArray }).objs.size) (D := s2.heap.objs.size) (W := W) (n := n)
  hc T fz (hg _) hs (ht _) (he _) (fun i m H w => (turn i m H w).imp (fun a => ⟨a.1, fun s' Y => ?_⟩) id) I4 t4 (fun b hb => (f3 b hb).1) w0
 ·exact codeAny_compStart_list loop (T.self _ 0 _ _ _ t4 loop)
 ·have bb := Y.base
  have J0 : Inv X pins σ H s' := I3.call' Y.os bb Y.hok Y.bare fun b hb => by
   obtain ⟨g0, g1, g2, g3, g4, g5⟩ := f3 b hb
   exact ⟨g3, g1, g4, g5⟩
  obtain ⟨mC, nC, _⟩ := Y.loc
  obtain ⟨oC, eC, dC⟩ : ∃ o, s'.heap.get? (s2.heap.push { cls := .type "list", data := .seq ([] : List Value).toArray }).objs.size = some o /\ ∀ v, o.data ≠ .cell v := by
   obtain ⟨o, es, ep, ho, hd, _⟩ := nC
   exact ⟨o, ho, fun v z => by rw [hd] at z; cases z⟩
  have lC : X.s₀.heap.objs.size <= (s2.heap.push { cls := .type "list", data := .seq ([] : List Value).toArray }).objs.size := I3.sz
  have cC : (s2.heap.push { cls := .type "list", data := .seq ([] : List Value).toArray }).objs.size ≠ X.env.locals := Nat.ne_of_gt I3.lt
  have kC : ∀ x c, X.env.cells.lookup x = some c -> c ≠ (s2.heap.push { cls := .type "list", data := .seq ([] : List Value).toArray }).objs.size := fun x c e => by
   obtain ⟨v, q⟩ := I3.cell x c e
   exact N5 q.lt
  have pC : ∀ p ∈ X.pn ++ pins, p.1 ≠ (s2.heap.push { cls := .type "list", data := .seq ([] : List Value).toArray }).objs.size := fun p hp => N5 (NU (I3.pin p hp).1)
  have J1 : Inv X (pins ++ [((s2.heap.push { cls := .type "list", data := .seq ([] : List Value).toArray }).objs.size, oC)]) σ H s' := J0.pins_of fun p hp => by
   rcases NM.mp hp with hp | hp
   ·exact J0.pin p (NP _ hp)
   ·rw [NI.mp hp]
    exact ⟨eC, Y.free, cC, I3.nofs (NK _), dC⟩
  exact hRR _ _ s' H mC oC J1 nC ⟨lC, cC, kC, pC⟩ Y.free a.2
theorem G2 {t : Str} (ck : CmpOkC XN sc scope N js t) (hi : PI X tg iter wi) (hg : ∀ z, PG (cxD t X N scope z) tg g) (hs : xy js g) (ht : ∀ z, PIf (cxD t X N scope z) ifs tt) (he : ∀ z, PE (cxD t X N scope z) elt te)
  (hXN : X.N = XN := by rfl) (hsc : X.env.scope = sc := by rfl) (hc : X.calm = true := by rfl) (hf : ∀ x, foldedSetIterable iter X.env x = pure x := by intro _; rfl) :
  PE X (.ListComp elt [⟨tg, iter, ifs, 0⟩] scope pos) (C8 js wi g tt te) := by
 intro pins s σ H Q I h
 rw [eval_ListComp]
 have hcl : closureFor scope X.env = pure (g7 X.env scope.names []) := p8 fun y hy hk => I.ok.has y.1 (by
  have := ck.free y hy hk
  rw [<- hsc] at this
  exact this)
 refine wpAny_comprehension_free (use := none) rfl hf hcl ck.kind ck.loc (thn (hi pins s σ H _ I h) fun v s1 h1 => thn h1 fun itv s2 h2 => ?_)
 refine Ac (RR := fun acc C => compPost (model X.prog X.w) X.A X.xe none (EP X pins σ Q) acc C) ck hXN hsc hc hg hs ht he h2 ?_
 intro D C s' H' m o J nC hC fC q
 refine ⟨m, nC, fun h' sb => ⟨.ref D, H', ?_, rfl, q⟩⟩
 have J0 : Inv X pins σ H' s' := J.unpinned
 exact J0.turned (t' := s'.toks) (it := C) (fun b o hb e => sb.extBut b o hb e) fC hC.2.1 (.inr hC.1) hC.2.2.1 hC.2.2.2
end
end L2
namespace RevT
open PySem PySem.Calls PyProof.Rows
theorem slot_next : Slot "reversed" "__next__" "reversed.__next__" := .of (owner := "reversed") (n := "__next__") (by rw [typeLookup_type, builtinLookup_eq_fast]; kernel_rfl) (by decide +kernel) (by decide +kernel) (by decide +kernel) (by first | exact .inl (by decide +kernel) | exact .inr (by decide +kernel)) (by rw [isSubtype_type]; kernel_rfl)
theorem vt : entryFor table "reversed.__next__" = some Builtin.«reversed.__next__» := entryFor_of_tree (by kernel_rfl)
theorem yy (a : Value) : argsOk "reversed.__next__" ⟨[a], []⟩ := by unfold argsOk; kernel_rfl
theorem xM : Slot "reversed" "__iter__" "reversed.__iter__" := .of (owner := "reversed") (n := "__iter__") (by rw [typeLookup_type, builtinLookup_eq_fast]; kernel_rfl) (by decide +kernel) (by decide +kernel) (by decide +kernel) (by first | exact .inl (by decide +kernel) | exact .inr (by decide +kernel)) (by rw [isSubtype_type]; kernel_rfl)
theorem Ei (a : Value) : argsOk "reversed.__iter__" ⟨[a], []⟩ := by unfold argsOk; kernel_rfl
theorem BL : entryFor table "reversed.__iter__" = some Builtin.«dict_keyiterator.__iter__» := entryFor_alias (id' := "dict_keyiterator.__iter__") (by kernel_rfl) (by first | rfl | decide +kernel | (unfold String.splitOn; simp +decide [String.splitOnAux])) (by decide +kernel) (by kernel_rfl)
theorem Jr : typeLookup (.type "tuple") "__reversed__" = pure none := by rw [typeLookup_type, builtinLookup_eq_fast]; kernel_rfl
theorem Dl : typeLookup (.type "tuple") "__getitem__" = pure (some (.builtin "tuple.__getitem__")) := by rw [typeLookup_type, builtinLookup_eq_fast]; kernel_rfl
theorem HY : isSubtype (.type "tuple") (.type "dict") = pure false := by rw [isSubtype_type]; kernel_rfl
theorem sub_self : isSubtype (.type "reversed") (.type "reversed") = pure true := by rw [isSubtype_type]; kernel_rfl
noncomputable def wt (t : Addr) (i : Int) : Obj := { cls := .type "reversed", data := .fields #[.ref t, rawInt i] }
def IsRev (h : Heap) (a t : Addr) (i : Int) : Prop := ∃ o, h.get? a = some o /\ o.cls = .type "reversed" /\ o.data = .fields #[.ref t, rawInt i]
section
variable {prog : Program} {w : World} {A : Around} {E : Value -> Shared -> Prop} {s : Shared}
theorem IsRev.typeIs {a t : Addr} {i : Int} (x : IsRev s.heap a t i) : s.TypeIs (.ref a) "reversed" := let ⟨o, ho, hc, _⟩ := x; ⟨o, ho, hc⟩
theorem DK {it t : Addr} {i : Nat} {items : Array Value} {x : Value} {Q : Option Value -> Shared -> Prop} (hit : IsRev s.heap it t (i : Int)) (ht : IsTup s.heap t items) (hx : items[i]? = some x) (hi : (i : Int) < 2 ^ 62)
  (hQ : ∀ h' tk, IsRev h' it t ((i : Int) - 1) -> Heap.SameBut it s.heap h' -> Q (some x) { s with heap := h', toks := tk }) : wpAny (model prog w) A (pyNext (.ref it)) Q E s := by
 obtain ⟨o, ho, hc, hd⟩ := id hit
 unfold pyNext
 refine NH (wpAny_attempt (wpAny_callSpecial?_slot (name := Str.ofString "__next__") hit.typeIs slot_next (wpAny_call_entry slot_next hit.typeIs vt ?_ (yy _))))
 unfold Builtin.«reversed.__next__»
 refine NH (wpAny_of_eq (a := (Value.ref it, [])) rfl ?_)
 try dsimp only
 refine NH (wpAny_field ho hd (x := .ref t) rfl ?_)
 refine NH (wpAny_field ho hd (x := rawInt (i : Int)) rfl ?_)
 show wpAny _ _ (if (i : Int) < 0 then _ else _) _ _ s
 rw [NG (by lia)]
 refine NH (wpAny_specialOf ht.typeIs Dl ?_)
 rw [NG (show ¬ ((some (Value.builtin "tuple.__getitem__")).isNone = true) from OC)]
 refine NH (wpAny_mkInt ?_)
 have p63 : (2 : Int) ^ 63 = 9223372036854775808 := by decide
 have p62 : (2 : Int) ^ 62 = 4611686018427387904 := by decide
 have hsz := (Array.getElem?_eq_some_iff.mp hx).1
 have hix : seqIndex? (i : Int) items.size = some i := by
  unfold seqIndex?
  simp
  lia
 refine NH (wpAny_attempt (getItem_tuple (s := { s with toks := s.toks + 1 }) (j := i) ht (by lia) (by lia) hix hx ?_))
 dsimp only
 refine NH (wpAny_field (s := { s with toks := s.toks + 1 }) ho hd (x := rawInt (i : Int)) rfl ?_)
 show wpAny _ _ (setField (.ref it) 1 (rawInt ((i : Int) - 1)) >>= _) _ _ _
 refine NH (wpAny_setField (s := { s with toks := s.toks + 1 }) ho hd (by simp) ?_)
 refine NJ ⟨x, rfl, NJ (hQ _ _ ?_ (Heap.SameBut.update ..))⟩
 exact ⟨_, Heap.get?_update_self _ ho (Obj.isFreed_of_fields (Obj.data_mapFields hd _)), (Obj.cls_mapFields ..).trans hc, by rw [Obj.data_mapFields hd]; simp⟩
theorem Ft {it t : Addr} {Q : Option Value -> Shared -> Prop} (hh : A.handled = none) (hit : IsRev s.heap it t (-1)) (hQ : ∀ h', Heap.ExtBut it s.heap h' -> Q none { s with heap := h' }) : wpAny (model prog w) A (pyNext (.ref it)) Q E s := by
 obtain ⟨o, ho, hc, hd⟩ := id hit
 unfold pyNext
 refine NH (wpAny_attempt (wpAny_callSpecial?_slot (name := Str.ofString "__next__") hit.typeIs slot_next (wpAny_call_entry slot_next hit.typeIs vt ?_ (yy _))))
 unfold Builtin.«reversed.__next__»
 refine NH (wpAny_of_eq (a := (Value.ref it, [])) rfl ?_)
 try dsimp only
 refine NH (wpAny_field ho hd (x := .ref t) rfl ?_)
 refine NH (wpAny_field ho hd (x := rawInt (-1)) rfl ?_)
 show wpAny _ _ (if (-1 : Int) < 0 then _ else _) _ _ s
 rw [NF (by decide)]
 refine NH (wpAny_rule ?_)
 refine NH ?_
 refine NH (wpAny_setField ho hd (by simp) ?_)
 have ho' := Heap.get?_update_self (h := s.heap) (Obj.mapFields (·.setIfInBounds 1 (rawInt (-1)))) ho (Obj.isFreed_of_fields (Obj.data_mapFields hd _))
 have hd' := Obj.data_mapFields hd (·.setIfInBounds 1 (rawInt (-1)))
 refine wpAny_setField (s := { s with heap := s.heap.update it (Obj.mapFields (·.setIfInBounds 1 (rawInt (-1)))) }) ho' hd' (by simp) ?_
 first
 | show wpAny _ _ (newExc (.type "StopIteration") [] >>= _) _ _ _
 | (refine NH ?_; show wpAny _ _ (newExc (.type "StopIteration") [] >>= _) _ _ _)
 refine NH ?_
 simp only [newExc, newTuple]
 refine NH (Ot ?_ (by size_fits))
 refine NH (m := firstArgMember _ _) (wpAny_of_eq (a := Value.none) (by first | rfl | (simp only [firstArgMember]; rfl)) ?_)
 refine Ot ?_ (by size_fits)
 simp only [raiseNew]
 refine NH (wpAny_handled ?_)
 first | rw [show A.in1.handled = none from hh] | rw [hh]
 refine NH (NJ (wpAny_throw ?_))
 refine NH (wpAny_isInstance (T := "StopIteration") (b := true) ⟨_, Od _ rfl, rfl⟩ isSubtype_stop ?_)
 exact NJ (hQ _ ((((Heap.SameBut.update ..).trans (Heap.SameBut.update ..)).extBut.push _).push _))
theorem yz {it t : Addr} {i : Int} {Q : Value -> Shared -> Prop} (hit : IsRev s.heap it t i) (h : Q (.ref it) s) : wpAny (model prog w) A (pyIter (.ref it)) Q E s := by
 refine wpAny_pyIter_slot hit.typeIs xM (wpAny_call_entry xM hit.typeIs BL ?_ (Ei _))
 show wpAny _ _ (ret (.ref it)) _ _ s
 exact NJ ⟨_, rfl, "reversed", _, hit.typeIs, slot_next.lookup, h⟩
end
theorem Dq : mroOf (.type "reversed") = pure [.type "reversed", .type "object"] := by rw [mroOf_type]; kernel_rfl
theorem Ga : typeLookup (.type "reversed") "__new__" = pure (some (.builtin "reversed.__new__")) := by rw [typeLookup_type, builtinLookup_eq_fast]; kernel_rfl
theorem DV : Slot "reversed" "__init__" "object.__init__" := .of (owner := "object") (n := "__init__") (by rw [typeLookup_type, builtinLookup_eq_fast]; kernel_rfl) (by decide +kernel) (by decide +kernel) (by decide +kernel) (by first | exact .inl (by decide +kernel) | exact .inr (by decide +kernel)) (by rw [isSubtype_type]; kernel_rfl)
theorem Co : TypeCalled "reversed" "reversed.__new__" "object.__init__" := ⟨by decide +kernel, by decide +kernel, ⟨_, _, Dq⟩, madeBy_type Dq Ga (by decide +kernel), by decide +kernel, by rw [isSubtype_type]; kernel_rfl, DV⟩
theorem zo (a : Value) : checkTypeCall "reversed" ⟨[a], []⟩ = pure () := by kernel_rfl
theorem Ah (a : Value) : checkBuiltinCall "reversed.__new__" ⟨[.type "reversed", a], []⟩ = pure () := by kernel_rfl
theorem DR : entryFor table "reversed.__new__" = some Builtin.«reversed.__new__» := entryFor_of_tree (by kernel_rfl)
theorem zR (a : Value) : Builtin.SmallTypes.newClass "reversed" ⟨[.type "reversed", a], []⟩ = pure (.type "reversed", [a]) := by
 unfold Builtin.SmallTypes.newClass
 simp only [isType, sub_self, pure_bind, Bool.not_true, Bool.false_eq_true, if_false]
theorem DY (t : Addr) (items : Array Value) (hz : (items.size : Int) < 2 ^ 63) : Meets (Builtin.«reversed.__new__» ⟨[.type "reversed", .ref t], []⟩) (fun _ R s => IsTup s.heap t items /\ R (.ok (.ret (.ref s.heap.objs.size))) { s with heap := s.heap.push (wt t ((items.size : Int) - 1)), toks := s.toks + 1 + 1 }) :=
 .of_wp fun prog w A R s h => by
  obtain ⟨ht, h⟩ := h
  unfold Builtin.«reversed.__new__»
  refine NH (wpAny_of_eq (zR _) ?_)
  try dsimp only
  refine NH (wpAny_of_eq (a := ()) (by first | rfl | kernel_rfl) ?_)
  refine NH (wpAny_of_eq (a := ()) (by first | rfl | kernel_rfl) ?_)
  try dsimp only
  refine NH (wpAny_specialOf ht.typeIs Jr ?_)
  try dsimp only
  refine NH (NH (wpAny_isInstance (T := "tuple") (b := false) ht.typeIs HY ?_))
  rw [NG OC]
  refine NH (wpAny_specialOf ht.typeIs Dl ?_)
  refine (show wpAny _ _ (pure true) _ _ _ from NJ ?_)
  show wpAny _ _ (if (!true) = true then _ else _) _ _ _
  rw [NG (by decide)]
  refine NH (len_tuple ht hz ?_)
  show wpAny _ _ (Builtin.SmallTypes.newRecord (.type "reversed") [.ref t, rawInt ((items.size : Int) - 1)] >>= _) _ _ _
  refine NH (Ot (data := .fields #[.ref t, rawInt ((items.size : Int) - 1)]) ?_ (by size_fits))
  exact NJ ⟨_, rfl, h⟩
theorem F1 {prog : Program} {w : World} {A : Around} {E : Value -> Shared -> Prop} {s : Shared} {t : Addr} {items : Array Value} {Q : Value -> Shared -> Prop} (ht : IsTup s.heap t items) (hz : (items.size : Int) < 2 ^ 63)
  (h : Q (.ref s.heap.objs.size) { s with heap := s.heap.push (wt t ((items.size : Int) - 1)), toks := s.toks + 1 + 1 }) : wpAny (model prog w) A (call (.type "reversed") [.ref t]) Q E s :=
 callType_new Co (by decide) (zo _) (Ah _) (fun obj => F.args_object_init_2 obj _) DR (DY t items hz) ⟨ht, ⟨_, Od _ rfl, rfl⟩, h⟩
end RevT
namespace L2
open PySem PySem.Spec PyProof.Rows
noncomputable def Itv (K : W.Frag) (a : Addr) (xs : List V) : It :=
 ⟨fun i H => SqT K H a xs /\ ∃ x, xs.reverse[i]? = some x, fun i H x H' => H' = H /\ xs.reverse[i]? = some x, fun i H => SqT K H a xs /\ xs.length = i⟩
noncomputable def Lj (K : W.Frag) (ta : TA) : TI := fun σ H R => ta σ H fun vs H1 => ∃ a xs, vs = [.ref a] /\ SqT K H1 a xs /\ R (Itv K a xs) H1
section
variable {X : Cx} {tg : Expr}
theorem GN {P : Program} {w : World} {K : W.Frag} (a it : Addr) (xs : List V) : Turn P w K tg (Itv K a xs) [it] it (fun i h => RevT.IsRev h it a ((xs.length : Int) - 1 - (i : Nat))) where
 mem := by simp
 obj := fun i h st b hb => by
  rw [NI.mp hb]
  obtain ⟨o, e, c, d⟩ := st
  exact ⟨o, e, fun v z => by rw [d] at z; cases z⟩
 keep := fun i h h' st k => by
  obtain ⟨o, e, r⟩ := st
  exact ⟨o, k it (by simp) _ e, r⟩
 item := by
  intro X hP hw hK hc i pins s σ H E I hf st hg
  subst hP hw hK
  obtain ⟨hq, x, hx⟩ := hg
  obtain ⟨its, rv, p, hz⟩ := I.tuple hq
  have hi : i < xs.length := by have := (Og.mp hx).1; simpa using this
  have hx' : xs[xs.length - 1 - i]? = some x := by rw [List.getElem?_reverse hi] at hx; exact hx
  obtain ⟨u, hu, ru⟩ := rv.get hx'
  obtain ⟨f0, f1, f2, f3, f4, f5⟩ := hf it (by simp)
  have e : (xs.length : Int) - 1 - (i : Nat) = ((xs.length - 1 - i : Nat) : Int) := by lia
  have hn : (sizeLine : Nat) < 2 ^ 60 := by rw [sizeLine_eq]; decide
  have p62 : (2 : Int) ^ 62 = 4611686018427387904 := by decide
  rw [e] at st
  refine RevT.DK st p (x := u) (by simpa using hu) (by lia) fun h' tk st' sb => ?_
  have I1 : Inv X pins σ H { s with heap := h', toks := tk } := I.turned (fun b o hb e => (sb.2 b hb).trans e) f0 f1 f3 f4 f5
  have st2 : RevT.IsRev h' it a ((xs.length : Int) - 1 - ((i + 1 : Nat) : Int)) := by
   have e2 : (xs.length : Int) - 1 - ((i + 1 : Nat) : Int) = ((xs.length - 1 - i : Nat) : Int) - 1 := by lia
   rw [e2]; exact st'
  obtain ⟨o, e, c, d⟩ := id st'
  exact ⟨u, rfl, CS (s := { s with heap := h', toks := tk }) e c d (by decide) ⟨x, H, I1, ru, ⟨rfl, hx⟩, st2, fun b hb => (hf b hb).1⟩⟩
 done := by
  intro X hP hw hK hc i pins s σ H E I hf st hg
  subst hP hw hK
  obtain ⟨hq, hx⟩ := hg
  obtain ⟨f0, f1, f2, f3, f4, f5⟩ := hf it (by simp)
  have e : (xs.length : Int) - 1 - (i : Nat) = -1 := by lia
  rw [e] at st
  exact RevT.Ft (I.ok.hd hc) st fun h' eb => ⟨rfl, I.turned (t' := s.toks) (fun b o hb e => eb b o hb e) f0 f1 f3 f4 f5⟩
 self := fun _ _ _ _ _ st h => RevT.yz st h
theorem Jj {a : Expr} {ta : TA} {p pos : Pos} (hg : Gl X "reversed") (hm : X.mg "reversed" = none) (ha : PA X [a] ta) (hs : starEach [a] X.env = [(false, eval a X.env)] := by rfl) : PI X tg (.Call (.Name "reversed" p) [a] [] pos) (Lj X.K ta) := by
 intro pins s σ H R I h
 refine Call_ (sQ I hg hm AK (PyProof.Rows.callWith_type1 (thn (ha pos pins s σ H _ I h) fun us s1 h1 => ?_) hs rfl))
 obtain ⟨vs, H1, I1, r1, t, xs, rfl, hq, q⟩ := h1
 obtain ⟨u, rfl, rx⟩ := z8 r1
 cases rx
 obtain ⟨its, rv, p, hz⟩ := I1.tuple hq
 have hlen := rv.length
 have hn := pN
 refine RevT.F1 p (by simp only [NZ] <;> lia) ?_
 have I2 : Inv X pins σ H1 { s1 with heap := s1.heap.push (RevT.wt t ((its.toArray.size : Int) - 1)), toks := s1.toks + 1 + 1 } := I1.kept fun b o e => NW _ e
 have st : RevT.IsRev (s1.heap.push (RevT.wt t ((its.toArray.size : Int) - 1))) s1.heap.objs.size t ((xs.length : Int) - 1 - ((0 : Nat) : Int)) := by
  refine ⟨_, Od _ rfl, rfl, ?_⟩
  have e : (xs.length : Int) - 1 - ((0 : Nat) : Int) = (its.toArray.size : Int) - 1 := by simp [hlen]
  rw [e]; rfl
 refine RevT.yz (s := { s1 with heap := s1.heap.push (RevT.wt t ((its.toArray.size : Int) - 1)), toks := s1.toks + 1 + 1 }) st ?_
 refine ⟨s1.heap.objs.size, [s1.heap.objs.size], _, _, H1, rfl, I2, GN t _ xs, st, fun b hb => ?_, q⟩
 rw [NI.mp hb]
 exact I1.fpOk (NK _) I1.fresh
end
end L2
namespace M
open PySem L2
section
variable {K : W.Frag} {S S' H H' : Hp}
noncomputable def Lg : List D -> Option (List D)
 | [.tup l] => some l.reverse | _ => none
@[simp] noncomputable def xY (a : XA) : XA := fun ρ => (a ρ).bind Lg
theorem KF {t : TA} {a : XA} (h : SAP K t a) : SI K (Lj K t) (xY a) := fun ρ σ S H R l r x k => by
 unfold xY at x
 cases q : a ρ with
 | none => rw [q] at x; cases x
 | some ds =>
  rw [q] at x
  dsimp only [Option.bind] at x
  unfold Lg at x
  split at x
  ·rename_i l'
   cases x
   refine h ρ σ S H _ _ r q fun vs S1 H1 z1 d1 => ?_
   cases d1 with
   | cons a1 d1 =>
    cases d1
    rcases a1 with a1 | ⟨l2, _, _, e, _⟩
    ·obtain ⟨p, xs, rfl, h1, h2⟩ := kj a1
     refine ⟨p, xs, rfl, cV z1.sub h1, k _ S1 H1 z1 fun S' H' s1 s2 => ⟨fun i d hd => ?_, cV (s1.trans s2) h1, by rw [List.length_reverse]; exact h2.length.symm⟩⟩
     have hi : i < l'.length := by have := (Og.mp hd).1; simpa using this
     rw [List.getElem?_reverse hi] at hd
     obtain ⟨y, e1, e2⟩ := h2.get hd
     have hl := h2.length
     have e3 : xs.reverse[i]? = some y := by rw [List.getElem?_reverse (by lia)]; rw [<- e1]; congr 2; lia
     refine ⟨⟨cV (s1.trans s2) h1, y, e3⟩, fun x H'' hy => ⟨hy.1, ?_⟩⟩
     have := hy.2
     rw [e3] at this
     cases this
     exact e2.mono s1
    ·cases e
  ·cases x
end
end M
namespace L2
open PySem
structure IsC (K : W.Frag) (C : Addr) : Prop where
 cl : Cls K C
 ha : W.findIn K (.ref C) "__class__" = some (some (.builtin "object.__class__"))
 hn : W.specialIn K (.builtin "object.__class__") "__get__" = some (some (.builtin "getset_descriptor.__get__"))
 htk : W.takesIn K (.builtin "object.__class__") = some true
 hm : W.mroIn K C (.type "object") = some true
def oj (K : W.Frag) (ans : List (Str × Bool)) (T : Addr) : Prop := ∀ N b, ans.lookup N = some b -> ∀ C, W.nsIn K mainGlobals N = some (some (.ref C)) -> IsC K C /\ W.kitOne K (.ref C) (.ref T) = some b
noncomputable def IU (K : W.Frag) (ans : List (Str × Bool)) (T : Addr) : List V -> Hp -> VK -> Prop := fun xs H Q => ∃ a C dx fs N b, xs = [.ref a, .ref T] /\ W.nsIn K mainGlobals N = some (some (.ref C)) /\ H a = some (.ins C dx fs) /\ ans.lookup N = some b /\ Q (.bl b) H
noncomputable def GM (K : W.Frag) (ans : List (Str × Bool)) (N : Str) (ta : TE) : TE := fun σ H Q => ∀ T, W.nsIn K mainGlobals N = some (some (.ref T)) -> tCB (IU K ans T) (gW ta (gW (tC (.ref T)) rX)) σ H Q
section
variable {X : Cx} {e : Expr} {pos p p' : Pos} {ta : TE} {T : Addr} {N : Str} {ans : List (Str × Bool)}
theorem Eo (hc : oj X.K ans T) : CallR X (.builtin "isinstance") (IU X.K ans T) := by
 intro pins s σ H xs us Q I r h
 obtain ⟨a, C, dx, fs, M, b, rfl, hC, ea, hb, q⟩ := h
 obtain ⟨u, v, rfl, r1, r2⟩ := Vals.two r
 obtain ⟨c, e⟩ := hc M b hb C hC
 have ev : v = Value.ref T := r2
 subst ev
 exact k6 I r1 (.ins ea c.cl c.ha c.hn c.htk c.hm) e fun tk => ⟨.bl b, H, I.tok _, rfl, q⟩
theorem IA (hN : W.nsIn X.K mainGlobals N = some (some (.ref T))) (hc : oj X.K ans T) (hg : Gl X "isinstance") (hm : X.mg "isinstance" = none) (gT : Gl X N) (mT : X.mg N = some (.ref T)) (he : PE X e ta) (hdb : (N == ("__debug__" : Str)) = false := by decide)
  (h1 : starEach [e, .Name N p'] X.env = (false, eval e X.env) :: starEach [.Name N p'] X.env := by rfl) (h2 : starEach [.Name N p'] X.env = (false, eval (.Name N p') X.env) :: starEach [] X.env := by rfl) (hpl : (backTo pos (starEach [.Name N p'] X.env)).any (·.1) = false := by rfl) :
  PE X (.Call (.Name "isinstance" p) [e, .Name N p'] [] pos) (GM X.K ans N ta) := fun a b c d q I h =>
 bI (Eo hc) hg hm fA (ab he (ab (zt (v := .ref T) gT mT rfl hdb) af h2) h1) (by decide) (by decide) h1 hpl a b c d q I (h T hN)
theorem rh (h : ∃ T : Addr, W.nsIn X.K mainGlobals N = some (some (.ref T)) /\ X.mg N = some (.ref T) /\ oj X.K ans T) (hg : Gl X "isinstance") (hm : X.mg "isinstance" = none) (gT : Gl X N) (he : PE X e ta) (hdb : (N == ("__debug__" : Str)) = false := by decide)
  (h1 : starEach [e, .Name N p'] X.env = (false, eval e X.env) :: starEach [.Name N p'] X.env := by rfl) (h2 : starEach [.Name N p'] X.env = (false, eval (.Name N p') X.env) :: starEach [] X.env := by rfl) (hpl : (backTo pos (starEach [.Name N p'] X.env)).any (·.1) = false := by rfl) :
  PE X (.Call (.Name "isinstance" p) [e, .Name N p'] [] pos) (GM X.K ans N ta) := by
 obtain ⟨T, k1, k2, k3⟩ := h
 exact IA k1 k3 hg hm gT k2 he hdb h1 h2 hpl
theorem rC {K : W.Frag} : oj K [] T := fun N b h => by cases h
theorem bH {K : W.Frag} {b0 : Bool} (h0 : ∀ C, W.nsIn K mainGlobals N = some (some (.ref C)) -> IsC K C /\ W.kitOne K (.ref C) (.ref T) = some b0) (h : oj K ans T) : oj K ((N, b0) :: ans) T := fun M b hl C hC => by
 rw [List.lookup] at hl
 split at hl
 ·rename_i hb
  have e : M = N := by simpa using hb
  subst e
  cases hl
  exact h0 C hC
 ·exact h M b hl C hC
end
end L2
namespace M
open PySem L2
section
variable {K : W.Frag} {S S' H H' : Hp}
@[simp] noncomputable def rp (ans : List (Str × Bool)) (e : XE) : XE := fun ρ => (e ρ).bind fun d => match d with | .ins N _ _ => (ans.lookup N).map .bl | _ => none
theorem vz {ans : List (Str × Bool)} {N : Str} {ta : TE} {e : XE} (h : SE K ta e) : SE K (GM K ans N ta) (rp ans e) := fun ρ σ S H Q d r x k => by
 unfold rp at x
 intro T hT
 cases q : e ρ with
 | none => rw [q] at x; cases x
 | some d0 =>
  rw [q] at x
  dsimp only [Option.bind] at x
  cases d0 <;> try (cases x; done)
  rename_i M ns l
  dsimp only at x
  cases ql : ans.lookup M with
  | none => rw [ql] at x; cases x
  | some b =>
   rw [ql] at x
   cases x
   refine h ρ σ S H _ _ r q fun v S1 H1 z1 d1 => ?_
   obtain ⟨p, C, dx, fs, rfl, hC, h1, h2, h3⟩ := den_ins.mp d1
   exact ⟨p, C, dx, fs, M, b, rfl, hC, z1.sub _ _ h1, ql, k _ S1 H1 z1 (den_bl.mpr rfl)⟩
end
end M
namespace L2
open PySem PySem.Spec PyProof.Rows Builtin Builtin.ObjectAttr Builtin.Getset_descriptor
structure XCls (K : W.Frag) (C : Addr) : Prop where
 cl : W.hasDictIn K C = true
 ga : W.findIn K (.ref C) "__getattribute__" = some (some (.builtin "BaseException.__getattribute__"))
 gx : W.findIn K (.ref C) "__getattr__" = some none
 ca : W.findIn K (.ref C) "__class__" = some (some (.builtin "object.__class__"))
 hn : W.specialIn K (.builtin "object.__class__") "__get__" = some (some (.builtin "getset_descriptor.__get__"))
 tk : W.takesIn K (.builtin "object.__class__") = some true
 ob : W.mroIn K C (.type "object") = some true
 be : W.mroIn K C (.type "BaseException") = some true
section
variable {prog : Program} {w : World} {A : Around} {E : Value -> Shared -> Prop} {s : Shared} {K : W.Frag} {C a : Addr}
end
end L2
namespace L2
open PySem PySem.Spec PyProof.Rows
section
variable {H H' : Hp} {B h0 h h' : Heap} {fs : List Addr}
end
section
variable {X : Cx} {pins : List (Addr × Obj)} {σ : St} {H : Hp} {s : Shared} {E : XK} {B : Heap} {e : Addr} {cls a0 : Value}
end
section
variable {P : Program} {w : World} {K : W.Frag} {mg : Str -> Option Value} {base : Heap} {N : List Str} {qual : Str} {scope : Scope} {f : Addr} {cdv : Value} {A : Around} {outer : List Env} {s : Shared} {H : Hp} {E : XK}
end
section
variable {X : Cx} {E : XK} {x : Str} {e : Expr} {te : TE} {np cpos pos : Pos}
end
section
variable {X : Cx} {pins : List (Addr × Obj)} {σ : St} {H H' : Hp} {s s' : Shared} {e : Addr}
end
section
variable {X : Cx} {body suite : List Stmt} {b0 : Stmt} {x n : Str} {i : Nat} {L : List Str} {tb : XK -> TS} {ts : TS} {np hp pos : Pos}
end
section
variable {X : Cx} {e : Expr} {pos p p' : Pos} {i : Nat} {N : Str} {ans : List (Str × Bool)} {vv : V} {u : Value}
end
end L2
namespace M
open PySem L2
section
variable {K : W.Frag} {S S' H H' : Hp}
inductive RO where
 | rz (N : Str) | nx (ρ : Env)
noncomputable abbrev XR := Env -> Option RO
variable {E : XK}
@[simp] noncomputable def LO : XR := fun ρ => some (.nx ρ)
@[simp] noncomputable def LB (N : Str) : XR := fun _ => some (.rz N)
@[simp] noncomputable def Ng (c : XT) (m n : XR) : XR := fun ρ => (c ρ).bind fun b => if b = true then m ρ else n ρ
@[simp] noncomputable def ME (m n : XR) : XR := fun ρ => (m ρ).bind fun o => match o with | .nx ρ' => n ρ' | .rz N => some (.rz N)
@[simp] noncomputable def Mi (m : XR) : XR := fun ρ => (m ρ).bind fun o => match o with | .nx _ => none | .rz N => some (.rz N)
@[simp] noncomputable def xrE (m : Env -> Option Str) : XR := fun ρ => (m ρ).map .rz
@[simp] noncomputable def LX (m : List D -> Option Str) (a : XA) : Env -> Option Str := fun ρ => (a ρ).bind m
noncomputable def IR (N : Str) : List (List (Str × Bool)) -> Option (List Bool)
 | [] => some []
 | a :: l => (a.lookup N).bind fun b => (IR N l).map fun bs => b :: bs
noncomputable def IL (i : Nat) (N : Str) : List (Nat × List (List (Str × Bool))) -> Env -> Option Env
 | [], ρ => some ρ
 | p :: l, ρ => if p.1 = i then none else (IR N p.2).bind fun bs => if bs.length <= 1000 then IL i N l (ρ.set p.1 (.sh (.lst (bs.map .bl)))) else none
@[simp] noncomputable def Nk (L : List Str) (i : Nat) (m : XR) (l : List (Nat × List (List (Str × Bool)))) : XS := fun ρ => if i < ρ.length then (m ρ).bind fun o => match o with
 | .rz N => if L.contains N then (IL i N l (ρ.map fun _ => .un)).map fun ρ' => .nx (ρ'.set i .un) else none
 | .nx ρ' => some (.nx ρ') else none
end
end M
namespace L2
open PySem PySem.Spec PyProof.Rows
section
variable {X : Cx} {tg : Expr}
end
end L2
namespace M
open PySem L2
section
variable {K : W.Frag} {S S' H H' : Hp}
noncomputable def My : List D -> Option (List D)
 | [.int i, .int j] => some (dH i (j - i).toNat)
 | _ => none
@[simp] noncomputable def MV (a : XA) : XA := fun ρ => (a ρ).bind My
end
end M
namespace L2
open PySem PySem.Spec PyProof.Rows
section
variable {X : Cx} {tg : Expr}
end
end L2
namespace M
open PySem L2
section
variable {K : W.Frag} {S S' H H' : Hp}
noncomputable def JJ (x : Str) : List D := x.cps.toList.map fun c => D.str ⟨#[c]⟩
noncomputable def sgD : D -> Option (List D)
 | .str x => some (JJ x)
 | _ => none
@[simp] noncomputable def Nw (e : XE) : XA := fun ρ => (e ρ).bind sgD
noncomputable def L0 (d : D) (lo hi : Option Int) : Option D := match d with
 | .str x => if x.length <= LIM then some (.str (Txt.slice x lo hi)) else none
 | _ => none
@[simp] noncomputable def Np (a : XE) (lo hi : XO) : XE := fun ρ => (a ρ).bind fun d => (lo ρ).bind fun l => (hi ρ).bind fun h => L0 d l h
end
end M
namespace L2
open PySem
end L2
namespace L2
open PySem PySem.Spec PyProof.Rows
section
variable {X : Cx}
inductive PJ (X : Cx) : List Expr -> List TE -> Prop
 | nil : PJ X [] []
 | cons {e : Expr} {t : TE} {es : List Expr} {ts : List TE} : PE X e t -> PJ X es ts -> PJ X (e :: es) (t :: ts)
end
end L2
namespace M
open PySem L2
section
variable {K : W.Frag} {S S' H H' : Hp}
noncomputable def fvD : D -> Option D
 | .int i => if i.natAbs.log2 < 1920 then some (.str (toString i)) else none
 | .str y => if y.length <= LIM then some (.str y) else none
 | _ => none
@[simp] noncomputable def xFv (e : XE) : XE := fun ρ => (e ρ).bind fvD
inductive SJ (K : W.Frag) : List TE -> List XE -> Prop
 | nil : SJ K [] []
 | cons {t : TE} {a : XE} {ts : List TE} {as : List XE} : SPk K t a -> SJ K ts as -> SJ K (t :: ts) (a :: as)
end
end M
namespace L2
open PySem PySem.Spec PyProof.Rows
section
variable {M : Model} {A : Around} {Ex : Value -> Shared -> Prop} {s : Shared}
end
section
variable {P : Program} {w : World} {K : W.Frag} {mg : Str -> Option Value} {base : Heap} {N : List Str} {qual : Str} {scope : Scope} {f : Addr} {cdv : Value} {A : Around} {outer : List Env} {s : Shared} {H : Hp} {E : XK}
end
section
variable {X : Cx} {pins : List (Addr × Obj)} {σ : St} {H : Hp} {s : Shared} {XN N : List Str} {sc scope : Scope} {js : List (Option Nat)}
variable {tg iter elt : Expr} {ifs : List Expr} {pos : Pos} {wi : TI} {g : TG} {tt : TIf} {te : TE} {E : XK}
end
section
variable {X : Cx}
end
end L2
namespace M
open PySem L2
section
variable {K : W.Frag} {S S' H H' : Hp} {E : XK}
@[simp] noncomputable def Nf (m : XS) : XR := fun ρ => match m ρ with | some (.nx ρ') => some (.nx ρ') | _ => none
@[simp] noncomputable def Nz (n : Env -> Option Str) (m : XS) : XR := fun ρ => match n ρ with | some N => some (.rz N) | none => (match m ρ with | some (.nx ρ') => some (.nx ρ') | _ => none)
@[simp] noncomputable def LY (m : Env -> Option Str) : Env -> Option Str := m
@[simp] noncomputable def Ms (e : XE) (m : Env -> Option Str) : Env -> Option Str := fun ρ => (e ρ).bind fun _ => m ρ
@[simp] noncomputable def Nh (n : Env -> Option Str) (e : XE) (m : Env -> Option Str) : Env -> Option Str := fun ρ => match n ρ with | some N => some N | none => (e ρ).bind fun _ => m ρ
@[simp] noncomputable def MO (i : Nat) (m : Env -> Option Str) : Env -> Option Str := fun ρ => match ρ[i]? with | some (.ow (.lst _)) => m ρ | _ => none
noncomputable def Hk (g : XG) (c : XT) (e : XE) (n : Env -> Option Str) (ρ0 : Env) : List D -> Option Str
 | [] => none
 | d :: l => (g d ρ0).bind fun ρ1 => (c ρ1).bind fun b => if b = true then (match n ρ1 with | some N => some N | none => (e ρ1).bind fun _ => Hk g c e n ρ0 l) else Hk g c e n ρ0 l
@[simp] noncomputable def LN (js : List (Option Nat)) (w : XA) (g : XG) (c : XT) (e : XE) (n : Env -> Option Str) : Env -> Option Str := fun ρ => (w ρ).bind fun l => if l.length <= LIM then Hk g c e n (zJ js ρ) l else none
noncomputable def IY (g : XG) (m : XR) : List D -> Env -> Option RO
 | [], ρ => some (.nx ρ)
 | d :: l, ρ => (g d ρ).bind fun ρ1 => (m ρ1).bind fun o => match o with | .nx ρ2 => IY g m l ρ2 | .rz N => some (.rz N)
@[simp] noncomputable def MK (e : XA) (g : XG) (m : XR) : XR := fun ρ => (e ρ).bind fun l => IY g m l ρ
end
end M
namespace Rw
noncomputable abbrev R := List (Int × Int)
def Mem (r : R) (x : Int) : Prop := ∃ p ∈ r, p.1 <= x /\ x <= p.2
def Ok (r : R) : Prop := ∀ p ∈ r, p.1 <= p.2
def gy (r : R) : Prop := Ok r /\ r.Pairwise fun p q => p.2 + 2 <= q.1
theorem fM (x : Int) : ¬ Mem [] x := by rintro ⟨p, h, _⟩; cases h
theorem mem_cons (p : Int × Int) (r : R) (x : Int) : Mem (p :: r) x ↔ (p.1 <= x /\ x <= p.2) \/ Mem r x := by
 constructor
 ·rintro ⟨q, h, e⟩
  rcases NQ.mp h with rfl | h
  ·exact .inl e
  ·exact .inr ⟨q, h, e⟩
 ·rintro (e | ⟨q, h, e⟩)
  ·exact ⟨p, NL, e⟩
  ·exact ⟨q, NN _ h, e⟩
theorem mem_append (r t : R) (x : Int) : Mem (r ++ t) x ↔ Mem r x \/ Mem t x := by
 constructor
 ·rintro ⟨q, h, e⟩
  rcases NM.mp h with h | h
  ·exact .inl ⟨q, h, e⟩
  ·exact .inr ⟨q, h, e⟩
 ·rintro (⟨q, h, e⟩ | ⟨q, h, e⟩)
  ·exact ⟨q, NR _ h, e⟩
  ·exact ⟨q, NP _ h, e⟩
theorem G5 {r t : R} (h : r.Perm t) (x : Int) : Mem r x ↔ Mem t x :=
 ⟨fun ⟨q, m, e⟩ => ⟨q, h.mem_iff.mp m, e⟩, fun ⟨q, m, e⟩ => ⟨q, h.mem_iff.mpr m, e⟩⟩
theorem mem_filter (r : R) (x : Int) : Mem (r.filter fun p => decide (p.1 <= p.2)) x ↔ Mem r x := by
 constructor
 ·rintro ⟨q, m, e⟩
  exact ⟨q, (Ou.mp m).1, e⟩
 ·rintro ⟨q, m, e⟩
  exact ⟨q, Ou.mpr ⟨m, by simp; lia⟩, e⟩
theorem tj : gy [] := ⟨fun _ h => (by cases h), .nil⟩
theorem canon_cons {p : Int × Int} {r : R} : gy (p :: r) ↔ p.1 <= p.2 /\ (∀ q ∈ r, p.2 + 2 <= q.1) /\ gy r := by
 constructor
 ·rintro ⟨h1, h2⟩
  have h3 := List.pairwise_cons.mp h2
  exact ⟨h1 p NL, h3.1, fun q hq => h1 q (NN _ hq), h3.2⟩
 ·rintro ⟨h1, h2, h3, h4⟩
  refine ⟨fun q hq => ?_, List.pairwise_cons.mpr ⟨h2, h4⟩⟩
  rcases NQ.mp hq with rfl | hq
  ·exact h1
  ·exact h3 q hq
theorem iR {p : Int × Int} {r : R} (c : gy (p :: r)) {x : Int} (h : Mem r x) : p.2 + 2 <= x := by
 obtain ⟨q, m, e, _⟩ := h
 have := (canon_cons.mp c).2.1 q m
 lia
theorem ye {p : Int × Int} {r : R} (c : gy (p :: r)) {x : Int} (h : Mem (p :: r) x) : p.1 <= x := by
 rcases (mem_cons p r x).mp h with h | h
 ·exact h.1
 ·have := iR c h
  have := (canon_cons.mp c).1
  lia
theorem yT : ∀ {r t : R}, gy r -> gy t -> (∀ x, Mem r x ↔ Mem t x) -> r = t
 | [], [], _, _, _ => rfl
 | [], q :: t, _, ct, h => by
  have := (h q.1).mpr ((mem_cons ..).mpr (.inl ⟨Int.le_refl _, (canon_cons.mp ct).1⟩))
  exact (fM _ this).elim
 | p :: r, [], cr, _, h => by
  have := (h p.1).mp ((mem_cons ..).mpr (.inl ⟨Int.le_refl _, (canon_cons.mp cr).1⟩))
  exact (fM _ this).elim
 | p :: r, q :: t, cr, ct, h => by
  have hp := (canon_cons.mp cr).1
  have hq := (canon_cons.mp ct).1
  have a1 : q.1 <= p.1 := ye ct ((h p.1).mp ((mem_cons ..).mpr (.inl ⟨Int.le_refl _, hp⟩)))
  have a2 : p.1 <= q.1 := ye cr ((h q.1).mpr ((mem_cons ..).mpr (.inl ⟨Int.le_refl _, hq⟩)))
  have e1 : p.1 = q.1 := by lia
  have n1 : ¬ Mem (p :: r) (p.2 + 1) := fun m => by
   rcases (mem_cons ..).mp m with m | m
   ·lia
   ·have := iR cr m; lia
  have n2 : ¬ Mem (q :: t) (q.2 + 1) := fun m => by
   rcases (mem_cons ..).mp m with m | m
   ·lia
   ·have := iR ct m; lia
  have e2 : p.2 = q.2 := by
   by_cases l1 : p.2 < q.2
   ·exact (n1 ((h _).mpr ((mem_cons ..).mpr (.inl ⟨by lia, by lia⟩)))).elim
   ·by_cases l2 : q.2 < p.2
    ·exact (n2 ((h _).mp ((mem_cons ..).mpr (.inl ⟨by lia, by lia⟩)))).elim
    ·lia
  have e : p = q := by
   obtain ⟨a, b⟩ := p
   obtain ⟨c, d⟩ := q
   simp only at e1 e2
   rw [e1, e2]
  subst e
  have ih : r = t := yT (canon_cons.mp cr).2.2 (canon_cons.mp ct).2.2 fun x => by
   constructor
   ·intro m
    rcases (mem_cons ..).mp ((h x).mp ((mem_cons ..).mpr (.inr m))) with k | k
    ·have := iR cr m; lia
    ·exact k
   ·intro m
    rcases (mem_cons ..).mp ((h x).mpr ((mem_cons ..).mpr (.inr m))) with k | k
    ·have := iR ct m; lia
    ·exact k
  rw [ih]
noncomputable def step (acc : R) (p : Int × Int) : R :=
 match acc.getLast? with
 | none => [p]
 | some q => if p.1 <= q.2 + 1 then acc.dropLast ++ [(q.1, if p.2 > q.2 then p.2 else q.2)] else acc ++ [p]
noncomputable def oP (l : R) : R := l.foldl step []
theorem wP (p : Int × Int) : step [] p = [p] := rfl
theorem jz (t : R) (q p : Int × Int) : step (t ++ [q]) p = if p.1 <= q.2 + 1 then t ++ [(q.1, if p.2 > q.2 then p.2 else q.2)] else t ++ [q] ++ [p] := by
 unfold step
 simp
theorem canon_snoc {t : R} {q : Int × Int} : gy (t ++ [q]) ↔ gy t /\ q.1 <= q.2 /\ ∀ p ∈ t, p.2 + 2 <= q.1 := by
 constructor
 ·rintro ⟨h1, h2⟩
  have h3 := N7.mp h2
  exact ⟨⟨fun p hp => h1 p (NR _ hp), h3.1⟩, h1 q (NP _ NL), fun p hp => h3.2.2 p hp q NL⟩
 ·rintro ⟨⟨h1, h2⟩, h3, h4⟩
  refine ⟨fun p hp => ?_, N7.mpr ⟨h2, .cons (fun _ h => (by cases h)) .nil, fun p hp x hx => ?_⟩⟩
  ·rcases NM.mp hp with hp | hp
   ·exact h1 p hp
   ·rw [NI.mp hp]; exact h3
  ·rw [NI.mp hx]; exact h4 p hp
theorem Dj {acc : R} {p : Int × Int} (c : gy acc) (hp : p.1 <= p.2) (lo : ∀ q ∈ acc, q.1 <= p.1) :
  gy (step acc p) /\ (∀ x, Mem (step acc p) x ↔ Mem acc x \/ (p.1 <= x /\ x <= p.2)) /\ (∀ q ∈ step acc p, q.1 <= p.1) := by
 rcases List.eq_nil_or_concat acc with rfl | ⟨t, q, rfl⟩
 ·rw [wP]
  refine ⟨canon_cons.mpr ⟨hp, fun _ h => (by cases h), tj⟩, fun x => ?_, fun q hq => ?_⟩
  ·rw [mem_cons]
   constructor
   ·rintro (h | h)
    ·exact .inr h
    ·exact .inl h
   ·rintro (h | h)
    ·exact .inr h
    ·exact .inl h
  ·rw [NI.mp hq]; exact Int.le_refl _
 ·rw [List.concat_eq_append] at *
  obtain ⟨ct, hq, ht⟩ := canon_snoc.mp c
  have lq : q.1 <= p.1 := lo q (NP _ NL)
  rw [jz]
  by_cases h : p.1 <= q.2 + 1
  ·rw [NF h]
   have m : ∀ z, (if p.2 > q.2 then p.2 else q.2) = z -> q.2 <= z /\ p.2 <= z /\ (z = p.2 \/ z = q.2) := fun z e => by
    split at e <;> lia
   obtain ⟨m1, m2, m3⟩ := m _ rfl
   generalize (if p.2 > q.2 then p.2 else q.2) = z at *
   refine ⟨canon_snoc.mpr ⟨ct, by dsimp only; lia, ht⟩, fun x => ?_, fun s hs => ?_⟩
   ·rw [mem_append, mem_append, mem_cons, mem_cons]
    dsimp only
    constructor
    ·rintro (k | k | k)
     ·exact .inl (.inl k)
     ·by_cases hx : x <= q.2
      ·exact .inl (.inr (.inl ⟨k.1, hx⟩))
      ·right; lia
     ·exact (fM _ k).elim
    ·rintro ((k | k | k) | k)
     ·exact .inl k
     ·right; left; lia
     ·exact (fM _ k).elim
     ·right; left; lia
   ·rcases NM.mp hs with hs | hs
    ·exact lo s (NR _ hs)
    ·rw [NI.mp hs]; exact lq
  ·rw [NG h]
   refine ⟨canon_snoc.mpr ⟨c, hp, fun s hs => ?_⟩, fun x => ?_, fun s hs => ?_⟩
   ·rcases NM.mp hs with hs | hs
    ·have := ht s hs; lia
    ·rw [NI.mp hs]; lia
   ·rw [mem_append, mem_cons]
    constructor
    ·rintro (k | k | k)
     ·exact .inl k
     ·exact .inr k
     ·exact (fM _ k).elim
    ·rintro (k | k)
     ·exact .inl k
     ·exact .inr (.inl k)
   ·rcases NM.mp hs with hs | hs
    ·exact lo s hs
    ·rw [NI.mp hs]; exact Int.le_refl _
theorem Dw : ∀ (l : R) (acc : R), gy acc -> Ok l -> l.Pairwise (fun p q => p.1 <= q.1) -> (∀ q ∈ acc, ∀ p ∈ l, q.1 <= p.1) ->
  gy (l.foldl step acc) /\ ∀ x, Mem (l.foldl step acc) x ↔ Mem acc x \/ Mem l x
 | [], acc, c, _, _, _ => ⟨c, fun x => ⟨fun h => .inl h, fun h => h.elim id fun k => (fM _ k).elim⟩⟩
 | p :: l, acc, c, o, w, lo => by
  obtain ⟨w1, w2⟩ := List.pairwise_cons.mp w
  obtain ⟨c1, m1, l1⟩ := Dj c (o p NL) fun q hq => lo q hq p NL
  obtain ⟨c2, m2⟩ := Dw l (step acc p) c1 (fun q hq => o q (NN _ hq)) w2 fun q hq s hs => by
   have := l1 q hq
   have := w1 s hs
   lia
  refine ⟨c2, fun x => ?_⟩
  show Mem (l.foldl step (step acc p)) x ↔ _
  rw [m2, m1, mem_cons, or_assoc]
def IsRow (ps r : R) : Prop := gy r /\ ∀ x, Mem r x ↔ Mem ps x
theorem Gh {l ps : R} (o : Ok l) (w : l.Pairwise fun p q => p.1 <= q.1) (h : ∀ x, Mem l x ↔ Mem ps x) : IsRow ps (oP l) := by
 obtain ⟨c, m⟩ := Dw l [] tj o w fun _ h => (by cases h)
 exact ⟨c, fun x => by
  show Mem (l.foldl step []) x ↔ _
  rw [m x, <- h x]
  exact ⟨fun k => k.elim (fun z => (fM _ z).elim) id, .inr⟩⟩
theorem IsRow.eq {ps qs r t : R} (h : IsRow ps r) (k : IsRow qs t) (e : ∀ x, Mem ps x ↔ Mem qs x) : r = t :=
 yT h.1 k.1 fun x => (h.2 x).trans ((e x).trans (k.2 x).symm)
theorem IsRow.self {r t : R} (c : gy r) (k : IsRow r t) : t = r := yT k.1 c k.2
noncomputable def wD (r : R) (lo hi : Int) : R := r.map fun p => (p.1 + lo, p.2 + hi)
theorem DQ (r : R) (lo hi x : Int) : Mem (wD r lo hi) x ↔ ∃ p ∈ r, p.1 + lo <= x /\ x <= p.2 + hi := by
 constructor
 ·rintro ⟨q, m, e⟩
  obtain ⟨p, hp, rfl⟩ := NY.mp m
  exact ⟨p, hp, e⟩
 ·rintro ⟨p, hp, e⟩
  exact ⟨_, NY.mpr ⟨p, hp, rfl⟩, e⟩
end Rw
namespace Rw
noncomputable def JK : List Int -> R
 | a :: b :: t => (a, b - 1) :: JK t
 | _ => []
noncomputable def fy (P : Int -> Prop) (L : Int) : Nat -> Int
 | 0 => 0
 | n + 1 => fy P L n + (by classical exact if P (L + n) then 1 else 0)
end Rw
namespace P
open PySem L2 M
noncomputable abbrev NS : List Str := ["Box", "Cross", "Shape", "Sum"]
noncomputable abbrev zU : List (Str × Bool) := [("Box", true), ("Cross", false), ("Shape", false), ("Sum", false)]
noncomputable abbrev qP : List (Str × Bool) := [("Box", false), ("Cross", true), ("Shape", false), ("Sum", false)]
noncomputable abbrev u9 : List (Str × Bool) := [("Box", true), ("Cross", true), ("Shape", true), ("Sum", true)]
noncomputable abbrev qF : List (Str × Bool) := [("Box", false), ("Cross", false), ("Shape", true), ("Sum", false)]
noncomputable abbrev zr : List (Str × Bool) := [("Box", false), ("Cross", false), ("Shape", false), ("Sum", true)]
noncomputable def l9 : XS := bB (xIf (xB (xOp dLt (am 1) (xCB sF (ad (am 0) ao)))) (fx (xOp dIx (am 0) (am 1))) kv) (fx (xC (.int 0)))
noncomputable def kM : List D -> Option O := fnO 2 l9
noncomputable def bq : List D -> Option D := fun ds => (kM ds).map O.d
noncomputable def wO : XS := bB (dt (xL (nh (ad (rp zU (ap 0)) (ad (rp qP (ap 0)) (ad (rp qF (ap 0)) (ad (rp zr (ap 0)) ao)))))) (ag 2)) (fx (FE (rp u9 (ap 0)) (xOp (dEq false) (am 2) (xL (gi [none, some 1] (AL (ad (xC (.int 4)) ao)) (ag 0) gq (xOp (dEq false) (am 1) (am 0)))))))
noncomputable def tq : List D -> Option O := fnO 3 wO
noncomputable def kb : List D -> Option D := fun ds => (tq ds).map O.d
noncomputable def d9 : XS := xIf (BA (xB (xOp dGt (xFl (xCB sF (ad (rA 1) ao))) (xC (.int 0)))) (BA (xB (xOp (dEq false) (xFl (xOp dIx (xOp dIx (rA 1) (xUn gn (xC (.int 1)))) (xC (.int 0)))) (am 2))) (xB (xOp dLe (am 3) (xOp fJ (xFl (xOp dIx (xOp dIx (xOp dIx (xOp dIx (rA 1) (xUn gn (xC (.int 1)))) (xC (.int 1))) (xUn gn (xC (.int 1)))) (xC (.int 1)))) (xC (.int 1))))))) (bB (GO 1 (xPi (xPi xPv (xUn gn (xC (.int 1)))) (xC (.int 1))) 5) (o5 1 (xPi (xPi xPv (xUn gn (xC (.int 1)))) (xC (.int 1))) (xSh (cj (ad (xOp dIx (am 5) (xC (.int 0))) (ad (xCB A9 (ad (xOp dIx (am 5) (xC (.int 1))) (ad (am 4) ao))) ao)))))) (xIf (BA (xB (xOp dGt (xFl (xCB sF (ad (rA 1) ao))) (xC (.int 0)))) (xB (xOp (dEq false) (xFl (xOp dIx (xOp dIx (rA 1) (xUn gn (xC (.int 1)))) (xC (.int 0)))) (am 2)))) (o5 1 (xPi (xPi xPv (xUn gn (xC (.int 1)))) (xC (.int 1))) (xSh (cj (ad (ap 3) (ad (ap 4) ao))))) (o5 1 xPv (CN (qp (xSh (ap 2)) (qp (C1 (qp (xSh (cj (ad (ap 3) (ad (ap 4) ao)))) Af)) Af)))))
noncomputable def pI : XS := bB (t0 (nh ao) 1) (bB (oA (xIt (xL (DM kL (ad (am 0) ao)))) (b9 (au (ag 2) (au (ag 3) (au (ag 4) bV)))) (d9)) (HP 1 (fx (xCB gF (ad (xL (gi [none, none] (xIt (ap 1)) (b9 (au (ag 0) (au (ag 1) bV))) gq (cj (ad (ap 0) (ad (xCB gF (ad (am 1) ao)) ao))))) ao)))))
noncomputable def nL : List D -> Option O := fnO 6 pI
noncomputable def bG : List D -> Option D := fun ds => (nL ds).map O.d
noncomputable def mO : XS := o5 2 xPv (xSh (cj (ad (xOp fJ (am 3) (am 6)) (ad (xOp fJ (am 4) (am 7)) (ad (xOp fJ (am 5) (am 8)) ao)))))
noncomputable def nD : XS := oA (xIt (ap 1)) (b9 (au (ag 6) (au (ag 7) (au (ag 8) bV)))) (mO)
noncomputable def sV : XS := bB (t0 (nh ao) 2) (bB (oA (xIt (ap 0)) (b9 (au (ag 3) (au (ag 4) (au (ag 5) bV)))) (nD)) (C7 2))
noncomputable def qz : List D -> Option O := fnO 9 sV
noncomputable def aX : List D -> Option D := fun ds => (qz ds).map O.d
noncomputable def n4 : XS := bB (dt (xOp uY (xOp mM (xOp Hn (am 0) (xC (.int 48271))) (xC (.int 2147483647))) (xC (.int 37))) (ag 2)) (bB (dt (xOp AU (xOp mM (xOp uY (am 2) (xC (.int 5))) (xC (.int 9))) (xC (.int 4))) (ag 3)) (bB (xIf (jm (am 1)) (dt (xOp AU (xOp mM (am 0) (xOp zn (xC (.int 10)) (xC (.int 40)))) (xOp Hn (xC (.int 5)) (xOp zn (xC (.int 10)) (xC (.int 39))))) (ag 3)) kv) (fx (cj (ad (xOp AU (xOp mM (am 2) (xC (.int 5))) (xC (.int 2))) (ad (ap 3) (ad (xOp fJ (am 3) (xOp mM (xOp uY (am 2) (xC (.int 45))) (xC (.int 4)))) ao)))))))
noncomputable def l8 : List D -> Option O := fnO 4 n4
noncomputable def eI : List D -> Option D := fun ds => (l8 ds).map O.d
noncomputable def jJ : XS := bB (dt (xL (gi [none] (xIt (am 0)) (ag 0) (xB (xOp (dEq false) (xCB sF (ad (am 0) ao)) (xC (.int 1)))) (xOp dIx (am 0) (xC (.int 0))))) (ag 1)) (bB (dt (xCB gF (ad (xL (gi [none, some 1] (AL (ad (xC (.int 4)) ao)) (ag 0) gq (xCB EB (ad (xL (gi [none, some 0] (xIt (am 1)) (ag 0) gq (xOp dIx (am 0) (am 1)))) ao)))) ao)) (ag 2)) (fx (xOp fJ (cj (ad (cj (ad (ap 2) ao)) ao)) (xCB gF (ad (xL (gi [none] (xIt (am 0)) (ag 0) (xB (xOp dGt (xCB sF (ad (am 0) ao)) (xC (.int 1)))) (ap 0))) ao)))))
noncomputable def i8 : List D -> Option O := fnO 3 jJ
noncomputable def b8 : List D -> Option D := fun ds => (i8 ds).map O.d
noncomputable def mV : XS := fx (xCB gF (ad (xL (gi [none, none, some 1] (xIt (am 0)) (b9 (au (ag 0) (au (ag 1) bV))) gq (cj (ad (xOp fJ (am 0) (am 2)) (ad (xOp fJ (am 1) (am 2)) ao))))) ao))
noncomputable def lJ : List D -> Option O := fnO 2 mV
noncomputable def dX : List D -> Option D := fun ds => (lJ ds).map O.d
noncomputable def hZ : XS := xIf (BA (jm (am 1)) (xB (xOp dLe (am 2) (xOp fJ (xOp dIx (xOp dIx (am 1) (xUn gn (xC (.int 1)))) (xC (.int 1))) (xC (.int 1)))))) (Ds 1 xPv (xUn gn (xC (.int 1))) (cj (ad (xOp dIx (xOp dIx (am 1) (xUn gn (xC (.int 1)))) (xC (.int 0))) (ad (xCB A9 (ad (xOp dIx (xOp dIx (am 1) (xUn gn (xC (.int 1)))) (xC (.int 1))) (ad (am 3) ao))) ao)))) (o5 1 xPv (xSh (cj (ad (ap 2) (ad (ap 3) ao)))))
noncomputable def vT : XS := bB (t0 (nh ao) 1) (bB (oA (xIt (xL (DM kL (ad (xL (gi [none, none] (xIt (am 0)) (b9 (au (ag 0) (au (ag 1) bV))) (xB (xOp dLe (am 0) (am 1))) (cj (ad (ap 0) (ad (ap 1) ao))))) ao)))) (b9 (au (ag 2) (au (ag 3) bV))) (hZ)) (fx (xCB gF (ad (am 1) ao))))
noncomputable def tE : List D -> Option O := fnO 4 vT
noncomputable def iI : List D -> Option D := fun ds => (tE ds).map O.d
noncomputable def iy : XS := Di 1 xPv (xL (gi [none, none, some 2] (xIt (am 3)) (b9 (au (ag 0) (au (ag 1) bV))) gq (cj (ad (ap 2) (ad (ap 0) (ad (ap 1) ao))))))
noncomputable def jK : XS := bB (t0 (nh ao) 1) (bB (oA (xIt (ap 0)) (b9 (au (ag 2) (au (ag 3) bV))) (iy)) (C7 1))
noncomputable def fL : List D -> Option O := fnO 4 jK
noncomputable def aF : List D -> Option D := fun ds => (fL ds).map O.d
noncomputable def fm : List D -> Option D := zZ (xB (xOp dLt (xCB CQ (ad (am 1) (ad (am 2) (ad (am 3) (ad (am 4) ao))))) (xC (.int 0)))) (cj (ad (cj (ad (cj (ad (xUn gn (am 1)) (ad (xUn gn (am 2)) (ad (ap 3) (ad (ap 4) ao))))) ao)) ao))
noncomputable def iJ : List D -> Option D := zZ (xB (xOp dLt (am 1) (xC (.int 0)))) (cj (ad (cj (ad (cj (ad (xUn gn (am 1)) (ad (xC (.int 0)) (ad (ap 1) (ad (xC (.int 0)) ao))))) (ad (cj (ad (xC (.int 0)) (ad (xUn gn (am 1)) (ad (xC (.int 0)) (ad (ap 1) ao))))) ao))) ao))
noncomputable def dM : List D -> Option D := KK (aP b8 (ad (xOp fJ (sd NS "parts" (ap 1)) (sd NS "parts" (ap 2))) ao))
noncomputable def dm : XS := xIf (BA (jm (am 1)) (xB (xOp (dEq false) (xOp dIx (am 1) (xUn gn (xC (.int 1)))) (cj (ad (ap 2) (ad (xOp dIx (xOp dIx (am 1) (xUn gn (xC (.int 1)))) (xC (.int 1))) (ad (ap 3) (ad (xOp AU (am 4) (xC (.int 1))) ao)))))))) (Ds 1 xPv (xUn gn (xC (.int 1))) (cj (ad (ap 2) (ad (xOp dIx (xOp dIx (am 1) (xUn gn (xC (.int 1)))) (xC (.int 1))) (ad (ap 3) (ad (ap 4) ao)))))) (o5 1 xPv (xSh (cj (ad (ap 2) (ad (ap 4) (ad (ap 3) (ad (ap 4) ao)))))))
noncomputable def ny : XS := bB (t0 (nh ao) 1) (bB (oA (xIt (xL (DM kL (ad (xL (gi [none, none, none] (xIt (aP aF (ad (ap 0) ao))) (b9 (au (ag 0) (au (ag 1) (au (ag 2) bV)))) gq (cj (ad (ap 1) (ad (ap 2) (ad (ap 0) ao)))))) ao)))) (b9 (au (ag 2) (au (ag 3) (au (ag 4) bV)))) (dm)) (fx (xCB gF (ad (am 1) ao))))
noncomputable def lA : List D -> Option O := fnO 5 ny
noncomputable def eT : List D -> Option D := fun ds => (lA ds).map O.d
noncomputable def yV : XS := fx (xCB gF (ad (xL (gi [none, none, some 2, some 1] (xIt (am 0)) (b9 (au (ag 0) (au (ag 1) bV))) gq (cj (ad (xOp fJ (am 0) (am 2)) (ad (aP dX (ad (ap 1) (ad (ap 3) ao))) ao))))) ao))
noncomputable def vN : List D -> Option O := fnO 3 yV
noncomputable def lR : List D -> Option D := fun ds => (vN ds).map O.d
noncomputable def dL : XS := bB (xIf (xOr (mN (jm (rA 1))) (xB (xOp (dEq true) (xFl (xOp dIx (xOp dIx (rA 1) (xUn gn (xC (.int 1)))) (xC (.int 0)))) (am 2)))) (o5 1 xPv (CN (qp (xSh (ap 2)) (qp (C1 Af) Af)))) kv) (o5 1 (xPi (xPi xPv (xUn gn (xC (.int 1)))) (xC (.int 1))) (xSh (cj (ad (ap 3) (ad (ap 4) ao)))))
noncomputable def lu : XS := bB (t0 (nh ao) 1) (bB (oA (xIt (xL (DM kL (ad (xL (gi [none, none, none] (xIt (am 0)) (b9 (au (ag 0) (au (ag 1) (au (ag 2) bV)))) (xB (xOp dLe (am 1) (am 2))) (cj (ad (ap 0) (ad (ap 1) (ad (ap 2) ao)))))) ao)))) (b9 (au (ag 2) (au (ag 3) (au (ag 4) bV)))) (dL)) (HP 1 (fx (xCB gF (ad (xL (gi [none, none] (xIt (ap 1)) (b9 (au (ag 0) (au (ag 1) bV))) gq (cj (ad (ap 0) (ad (aP iI (ad (ap 1) ao)) ao))))) ao)))))
noncomputable def kR : List D -> Option O := fnO 5 lu
noncomputable def bf : List D -> Option D := fun ds => (kR ds).map O.d
noncomputable def gK : List D -> Option D := zZ (xB (xOp (dEq false) (am 1) (cj ao))) (cj (ad (aP eT (ad (ap 1) ao)) ao))
noncomputable def BK : XS := fx (aP bf (ad (xOp fJ (aP aF (ad (ap 0) ao)) (aP aF (ad (ap 1) ao))) ao))
noncomputable def yQ : List D -> Option O := fnO 2 BK
noncomputable def pR : List D -> Option D := fun ds => (yQ ds).map O.d
noncomputable def fK : XT := xB (xOp dLt (am 2) (am 1))
noncomputable def iU : XS := bB (dt (xCB CT (ad (xOp fJ (am 2) (xC (.int 1))) (ad (xOp AU (am 1) (am 2)) ao))) (ag 3)) (bB (dt (aP pR (ad (ap 0) (ad (aP lR (ad (ap 0) (ad (xC (.int 0)) (ad (ap 3) ao)))) ao))) (ag 0)) (Jw 2 (am 3) Hc))
noncomputable def kO : XS := bB (dt (xC (.int 0)) (ag 2)) (bB (kx (fK) (iU)) (fx (ap 0)))
noncomputable def jP : List D -> Option O := fnO 4 kO
noncomputable def cH : List D -> Option D := fun ds => (jP ds).map O.d
noncomputable def ei : XS := bB (dt (xL (gi [none, none, none, some 1] (xIt (aP aF (ad (ap 0) ao))) (b9 (au (ag 0) (au (ag 1) (au (ag 2) bV)))) gq (cj (ad (xOp fJ (am 0) (xOp dIx (am 3) (xC (.int 1)))) (ad (xOp fJ (am 1) (xOp dIx (am 3) (xC (.int 0)))) (ad (xOp fJ (am 2) (xOp dIx (am 3) (xC (.int 2)))) ao)))))) (ag 2)) (bB (xIf (xB (xOp (dEq false) (xOp dIx (am 1) (xC (.int 1))) (xOp dIx (am 1) (xC (.int 3))))) (fx (ap 2)) kv) (fx (aP aF (ad (aP cH (ad (aP bf (ad (ap 2) ao)) (ad (xOp AU (xOp dIx (am 1) (xC (.int 3))) (xOp dIx (am 1) (xC (.int 1)))) ao))) ao))))
noncomputable def du : List D -> Option O := fnO 3 ei
noncomputable def bm : List D -> Option D := fun ds => (du ds).map O.d
noncomputable def fv : XS := Di 2 xPv (aP bm (ad (ap 0) (ad (ap 3) ao)))
noncomputable def gI : XS := bB (t0 (nh ao) 2) (bB (oA (xIt (ap 1)) (ag 3) (fv)) (HP 2 (fx (aP bf (ad (ap 2) ao)))))
noncomputable def fR : List D -> Option O := fnO 4 gI
noncomputable def bO : List D -> Option D := fun ds => (fR ds).map O.d
noncomputable def fg : XS := dt (aP bO (ad (ap 1) (ad (ap 2) ao))) (ag 1)
noncomputable def gz : XS := bB (oA (xY (ad (sd NS "parts" (ap 0)) ao)) (ag 2) (fg)) (fx (ap 1))
noncomputable def md : List D -> Option O := fnO 3 gz
noncomputable def gL : List D -> Option D := fun ds => (md ds).map O.d
noncomputable def jj : XS := fx (vM NS "greater" gL (ap 0) (ad (xC (.tup [.tup [.int (0), .tup [.tup [.int (0), .int (0)]]]])) ao))
noncomputable def o4 : List D -> Option O := fnO 1 jj
noncomputable def gE : List D -> Option D := fun ds => (o4 ds).map O.d
noncomputable def lB : XS := xIf (xOr (mN (jm (xCB sN (ad (am 6) (ad (xC (.ty "tuple")) ao))))) (xOr (mN (jm (xCB sN (ad (xOp dIx (am 6) (xC (.int 1))) (ad (xC (.ty "tuple")) ao))))) (mN (jm (xCB sN (ad (xOp dIx (xOp dIx (am 6) (xC (.int 1))) (xC (.int 0))) (ad (xC (.ty "tuple")) ao))))))) (fx (xC (.bl false))) kv
noncomputable def kh : XS := bB (dt (vM NS "cells" gE (ap 0) ao) (ag 5)) (bB (xIf (xOr (mN (jm (xCB sN (ad (am 5) (ad (xC (.ty "tuple")) ao))))) (xB (xOp (dEq true) (am 5) (am 3)))) (fx (xC (.bl false))) kv) (oA (xIt (ap 5)) (ag 6) (lB)))
noncomputable def vx : XS := bB (dt (aP bG (ad (ap 2) ao)) (ag 3)) (bB (oA (xIt (xL (nh (ad (xC (.int 1)) (ad (xC (.int 2)) ao))))) (ag 4) (kh)) (fx (aP kb (ad (ap 0) (ad (ap 1) ao)))))
noncomputable def sR : List D -> Option O := fnO 7 vx
noncomputable def aN : List D -> Option D := fun ds => (sR ds).map O.d
noncomputable def Dp : XS := bB (dt (aP bq (ad (ap 0) (ad (xC (.int 0)) ao))) (ag 1)) (bB (dt (xOp mM (am 1) (xC (.int 4))) (ag 2)) (bB (xIf (xB (xOp (dEq false) (xOp mM (xOp uY (am 1) (xC (.int 3))) (xC (.int 3))) (xC (.int 1)))) (dt (xOp mM (am 1) (xOp zn (xC (.int 10)) (xC (.int 40)))) (ag 2)) kv) (bB (dt (xOp mM (xOp uY (am 1) (xC (.int 64))) (xC (.int 4))) (ag 3)) (bB (dt (xOp mM (aP bq (ad (ap 0) (ad (xC (.int 1)) ao))) (xOp dIx (xL (nh (ad (xC (.int 4)) (ad (xOp zn (xC (.int 10)) (xC (.int 40))) ao)))) (xCB Aq (ad (xOp (dEq false) (xOp mM (xOp uY (am 1) (xC (.int 3))) (xC (.int 3))) (xC (.int 1))) ao)))) (ag 4)) (bB (dt (xOp mM (xOp uY (am 1) (xC (.int 256))) (xC (.int 3))) (ag 5)) (bB (dt (xOp dIx (xL (nh (ad (xOp mM (aP bq (ad (ap 0) (ad (xC (.int 2)) ao))) (xC (.int 5))) (ad (xC (.int 30)) ao)))) (xCB Aq (ad (xOp (dEq false) (xOp mM (xOp uY (aP bq (ad (ap 0) (ad (xC (.int 2)) ao))) (xC (.int 5))) (xC (.int 5))) (xC (.int 1))) ao))) (ag 6)) (bB (dt (xL (gi [none, some 1] (xIt (xSl (am 0) (CU (xC (.int 3))) (CU (xC (.int 11))))) (ag 0) gq (aP eI (ad (ap 0) (ad (xOp (dEq false) (xOp mM (xOp uY (am 1) (xC (.int 9))) (xC (.int 2))) (xC (.int 1))) ao))))) (ag 7)) (bB (xIf (xB (xOp (dEq false) (xCB sF (ad (am 7) ao)) (xC (.int 0)))) (dt (xL (nh (ad (cj (ad (xC (.int 1)) (ad (xC (.int 2)) (ad (xC (.int 5)) ao)))) ao))) (ag 7)) kv) (bB (dt (xL (gi [none, some 4, some 2] (AL (ad (xUn gn (am 3)) (ad (xOp fJ (am 5) (xC (.int 1))) ao))) (ag 0) gq (cj (ad (ap 0) (ad (xUn gn (am 2)) (ad (ap 1) ao)))))) (ag 8)) (bB (dt (xOp fJ (xL (gi [none] (AL (ad (xUn gn (am 6)) (ad (xOp fJ (am 6) (xC (.int 1))) ao))) (ag 0) gq (cj (ad (ap 0) (ad (xC (.int 0)) (ad (xC (.int 0)) ao)))))) (xL (nh (ad (cj (ad (xC (.int 0)) (ad (xUn gn (am 6)) (ad (ap 6) ao)))) ao)))) (ag 9)) (bB (dt (dr "Box" "parts" fm (ad (ap 2) (ad (ap 3) (ad (ap 4) (ad (ap 5) ao))))) (ag 10)) (bB (dt (dr "Cross" "parts" iJ (ad (ap 6) ao)) (ag 11)) (bB (dt (dr "Shape" "parts" gK (ad (aP bG (ad (ap 7) ao)) ao)) (ag 12)) (bB (xIf (xOr (mN (jm (aP aN (ad (ap 10) (ad (xC (.int 0)) (ad (ap 8) ao)))))) (xOr (mN (jm (aP aN (ad (ap 11) (ad (xC (.int 1)) (ad (ap 9) ao)))))) (mN (jm (aP aN (ad (ap 12) (ad (xC (.int 2)) (ad (ap 7) ao)))))))) (fx (xC (.bl false))) kv) (bB (dt (dr "Sum" "parts" dM (ad (ap 10) (ad (ap 12) ao))) (ag 13)) (bB (xIf (mN (jm (aP aN (ad (ap 13) (ad (xC (.int 3)) (ad (aP aX (ad (ap 8) (ad (ap 7) ao))) ao)))))) (fx (xC (.bl false))) kv) (bB (xIf (mN (jm (aP aN (ad (dr "Sum" "parts" dM (ad (ap 12) (ad (ap 11) ao))) (ad (xC (.int 3)) (ad (aP aX (ad (ap 7) (ad (ap 9) ao))) ao)))))) (fx (xC (.bl false))) kv) (bB (dt (aP aX (ad (aP aX (ad (ap 8) (ad (ap 7) ao))) (ad (xL (nh (ad (cj (ad (xUn gn (xC (.int 1))) (ad (xC (.int 0)) (ad (xC (.int 1)) ao)))) (ad (cj (ad (xC (.int 0)) (ad (xC (.int 0)) (ad (xC (.int 1)) ao)))) ao)))) ao))) (ag 14)) (fx (aP aN (ad (dr "Sum" "parts" dM (ad (ap 13) (ad (dr "Box" "parts" fm (ad (xC (.int 0)) (ad (xC (.int 1)) (ad (xC (.int 1)) (ad (xC (.int 0)) ao))))) ao))) (ad (xC (.int 3)) (ad (ap 14) ao)))))))))))))))))))))))
noncomputable def Ge : List D -> Option O := fnO 15 Dp
noncomputable def K1 : List D -> Option D := fun ds => (Ge ds).map O.d
noncomputable abbrev cP (K : W.Frag) : Sp := mD K NS "parts" 1 FH
noncomputable abbrev kI (K : W.Frag) : Sp := iY K 2 kM
noncomputable def tV (K : W.Frag) : { t : TS // SS K t l9 } := ⟨_, a9 (pq (di (SE.p (aH Ig (ak 1) ((jr yJ (aM (ak 0) bL)).p)))) (et (aH ez (ak 0) (ak 1))) ko) (et (s_c rfl))⟩
theorem Bu {K : W.Frag} {vs : List V} {H : Hp} {Q : VK} {E : XK} (h : kI K vs H Q E) : (tV K).1 { nx := fun _ H' => Q .non H', rt := Q } (aI ["_law_script", "_law_k"] vs) H := gj (tV K).2 rfl h
noncomputable abbrev n8 (K : W.Frag) : Sp := iY K 2 tq
noncomputable def yn (K : W.Frag) : { t : TS // SS K t wO } := ⟨_, a9 (df ((kE (ae (vz (N := "Box") (av 0)) (ae (vz (N := "Cross") (av 0)) (ae (vz (N := "Shape") (av 0)) (ae (vz (N := "Sum") (av 0)) aq))))).e) (az 2)) (et (JC ((vz (N := "Form") (av 0)).p) (aH (pA false) (ak 2) (((eZ (SI.p (GW ((s_c rfl).p))) (az 0) li (aH (pA false) (ak 1) (ak 0))).e).p))))⟩
theorem EW {K : W.Frag} {vs : List V} {H : Hp} {Q : VK} {E : XK} (h : n8 K vs H Q E) : (yn K).1 { nx := fun _ H' => Q .non H', rt := Q } (aI ["_law_form", "_law_due", "_law_found"] vs) H := gj (yn K).2 rfl h
noncomputable abbrev iM (K : W.Frag) : Sp := iY K 1 nL
noncomputable def tQ (K : W.Frag) : { t : TS // SS K t pI } := ⟨_, a9 (pz (kE aq)) (a9 (nt (o7 ((Dy rH (aM (ak 0) bL)).e)) (je (a7 (az 2) (a7 (az 3) (a7 (az 4) jh))) (aK (aK (aK fw)))) (pq (As (di (SE.p (aH J8 ((SQ.fl (IV yJ (Dh (pQ 1) Gc))).p) ((s_c rfl).p)))) (As (di (SE.p (aH (pA false) ((SQ.fl (oW ez (oW ez (pQ 1) (((iT d6 ((s_c rfl).p)).p).q)) (((s_c rfl).p).q))).p) (ak 2)))) (di (SE.p (aH HL (ak 3) ((aH gN ((SQ.fl (oW ez (oW ez (oW ez (oW ez (pQ 1) (((iT d6 ((s_c rfl).p)).p).q)) (((s_c rfl).p).q)) (((iT d6 ((s_c rfl).p)).p).q)) (((s_c rfl).p).q))).p) ((s_c rfl).p)).p)))))) (a9 (J6 (z7 (z7 (kZ 1) ((iT d6 ((s_c rfl).p)).p)) ((s_c rfl).p))) (m9 (z7 (z7 (kZ 1) ((iT d6 ((s_c rfl).p)).p)) ((s_c rfl).p)) ((bQ (ae (aH ez (ak 5) ((s_c rfl).p)) (ae (jr Fx (aM ((aH ez (ak 5) ((s_c rfl).p)).p) (aM (ak 4) bL))) aq))).t))) (pq (As (di (SE.p (aH J8 ((SQ.fl (IV yJ (Dh (pQ 1) Gc))).p) ((s_c rfl).p)))) (di (SE.p (aH (pA false) ((SQ.fl (oW ez (oW ez (pQ 1) (((iT d6 ((s_c rfl).p)).p).q)) (((s_c rfl).p).q))).p) (ak 2))))) (m9 (z7 (z7 (kZ 1) ((iT d6 ((s_c rfl).p)).p)) ((s_c rfl).p)) ((bQ (ae (av 3) (ae (av 4) aq))).t)) (m9 (kZ 1) (Fn (qM ((av 2).t) (qM (GQ (qM ((bQ (ae (av 3) (ae (av 4) aq))).t) za)) za))))))) (Fd 1 (et (jr jt (aM (((eZ (hX ((av 1).p)) (je (a7 (az 0) (a7 (az 1) jh)) (aK (aK fw))) li (bQ (ae (av 0) (ae (jr jt (aM (ak 1) bL)) aq)))).e).p) bL)))))⟩
theorem zW {K : W.Frag} {vs : List V} {H : Hp} {Q : VK} {E : XK} (h : iM K vs H Q E) : (tQ K).1 { nx := fun _ H' => Q .non H', rt := Q } (aI ["_law_triples", "_law_rows", "_law_y", "_law_low", "_law_high", "_law_last"] vs) H := gj (tQ K).2 rfl h
noncomputable abbrev lO (K : W.Frag) : Sp := iY K 2 qz
noncomputable def vF (K : W.Frag) : { t : TS // SS K t sV } := ⟨_, a9 (pz (kE aq)) (a9 (nt (o7 (av 0)) (je (a7 (az 3) (a7 (az 4) (a7 (az 5) jh))) (aK (aK (aK fw)))) (nt (o7 (av 1)) (je (a7 (az 6) (a7 (az 7) (a7 (az 8) jh))) (aK (aK (aK fw)))) (m9 (kZ 2) ((bQ (ae (aH gN (ak 3) (ak 6)) (ae (aH gN (ak 4) (ak 7)) (ae (aH gN (ak 5) (ak 8)) aq)))).t)))) (Ff 2))⟩
theorem BU {K : W.Frag} {vs : List V} {H : Hp} {Q : VK} {E : XK} (h : lO K vs H Q E) : (vF K).1 { nx := fun _ H' => Q .non H', rt := Q } (aI ["_law_ones", "_law_others", "_law_sums", "_law_y", "_law_low", "_law_high", "_law_dy", "_law_start", "_law_end"] vs) H := gj (vF K).2 rfl h
noncomputable abbrev lW (K : W.Frag) : Sp := iY K 2 l8
noncomputable def wK (K : W.Frag) : { t : TS // SS K t n4 } := ⟨_, a9 (df (aH qI ((aH jD ((aH Ja (ak 0) ((s_c rfl).p)).p) ((s_c rfl).p)).p) ((s_c rfl).p)) (az 2)) (a9 (df (aH xU ((aH jD ((aH qI (ak 2) ((s_c rfl).p)).p) ((s_c rfl).p)).p) ((s_c rfl).p)) (az 3)) (a9 (pq (i6 (ak 1)) (df (aH xU ((aH jD (ak 0) ((aH DA ((s_c rfl).p) ((s_c rfl).p)).p)).p) ((aH Ja ((s_c rfl).p) ((aH DA ((s_c rfl).p) ((s_c rfl).p)).p)).p)) (az 3)) ko) (et (bQ (ae (aH xU ((aH jD (ak 2) ((s_c rfl).p)).p) ((s_c rfl).p)) (ae (av 3) (ae (aH gN (ak 3) ((aH jD ((aH qI (ak 2) ((s_c rfl).p)).p) ((s_c rfl).p)).p)) aq)))))))⟩
theorem B9 {K : W.Frag} {vs : List V} {H : Hp} {Q : VK} {E : XK} (h : lW K vs H Q E) : (wK K).1 { nx := fun _ H' => Q .non H', rt := Q } (aI ["_law_cell", "_law_far", "_law_mixed", "_law_low"] vs) H := gj (wK K).2 rfl h
noncomputable abbrev fN (K : W.Frag) : Sp := iY K 1 i8
noncomputable def ma (K : W.Frag) : { t : TS // SS K t jJ } := ⟨_, a9 (df ((eZ (hX (ak 0)) (az 0) (di (SE.p (aH (pA false) ((jr yJ (aM (ak 0) bL)).p) ((s_c rfl).p)))) (aH ez (ak 0) ((s_c rfl).p))).e) (az 1)) (a9 (df (jr jt (aM (((eZ (SI.p (GW ((s_c rfl).p))) (az 0) li (jr K0 (aM (((eZ (hX (ak 1)) (az 0) li (aH ez (ak 0) (ak 1))).e).p) bL))).e).p) bL)) (az 2)) (et (aH gN ((bQ (ae (bQ (ae (av 2) aq)) aq)).p) ((jr jt (aM (((eZ (hX (ak 0)) (az 0) (di (SE.p (aH J8 ((jr yJ (aM (ak 0) bL)).p) ((s_c rfl).p)))) (av 0)).e).p) bL)).p))))⟩
theorem uB {K : W.Frag} {vs : List V} {H : Hp} {Q : VK} {E : XK} (h : fN K vs H Q E) : (ma K).1 { nx := fun _ H' => Q .non H', rt := Q } (aI ["parts", "single", "together"] vs) H := gj (ma K).2 rfl h
noncomputable abbrev jq (K : W.Frag) : Sp := iY K 2 lJ
noncomputable def rM (K : W.Frag) : { t : TS // SS K t mV } := ⟨_, et (jr jt (aM (((eZ (hX (ak 0)) (je (a7 (az 0) (a7 (az 1) jh)) (aK (aK fw))) li (bQ (ae (aH gN (ak 0) (ak 2)) (ae (aH gN (ak 1) (ak 2)) aq)))).e).p) bL))⟩
theorem zS {K : W.Frag} {vs : List V} {H : Hp} {Q : VK} {E : XK} (h : jq K vs H Q E) : (rM K).1 { nx := fun _ H' => Q .non H', rt := Q } (aI ["row", "by"] vs) H := gj (rM K).2 rfl h
noncomputable abbrev nV (K : W.Frag) : Sp := iY K 1 tE
noncomputable def yg (K : W.Frag) : { t : TS // SS K t vT } := ⟨_, a9 (pz (kE aq)) (a9 (nt (o7 ((Dy rH (aM (((eZ (hX (ak 0)) (je (a7 (az 0) (a7 (az 1) jh)) (aK (aK fw))) (di (SE.p (aH HL (ak 0) (ak 1)))) (bQ (ae (av 0) (ae (av 1) aq)))).e).p) bL)).e)) (je (a7 (az 2) (a7 (az 3) jh)) (aK (aK fw))) (pq (As (i6 (ak 1)) (di (SE.p (aH HL (ak 2) ((aH gN ((aH ez ((aH ez (ak 1) ((iT d6 ((s_c rfl).p)).p)).p) ((s_c rfl).p)).p) ((s_c rfl).p)).p))))) (Hg (bQ (ae (aH ez ((aH ez (ak 1) ((iT d6 ((s_c rfl).p)).p)).p) ((s_c rfl).p)) (ae (jr Fx (aM ((aH ez ((aH ez (ak 1) ((iT d6 ((s_c rfl).p)).p)).p) ((s_c rfl).p)).p) (aM (ak 3) bL))) aq))) (kZ 1) ((iT d6 ((s_c rfl).p)).p)) (m9 (kZ 1) ((bQ (ae (av 2) (ae (av 3) aq))).t)))) (et (jr jt (aM (ak 1) bL))))⟩
theorem E7 {K : W.Frag} {vs : List V} {H : Hp} {Q : VK} {E : XK} (h : nV K vs H Q E) : (yg K).1 { nx := fun _ H' => Q .non H', rt := Q } (aI ["pairs", "stretches", "a", "b"] vs) H := gj (yg K).2 rfl h
noncomputable abbrev c5 (K : W.Frag) : Sp := iY K 1 fL
noncomputable def mo (K : W.Frag) : { t : TS // SS K t jK } := ⟨_, a9 (pz (kE aq)) (a9 (nt (o7 (av 0)) (je (a7 (az 2) (a7 (az 3) jh)) (aK (aK fw))) (FT (kZ 1) ((eZ (hX (ak 3)) (je (a7 (az 0) (a7 (az 1) jh)) (aK (aK fw))) li (bQ (ae (av 2) (ae (av 0) (ae (av 1) aq))))).e))) (Ff 1))⟩
theorem ud {K : W.Frag} {vs : List V} {H : Hp} {Q : VK} {E : XK} (h : c5 K vs H Q E) : (mo K).1 { nx := fun _ H' => Q .non H', rt := Q } (aI ["picture", "stretches", "y", "row"] vs) H := gj (mo K).2 rfl h
noncomputable abbrev ja (K : W.Frag) : Sp := mD K NS "parts" 4 fm
noncomputable abbrev gR (K : W.Frag) : Sp := mD K NS "parts" 1 iJ
noncomputable abbrev i7 (K : W.Frag) : Sp := mD K NS "parts" 2 dM
noncomputable abbrev jl (K : W.Frag) : Sp := iY K 1 lA
noncomputable def rJ (K : W.Frag) : { t : TS // SS K t ny } := ⟨_, a9 (pz (kE aq)) (a9 (nt (o7 ((Dy rH (aM (((eZ (hX ((bo (E := E0) (ae (av 0) aq) (ai (fun _ _ h => aG h))).p)) (je (a7 (az 0) (a7 (az 1) (a7 (az 2) jh))) (aK (aK (aK fw)))) li (bQ (ae (av 1) (ae (av 2) (ae (av 0) aq))))).e).p) bL)).e)) (je (a7 (az 2) (a7 (az 3) (a7 (az 4) jh))) (aK (aK (aK fw)))) (pq (As (i6 (ak 1)) (di (SE.p (aH (pA false) ((aH ez (ak 1) ((iT d6 ((s_c rfl).p)).p)).p) ((bQ (ae (av 2) (ae (aH ez ((aH ez (ak 1) ((iT d6 ((s_c rfl).p)).p)).p) ((s_c rfl).p)) (ae (av 3) (ae (aH xU (ak 4) ((s_c rfl).p)) aq))))).p))))) (Hg (bQ (ae (av 2) (ae (aH ez ((aH ez (ak 1) ((iT d6 ((s_c rfl).p)).p)).p) ((s_c rfl).p)) (ae (av 3) (ae (av 4) aq))))) (kZ 1) ((iT d6 ((s_c rfl).p)).p)) (m9 (kZ 1) ((bQ (ae (av 2) (ae (av 4) (ae (av 3) (ae (av 4) aq))))).t)))) (et (jr jt (aM (ak 1) bL))))⟩
theorem zG {K : W.Frag} {vs : List V} {H : Hp} {Q : VK} {E : XK} (h : jl K vs H Q E) : (rJ K).1 { nx := fun _ H' => Q .non H', rt := Q } (aI ["picture", "blocks", "a", "b", "y"] vs) H := gj (rJ K).2 rfl h
noncomputable abbrev qE (K : W.Frag) : Sp := iY K 3 vN
noncomputable def Bp (K : W.Frag) : { t : TS // SS K t yV } := ⟨_, et (jr jt (aM (((eZ (hX (ak 0)) (je (a7 (az 0) (a7 (az 1) jh)) (aK (aK fw))) li (bQ (ae (aH gN (ak 0) (ak 2)) (ae (bo (E := E0) (ae (av 1) (ae (av 3) aq)) (ai (ai (fun _ _ h => aG h)))) aq)))).e).p) bL))⟩
theorem Gv {K : W.Frag} {vs : List V} {H : Hp} {Q : VK} {E : XK} (h : qE K vs H Q E) : (Bp K).1 { nx := fun _ H' => Q .non H', rt := Q } (aI ["picture", "dx", "dy"] vs) H := gj (Bp K).2 rfl h
noncomputable abbrev eD (K : W.Frag) : Sp := iY K 1 kR
noncomputable def o8 (K : W.Frag) : { t : TS // SS K t lu } := ⟨_, a9 (pz (kE aq)) (a9 (nt (o7 ((Dy rH (aM (((eZ (hX (ak 0)) (je (a7 (az 0) (a7 (az 1) (a7 (az 2) jh))) (aK (aK (aK fw)))) (di (SE.p (aH HL (ak 1) (ak 2)))) (bQ (ae (av 0) (ae (av 1) (ae (av 2) aq))))).e).p) bL)).e)) (je (a7 (az 2) (a7 (az 3) (a7 (az 4) jh))) (aK (aK (aK fw)))) (a9 (pq (EA (o6 (JR (pQ 1))) (di (SE.p (aH (pA true) ((SQ.fl (oW ez (oW ez (pQ 1) (((iT d6 ((s_c rfl).p)).p).q)) (((s_c rfl).p).q))).p) (ak 2))))) (m9 (kZ 1) (Fn (qM ((av 2).t) (qM (GQ za) za)))) ko) (m9 (z7 (z7 (kZ 1) ((iT d6 ((s_c rfl).p)).p)) ((s_c rfl).p)) ((bQ (ae (av 3) (ae (av 4) aq))).t)))) (Fd 1 (et (jr jt (aM (((eZ (hX ((av 1).p)) (je (a7 (az 0) (a7 (az 1) jh)) (aK (aK fw))) li (bQ (ae (av 0) (ae (bo (E := E0) (ae (av 1) aq) (ai (fun _ _ h => aG h))) aq)))).e).p) bL)))))⟩
theorem xz {K : W.Frag} {vs : List V} {H : Hp} {Q : VK} {E : XK} (h : eD K vs H Q E) : (o8 K).1 { nx := fun _ H' => Q .non H', rt := Q } (aI ["stretches", "pairs_by_row", "y", "a", "b"] vs) H := gj (o8 K).2 rfl h
noncomputable abbrev gH (K : W.Frag) : Sp := mD K NS "parts" 1 gK
noncomputable abbrev vh (K : W.Frag) : Sp := iY K 2 yQ
noncomputable def Dm (K : W.Frag) : { t : TS // SS K t BK } := ⟨_, et (bo (E := E0) (ae (aH gN ((bo (E := E0) (ae (av 0) aq) (ai (fun _ _ h => aG h))).p) ((bo (E := E0) (ae (av 1) aq) (ai (fun _ _ h => aG h))).p)) aq) (ai (fun _ _ h => aG h)))⟩
theorem HA {K : W.Frag} {vs : List V} {H : Hp} {Q : VK} {E : XK} (h : vh K vs H Q E) : (Dm K).1 { nx := fun _ H' => Q .non H', rt := Q } (aI ["one", "other"] vs) H := gj (Dm K).2 rfl h
noncomputable abbrev gP (K : W.Frag) : Sp := iY K 2 jP
noncomputable def nG (K : W.Frag) : { t : TS // SS K t kO } := ⟨_, a9 (df (s_c rfl) (az 2)) (a9 (Iy (di (SE.p (aH Ig (ak 2) (ak 1)))) (a9 (df (jr Km (aM ((aH gN (ak 2) ((s_c rfl).p)).p) (aM ((aH xU (ak 1) (ak 2)).p) bL))) (az 3)) (a9 (df (bo (E := E0) (ae (av 0) (ae (bo (E := E0) (ae (av 0) (ae (s_c rfl) (ae (av 3) aq))) (ai (ai (ai (fun _ _ h => aG h))))) aq)) (ai (ai (fun _ _ h => aG h)))) (az 0)) (La (ak 3) Im)))) (et (av 0)))⟩
theorem vn {K : W.Frag} {vs : List V} {H : Hp} {Q : VK} {E : XK} (h : gP K vs H Q E) : (nG K).1 { nx := fun _ H' => Q .non H', rt := Q } (aI ["picture", "by", "done", "step"] vs) H := gj (nG K).2 rfl h
noncomputable abbrev dw (K : W.Frag) : Sp := iY K 2 du
noncomputable def jd (K : W.Frag) : { t : TS // SS K t ei } := ⟨_, a9 (df ((eZ (hX ((bo (E := E0) (ae (av 0) aq) (ai (fun _ _ h => aG h))).p)) (je (a7 (az 0) (a7 (az 1) (a7 (az 2) jh))) (aK (aK (aK fw)))) li (bQ (ae (aH gN (ak 0) ((aH ez (ak 3) ((s_c rfl).p)).p)) (ae (aH gN (ak 1) ((aH ez (ak 3) ((s_c rfl).p)).p)) (ae (aH gN (ak 2) ((aH ez (ak 3) ((s_c rfl).p)).p)) aq))))).e) (az 2)) (a9 (pq (di (SE.p (aH (pA false) ((aH ez (ak 1) ((s_c rfl).p)).p) ((aH ez (ak 1) ((s_c rfl).p)).p)))) (et (av 2)) ko) (et (bo (E := E0) (ae (bo (E := E0) (ae (bo (E := E0) (ae (av 2) aq) (ai (fun _ _ h => aG h))) (ae (aH xU ((aH ez (ak 1) ((s_c rfl).p)).p) ((aH ez (ak 1) ((s_c rfl).p)).p)) aq)) (ai (ai (fun _ _ h => aG h)))) aq) (ai (fun _ _ h => aG h)))))⟩
theorem ox {K : W.Frag} {vs : List V} {H : Hp} {Q : VK} {E : XK} (h : dw K vs H Q E) : (jd K).1 { nx := fun _ H' => Q .non H', rt := Q } (aI ["picture", "block", "wide"] vs) H := gj (jd K).2 rfl h
noncomputable abbrev eg (K : W.Frag) : Sp := iY K 2 fR
noncomputable def kg (K : W.Frag) : { t : TS // SS K t gI } := ⟨_, a9 (pz (kE aq)) (a9 (nt (o7 (av 1)) (az 3) (FT (kZ 2) (bo (E := E0) (ae (av 0) (ae (av 3) aq)) (ai (ai (fun _ _ h => aG h)))))) (Fd 2 (et (bo (E := E0) (ae (av 2) aq) (ai (fun _ _ h => aG h))))))⟩
theorem pL {K : W.Frag} {vs : List V} {H : Hp} {Q : VK} {E : XK} (h : eg K vs H Q E) : (kg K).1 { nx := fun _ H' => Q .non H', rt := Q } (aI ["picture", "blocks", "stretches", "block"] vs) H := gj (kg K).2 rfl h
noncomputable abbrev fQ (K : W.Frag) : Sp := iY K 2 md
noncomputable def mJ (K : W.Frag) : { t : TS // SS K t gz } := ⟨_, a9 (nt (KF (aM ((GK (av 0)).p) bL)) (az 2) (df (bo (E := E0) (ae (av 1) (ae (av 2) aq)) (ai (ai (fun _ _ h => aG h)))) (az 1))) (et (av 1))⟩
theorem u2 {K : W.Frag} {vs : List V} {H : Hp} {Q : VK} {E : XK} (h : fQ K vs H Q E) : (mJ K).1 { nx := fun _ H' => Q .non H', rt := Q } (aI ["self", "picture", "blocks"] vs) H := gj (mJ K).2 rfl h
noncomputable abbrev iC (K : W.Frag) : Sp := iY K 1 o4
noncomputable def o3 (K : W.Frag) : { t : TS // SS K t jj } := ⟨_, et (Fm (av 0) (ae (s_g) aq) (ai (fun _ _ h => aG h)))⟩
theorem xo {K : W.Frag} {vs : List V} {H : Hp} {Q : VK} {E : XK} (h : iC K vs H Q E) : (o3 K).1 { nx := fun _ H' => Q .non H', rt := Q } (aI ["self"] vs) H := gj (o3 K).2 rfl h
noncomputable abbrev nR (K : W.Frag) : Sp := iY K 3 sR
noncomputable def yq (K : W.Frag) : { t : TS // SS K t vx } := ⟨_, a9 (df (bo (E := E0) (ae (av 2) aq) (ai (fun _ _ h => aG h))) (az 3)) (a9 (nt (o7 ((kE (ae (s_c rfl) (ae (s_c rfl) aq))).e)) (az 4) (a9 (df (Fm (av 0) aq (fun _ _ h => aG h)) (az 5)) (a9 (pq (EA (o6 (i6 ((jr Db (aM (ak 5) (aM (SE.p (s_c rfl)) bL))).p))) (di (SE.p (aH (pA true) (ak 5) (ak 3))))) (et (s_c rfl)) ko) (nt (o7 (av 5)) (az 6) (pq (EA (o6 (i6 ((jr Db (aM (ak 6) (aM (SE.p (s_c rfl)) bL))).p))) (EA (o6 (i6 ((jr Db (aM ((aH ez (ak 6) ((s_c rfl).p)).p) (aM (SE.p (s_c rfl)) bL))).p))) (o6 (i6 ((jr Db (aM ((aH ez ((aH ez (ak 6) ((s_c rfl).p)).p) ((s_c rfl).p)).p) (aM (SE.p (s_c rfl)) bL))).p))))) (et (s_c rfl)) ko))))) (et (bo (E := E0) (ae (av 0) (ae (av 1) aq)) (ai (ai (fun _ _ h => aG h))))))⟩
theorem En {K : W.Frag} {vs : List V} {H : Hp} {Q : VK} {E : XK} (h : nR K vs H Q E) : (yq K).1 { nx := fun _ H' => Q .non H', rt := Q } (aI ["_law_form", "_law_kind", "_law_triples", "_law_due", "_law_again", "_law_found", "_law_pair"] vs) H := gj (yq K).2 rfl h
noncomputable abbrev vw (K : W.Frag) : Sp := iY K 1 Ge
noncomputable def GF (K : W.Frag) : { t : TS // SS K t Dp } := ⟨_, a9 (df (bo (E := E0) (ae (av 0) (ae (s_c rfl) aq)) (ai (ai (fun _ _ h => aG h)))) (az 1)) (a9 (df (aH jD (ak 1) ((s_c rfl).p)) (az 2)) (a9 (pq (di (SE.p (aH (pA false) ((aH jD ((aH qI (ak 1) ((s_c rfl).p)).p) ((s_c rfl).p)).p) ((s_c rfl).p)))) (df (aH jD (ak 1) ((aH DA ((s_c rfl).p) ((s_c rfl).p)).p)) (az 2)) ko) (a9 (df (aH jD ((aH qI (ak 1) ((s_c rfl).p)).p) ((s_c rfl).p)) (az 3)) (a9 (df (aH jD ((bo (E := E0) (ae (av 0) (ae (s_c rfl) aq)) (ai (ai (fun _ _ h => aG h)))).p) ((aH ez (((kE (ae (s_c rfl) (ae (aH DA ((s_c rfl).p) ((s_c rfl).p)) aq))).e).p) ((jr IX (aM ((aH (pA false) ((aH jD ((aH qI (ak 1) ((s_c rfl).p)).p) ((s_c rfl).p)).p) ((s_c rfl).p)).p) bL)).p)).p)) (az 4)) (a9 (df (aH jD ((aH qI (ak 1) ((s_c rfl).p)).p) ((s_c rfl).p)) (az 5)) (a9 (df (aH ez (((kE (ae (aH jD ((bo (E := E0) (ae (av 0) (ae (s_c rfl) aq)) (ai (ai (fun _ _ h => aG h)))).p) ((s_c rfl).p)) (ae (s_c rfl) aq))).e).p) ((jr IX (aM ((aH (pA false) ((aH jD ((aH qI ((bo (E := E0) (ae (av 0) (ae (s_c rfl) aq)) (ai (ai (fun _ _ h => aG h)))).p) ((s_c rfl).p)).p) ((s_c rfl).p)).p) ((s_c rfl).p)).p) bL)).p)) (az 6)) (a9 (df ((eZ (hX ((LM (ak 0) (Fg ((s_c rfl).p)) (Fg ((s_c rfl).p))).p)) (az 0) li (bo (E := E0) (ae (av 0) (ae (aH (pA false) ((aH jD ((aH qI (ak 1) ((s_c rfl).p)).p) ((s_c rfl).p)).p) ((s_c rfl).p)) aq)) (ai (ai (fun _ _ h => aG h))))).e) (az 7)) (a9 (pq (di (SE.p (aH (pA false) ((jr yJ (aM (ak 7) bL)).p) ((s_c rfl).p)))) (df ((kE (ae (bQ (ae (s_c rfl) (ae (s_c rfl) (ae (s_c rfl) aq)))) aq)).e) (az 7)) ko) (a9 (df ((eZ (SI.p (FP ((iT d6 (ak 3)).p) ((aH gN (ak 5) ((s_c rfl).p)).p))) (az 0) li (bQ (ae (av 0) (ae (iT d6 (ak 2)) (ae (av 1) aq))))).e) (az 8)) (a9 (df (aH gN (((eZ (SI.p (FP ((iT d6 (ak 6)).p) ((aH gN (ak 6) ((s_c rfl).p)).p))) (az 0) li (bQ (ae (av 0) (ae (s_c rfl) (ae (s_c rfl) aq))))).e).p) (((kE (ae (bQ (ae (s_c rfl) (ae (iT d6 (ak 6)) (ae (av 6) aq)))) aq)).e).p)) (az 9)) (a9 (df (pp (Ns := NS) (.head _) (ae (av 2) (ae (av 3) (ae (av 4) (ae (av 5) aq)))) (ai (ai (ai (ai (fun _ _ h => aG h)))))) (az 10)) (a9 (df (pp (Ns := NS) (.tail _ (.head _)) (ae (av 6) aq) (ai (fun _ _ h => aG h))) (az 11)) (a9 (df (pp (Ns := NS) (.tail _ (.tail _ (.head _))) (ae (bo (E := E0) (ae (av 7) aq) (ai (fun _ _ h => aG h))) aq) (ai (fun _ _ h => aG h))) (az 12)) (a9 (pq (EA (o6 (i6 ((bo (E := E0) (ae (av 10) (ae (s_c rfl) (ae (av 8) aq))) (ai (ai (ai (fun _ _ h => aG h))))).p))) (EA (o6 (i6 ((bo (E := E0) (ae (av 11) (ae (s_c rfl) (ae (av 9) aq))) (ai (ai (ai (fun _ _ h => aG h))))).p))) (o6 (i6 ((bo (E := E0) (ae (av 12) (ae (s_c rfl) (ae (av 7) aq))) (ai (ai (ai (fun _ _ h => aG h))))).p))))) (et (s_c rfl)) ko) (a9 (df (pp (Ns := NS) (.tail _ (.tail _ (.tail _ (.head _)))) (ae (av 10) (ae (av 12) aq)) (ai (ai (fun _ _ h => aG h)))) (az 13)) (a9 (pq (o6 (i6 ((bo (E := E0) (ae (av 13) (ae (s_c rfl) (ae (bo (E := E0) (ae (av 8) (ae (av 7) aq)) (ai (ai (fun _ _ h => aG h)))) aq))) (ai (ai (ai (fun _ _ h => aG h))))).p))) (et (s_c rfl)) ko) (a9 (pq (o6 (i6 ((bo (E := E0) (ae (pp (Ns := NS) (.tail _ (.tail _ (.tail _ (.head _)))) (ae (av 12) (ae (av 11) aq)) (ai (ai (fun _ _ h => aG h)))) (ae (s_c rfl) (ae (bo (E := E0) (ae (av 7) (ae (av 9) aq)) (ai (ai (fun _ _ h => aG h)))) aq))) (ai (ai (ai (fun _ _ h => aG h))))).p))) (et (s_c rfl)) ko) (a9 (df (bo (E := E0) (ae (bo (E := E0) (ae (av 8) (ae (av 7) aq)) (ai (ai (fun _ _ h => aG h)))) (ae ((kE (ae (bQ (ae (iT d6 ((s_c rfl).p)) (ae (s_c rfl) (ae (s_c rfl) aq)))) (ae (bQ (ae (s_c rfl) (ae (s_c rfl) (ae (s_c rfl) aq)))) aq))).e) aq)) (ai (ai (fun _ _ h => aG h)))) (az 14)) (et (bo (E := E0) (ae (pp (Ns := NS) (.tail _ (.tail _ (.tail _ (.head _)))) (ae (av 13) (ae (pp (Ns := NS) (.head _) (ae (s_c rfl) (ae (s_c rfl) (ae (s_c rfl) (ae (s_c rfl) aq)))) (ai (ai (ai (ai (fun _ _ h => aG h)))))) aq)) (ai (ai (fun _ _ h => aG h)))) (ae (s_c rfl) (ae (av 14) aq))) (ai (ai (ai (fun _ _ h => aG h))))))))))))))))))))))))⟩
theorem Kr {K : W.Frag} {vs : List V} {H : Hp} {Q : VK} {E : XK} (h : vw K vs H Q E) : (GF K).1 { nx := fun _ H' => Q .non H', rt := Q } (aI ["_law_script", "_law_first", "_law_left", "_law_up", "_law_right", "_law_down", "_law_arm", "_law_shape", "_law_box_cells", "_law_cross_cells", "_law_box", "_law_cross", "_law_other", "_law_both", "_law_due"] vs) H := gj (GF K).2 rfl h
end P
namespace P
open PySem L2 M Rw
noncomputable def xj (p : Int × Int) : List Int := [p.1, p.2]
theorem AM : ∀ r : R, keys (r.map prD) = some (r.map xj)
 | [] => rfl
 | p :: r => by
  rw [N1, keys, AM r]
  rfl
theorem Gy : ∀ {r : R}, r ≠ [] -> ec (r.map prD) = none
 | [], h => absurd rfl h
 | p :: r, _ => rfl
noncomputable def C4 : List Int -> Int × Int
 | [a, b] => (a, b)
 | _ => (0, 0)
noncomputable def oU (ps : R) : R := (j6 (ps.map xj)).map C4
theorem vE (ps : R) : (oU ps).map xj = j6 (ps.map xj) := by
 unfold oU
 rw [Oa]
 have h : ∀ k ∈ j6 (ps.map xj), (xj ∘ C4) k = k := fun k hk => by
  have := (ki _).mem_iff.mp hk
  obtain ⟨p, _, rfl⟩ := NY.mp this
  rfl
 rw [List.map_congr_left h, List.map_id']
theorem j8 (ps : R) : (oU ps).Perm ps := by
 have h := (ki (ps.map xj)).map C4
 rw [Oa] at h
 have e : (C4 ∘ xj) = id := rfl
 rw [e, List.map_id] at h
 exact h
theorem F8 (ps : R) : (oU ps).Pairwise fun p q => p.1 <= q.1 := by
 have h := qG (ps.map xj)
 rw [<- vE, OG] at h
 refine h.imp fun {p q} e => ?_
 have e' : (if q.1 = p.1 then HT.dh [q.2] [p.2] else decide (q.1 < p.1)) = false := e
 by_cases hq : q.1 = p.1
 ·lia
 ·rw [NG hq] at e'
  have := Op e'
  lia
theorem A0 (ps : R) (h : ps.length < 30000) : kL [D5 ps] = some ((oU ps).map prD) := by
 show (if (ps.map prD).length < 30000 then _ else _) = _
 rw [NF (by rw [NT]; exact h)]
 by_cases e : ps = []
 ·subst e
  have e0 : oU [] = [] := List.length_eq_zero_iff.mp (by rw [(j8 []).length_eq]; rfl)
  have e1 : tX [] = [] := List.length_eq_zero_iff.mp (by rw [(qy []).length_eq]; rfl)
  show some ((tX []).map D.int) = _
  rw [e0, e1]
  rfl
 ·rw [Gy e]
  dsimp only
  rw [AM]
  have : (oU ps).map prD = (j6 (ps.map xj)).map xH := by
   rw [<- vE, Oa]
   rfl
  rw [this]
  rfl
noncomputable def s9 (p : Int × Int) : Bool := decide (p.1 <= p.2)
noncomputable def pd (ps : R) : R := oP (oU (ps.filter s9))
theorem kJ (ps : R) : IsRow ps (pd ps) := by
 refine Gh ?_ (F8 _) fun x => ?_
 ·intro p hp
  have := (j8 _).mem_iff.mp hp
  simpa [s9] using (Ou.mp this).2
 ·rw [G5 (j8 _)]
  exact mem_filter ps x
theorem z9 (acc : R) (p : Int × Int) : (step acc p).length <= acc.length + 1 := by
 rcases List.eq_nil_or_concat acc with rfl | ⟨t, q, rfl⟩
 ·simp [Rw.step]
 ·rw [List.concat_eq_append, jz]
  split <;> simp
theorem td : ∀ (l acc : R), (l.foldl step acc).length <= acc.length + l.length
 | [], acc => by simp
 | p :: l, acc => by
  have h1 := td l (step acc p)
  have h2 := z9 acc p
  rw [List.foldl_cons, NV]
  lia
theorem EL (ps : R) : (pd ps).length <= ps.length := by
 have h1 := td (oU (ps.filter s9)) []
 have h2 := (j8 (ps.filter s9)).length_eq
 have h3 := List.length_filter_le s9 ps
 unfold pd oP
 simp only [List.length_nil] at h1
 lia
theorem bx {n : Nat} (h : n <= 100000) : n <= LIM := N6 h (by rw [ic]; decide)
theorem kA {n : Nat} (h : n <= 100000) : n < LIM := Ow h (by rw [ic]; decide)
theorem GT (a b : Int) : D.tup [.int a, .int b] = prD (a, b) := rfl
theorem yd : ∀ ps : R, ps.filterMap (fun p => if p.1 <= p.2 then some (prD p) else none) = (ps.filter s9).map prD
 | [] => rfl
 | p :: t => by
  rw [List.filterMap_cons, List.filter_cons, yd t]
  by_cases h : p.1 <= p.2
  ·simp [s9, h]
  ·simp [s9, h]
theorem Ey (ps : R) : dW (b9 (au (ag 0) (au (ag 1) bV))) (xB (xOp dLe (am 0) (am 1))) (cj (ad (ap 0) (ad (ap 1) ao))) [.un, .un] (ps.map prD) = some ((ps.filter s9).map prD) := by
 rw [lj prD (fun p => if p.1 <= p.2 then some (prD p) else none) ps, yd]
 intro p _
 by_cases h : p.1 <= p.2 <;> simp [iZ, h]
theorem B2 (pre : R) (p : Int × Int) : oP (pre ++ [p]) = step (oP pre) p := by
 unfold oP
 rw [List.foldl_append]
 rfl
theorem F0 (pre : R) : (oP pre).length <= pre.length := by
 have := td pre []
 unfold oP
 simpa using this
theorem H9 {α β : Type} (f : α -> β) (xs : List α) (lo hi : Option Int) : jF (xs.map f) lo hi = (jF xs lo hi).map f := by
 unfold jF
 rw [NT, <- List.map_drop, <- List.map_take]
theorem HK {α : Type} (xs : List α) (lo hi : Option Int) : (jF xs lo hi).length <= HT.sIx xs.length xs.length hi - HT.sIx xs.length 0 lo := by
 unfold jF
 rw [List.length_take]
 lia
theorem bW {m n : XS} {ρ ρ' : M.Env} (h : m ρ = some (.nx ρ')) : bB m n ρ = n ρ' := by unfold bB; rw [h]
theorem Gp {n : Nat} {x : XS} {ds : List D} {d : D} (h : x (ds.map .sh ++ List.replicate (n - ds.length) .un) = some (.rt d)) : (fnO n x ds).map O.d = some d := by unfold fnO; rw [h]; simp
theorem C6 {n d : Nat} {v : Int} (h : 0 <= v) : HT.sIx n d (some v) = min v.toNat n := by
 show (if v < 0 then _ else _) = _
 rw [NG (by lia)]
theorem AH (s0 : Sl) (acc : R) (a b : Int) (h : acc.length <= 30000) : hZ [s0, owl (acc.map prD), .sh (.int a), .sh (.int b)] = some (.nx [s0, owl ((step acc (a, b)).map prD), .sh (.int a), .sh (.int b)]) := by
 rcases List.eq_nil_or_concat acc with rfl | ⟨t, q, rfl⟩
 ·simp [hZ, Rw.step, prD]
 ·rw [List.concat_eq_append] at *
  rw [jz]
  have hl : t.length + 1 <= 30000 := by simpa using h
  have hlim : t.length + 1 < LIM := kA (by lia)
  have at1 : atI (t.map prD ++ [prD q]) (-1) = some (prD q) := rP _ _
  by_cases hc : a <= q.2 + 1
  ·simp [hZ, at1, hc, Ba, GT]
  ·simp [hZ, at1, hc, hlim, GT]
theorem Ai (ps : R) (h : ps.length < 30000) : iI [D5 ps] = some (F4 (pd ps)) := by
 have hf := List.length_filter_le s9 ps
 have hs := (j8 (ps.filter s9)).length_eq
 have key : ∃ ρ', gr (b9 (au (ag 2) (au (ag 3) bV))) hZ ((oU (ps.filter s9)).map prD) [.sh (D5 ps), .ow (.lst []), .un, .un] = some (.nx ρ') /\ ∃ va vb, ρ' = [.sh (D5 ps), owl ((pd ps).map prD), va, vb] := by
  refine dN prD (fun pre ρ => ∃ va vb, ρ = [.sh (D5 ps), owl ((oP pre).map prD), va, vb]) _ _ ⟨_, _, rfl⟩ ?_
  rintro pre p post _ e ⟨va, vb, rfl⟩
  have hp : pre.length <= 30000 := by
   have := congrArg List.length e
   rw [NO] at this
   lia
  refine ⟨_, _, rfl, .inl (AH _ (oP pre) p.1 p.2 (by have := F0 pre; lia)), .sh (.int p.1), .sh (.int p.2), by rw [B2]⟩
 obtain ⟨ρ', k1, va, vb, rfl⟩ := key
 have hc := Ey ps
 have hb := A0 (ps.filter s9) (by lia)
 have hl : ps.length <= LIM := bx (by lia)
 simp [iI, tE, fnO, vT, hl, hc, hb, k1]
noncomputable abbrev Tri := Int × Int × Int
noncomputable abbrev aC (t : Tri) : D := .tup [.int t.1, .int t.2.1, .int t.2.2]
noncomputable abbrev Pic := List (Int × R)
noncomputable abbrev pyD (q : Int × R) : D := .tup [.int q.1, F4 q.2]
noncomputable abbrev bA (p : Pic) : D := .tup (p.map pyD)
def fI (ts : List Tri) (x y : Int) : Prop := ∃ t ∈ ts, t.1 = y /\ t.2.1 <= x /\ x <= t.2.2
def eB (p : Pic) (x y : Int) : Prop := ∃ q ∈ p, q.1 = y /\ Mem q.2 x
def b6 (p : Pic) : Prop := (∀ q ∈ p, gy q.2 /\ q.2 ≠ []) /\ p.Pairwise fun a b => a.1 < b.1
theorem fF (x y : Int) : ¬ eB [] x y := by rintro ⟨_, h, _⟩; cases h
theorem bR (q : Int × R) (p : Pic) (x y : Int) : eB (q :: p) x y ↔ (q.1 = y /\ Mem q.2 x) \/ eB p x y := by
 constructor
 ·rintro ⟨s, h, e⟩
  rcases NQ.mp h with rfl | h
  ·exact .inl e
  ·exact .inr ⟨s, h, e⟩
 ·rintro (e | ⟨s, h, e⟩)
  ·exact ⟨q, NL, e⟩
  ·exact ⟨s, NN _ h, e⟩
theorem gm (p q : Pic) (x y : Int) : eB (p ++ q) x y ↔ eB p x y \/ eB q x y := by
 constructor
 ·rintro ⟨s, h, e⟩
  rcases NM.mp h with h | h
  ·exact .inl ⟨s, h, e⟩
  ·exact .inr ⟨s, h, e⟩
 ·rintro (⟨s, h, e⟩ | ⟨s, h, e⟩)
  ·exact ⟨s, NR _ h, e⟩
  ·exact ⟨s, NP _ h, e⟩
theorem yw (t : Tri) (ts : List Tri) (x y : Int) : fI (t :: ts) x y ↔ (t.1 = y /\ t.2.1 <= x /\ x <= t.2.2) \/ fI ts x y := by
 constructor
 ·rintro ⟨s, h, e⟩
  rcases NQ.mp h with rfl | h
  ·exact .inl e
  ·exact .inr ⟨s, h, e⟩
 ·rintro (e | ⟨s, h, e⟩)
  ·exact ⟨t, NL, e⟩
  ·exact ⟨s, NN _ h, e⟩
theorem fb (a b : List Tri) (x y : Int) : fI (a ++ b) x y ↔ fI a x y \/ fI b x y := by
 constructor
 ·rintro ⟨s, h, e⟩
  rcases NM.mp h with h | h
  ·exact .inl ⟨s, h, e⟩
  ·exact .inr ⟨s, h, e⟩
 ·rintro (⟨s, h, e⟩ | ⟨s, h, e⟩)
  ·exact ⟨s, NR _ h, e⟩
  ·exact ⟨s, NP _ h, e⟩
theorem xO {a b : List Tri} (h : a.Perm b) (x y : Int) : fI a x y ↔ fI b x y :=
 ⟨fun ⟨q, m, e⟩ => ⟨q, h.mem_iff.mp m, e⟩, fun ⟨q, m, e⟩ => ⟨q, h.mem_iff.mpr m, e⟩⟩
theorem vD : b6 [] := ⟨fun _ h => (by cases h), .nil⟩
theorem pcanon_cons {q : Int × R} {p : Pic} : b6 (q :: p) ↔ (gy q.2 /\ q.2 ≠ []) /\ (∀ s ∈ p, q.1 < s.1) /\ b6 p := by
 constructor
 ·rintro ⟨h1, h2⟩
  have h3 := List.pairwise_cons.mp h2
  exact ⟨h1 q NL, h3.1, fun s hs => h1 s (NN _ hs), h3.2⟩
 ·rintro ⟨h1, h2, h3, h4⟩
  refine ⟨fun s hs => ?_, List.pairwise_cons.mpr ⟨h2, h4⟩⟩
  rcases NQ.mp hs with rfl | hs
  ·exact h1
  ·exact h3 s hs
theorem kF {r : R} (c : gy r) (h : r ≠ []) : ∃ x, Mem r x := by
 cases r with
 | nil => exact absurd rfl h
 | cons p r => exact ⟨p.1, (mem_cons ..).mpr (.inl ⟨Int.le_refl _, (canon_cons.mp c).1⟩)⟩
theorem DC : ∀ {p q : Pic}, b6 p -> b6 q -> (∀ x y, eB p x y ↔ eB q x y) -> p = q
 | [], [], _, _, _ => rfl
 | [], b :: q, _, cq, h => by
  obtain ⟨⟨c1, c2⟩, _⟩ := pcanon_cons.mp cq
  obtain ⟨x, hx⟩ := kF c1 c2
  exact (fF _ _ ((h x b.1).mpr ((bR ..).mpr (.inl ⟨rfl, hx⟩)))).elim
 | a :: p, [], cp, _, h => by
  obtain ⟨⟨c1, c2⟩, _⟩ := pcanon_cons.mp cp
  obtain ⟨x, hx⟩ := kF c1 c2
  exact (fF _ _ ((h x a.1).mp ((bR ..).mpr (.inl ⟨rfl, hx⟩)))).elim
 | a :: p, b :: q, cp, cq, h => by
  obtain ⟨⟨ca, na⟩, la, cp'⟩ := pcanon_cons.mp cp
  obtain ⟨⟨cb, nb⟩, lb, cq'⟩ := pcanon_cons.mp cq
  obtain ⟨xa, ha⟩ := kF ca na
  obtain ⟨xb, hb⟩ := kF cb nb
  have ey : a.1 = b.1 := by
   have h1 : b.1 <= a.1 := by
    rcases (bR ..).mp ((h xa a.1).mp ((bR ..).mpr (.inl ⟨rfl, ha⟩))) with ⟨e, _⟩ | ⟨s, hs, e, _⟩
    ·lia
    ·have := lb s hs; lia
   have h2 : a.1 <= b.1 := by
    rcases (bR ..).mp ((h xb b.1).mpr ((bR ..).mpr (.inl ⟨rfl, hb⟩))) with ⟨e, _⟩ | ⟨s, hs, e, _⟩
    ·lia
    ·have := la s hs; lia
   lia
  have er : a.2 = b.2 := yT ca cb fun x => by
   have hx := h x a.1
   rw [bR, bR] at hx
   have n1 : ¬ eB p x a.1 := by rintro ⟨s, hs, e, _⟩; have := la s hs; lia
   have n2 : ¬ eB q x a.1 := by rintro ⟨s, hs, e, _⟩; have := lb s hs; lia
   constructor
   ·intro hm
    rcases hx.mp (.inl ⟨rfl, hm⟩) with z | z
    ·exact z.2
    ·exact absurd z n2
   ·intro hm
    rcases hx.mpr (.inl ⟨ey.symm, hm⟩) with z | z
    ·exact z.2
    ·exact absurd z n1
  have eab : a = b := by
   obtain ⟨a1, a2⟩ := a
   obtain ⟨b1, b2⟩ := b
   simp only at ey er
   rw [ey, er]
  subst eab
  have ih : p = q := DC cp' cq' fun x y => by
   have hx := h x y
   rw [bR, bR] at hx
   constructor
   ·intro hm
    rcases hx.mp (.inr hm) with z | z
    ·obtain ⟨s, hs, e, _⟩ := hm; have := la s hs; lia
    ·exact z
   ·intro hm
    rcases hx.mpr (.inr hm) with z | z
    ·obtain ⟨s, hs, e, _⟩ := hm; have := lb s hs; lia
    ·exact z
  rw [ih]
noncomputable def vC (t : Tri) : List Int := [t.1, t.2.1, t.2.2]
noncomputable def yX : List Int -> Tri
 | [a, b, c] => (a, b, c)
 | _ => (0, 0, 0)
theorem yt : ∀ r : List Tri, keys (r.map aC) = some (r.map vC)
 | [] => rfl
 | p :: r => by rw [N1, keys, yt r]; rfl
theorem Ee : ∀ {r : List Tri}, r ≠ [] -> ec (r.map aC) = none
 | [], h => absurd rfl h
 | _ :: _, _ => rfl
noncomputable def cI (ts : List Tri) : List Tri := (j6 (ts.map vC)).map yX
theorem qu (ts : List Tri) : (cI ts).map vC = j6 (ts.map vC) := by
 unfold cI
 rw [Oa]
 have h : ∀ k ∈ j6 (ts.map vC), (vC ∘ yX) k = k := fun k hk => by
  have := (ki _).mem_iff.mp hk
  obtain ⟨p, _, rfl⟩ := NY.mp this
  rfl
 rw [List.map_congr_left h, List.map_id']
theorem dq (ts : List Tri) : (cI ts).Perm ts := by
 have h := (ki (ts.map vC)).map yX
 rw [Oa] at h
 have e : (yX ∘ vC) = id := rfl
 rw [e, List.map_id] at h
 exact h
theorem Ak (ts : List Tri) : (cI ts).Pairwise fun p q => p.1 <= q.1 := by
 have h := qG (ts.map vC)
 rw [<- qu, OG] at h
 refine h.imp fun {p q} e => ?_
 have e' : (if q.1 = p.1 then HT.dh [q.2.1, q.2.2] [p.2.1, p.2.2] else decide (q.1 < p.1)) = false := e
 by_cases hq : q.1 = p.1
 ·lia
 ·rw [NG hq] at e'
  have := Op e'
  lia
theorem lZ (ts : List Tri) (h : ts.length < 30000) : kL [.lst (ts.map aC)] = some ((cI ts).map aC) := by
 show (if (ts.map aC).length < 30000 then _ else _) = _
 rw [NF (by rw [NT]; exact h)]
 by_cases e : ts = []
 ·subst e
  have e0 : cI [] = [] := List.length_eq_zero_iff.mp (by rw [(dq []).length_eq]; rfl)
  have e1 : tX [] = [] := List.length_eq_zero_iff.mp (by rw [(qy []).length_eq]; rfl)
  show some ((tX []).map D.int) = _
  rw [e0, e1]
  rfl
 ·rw [Ee e]
  dsimp only
  rw [yt]
  have : (cI ts).map aC = (j6 (ts.map vC)).map xH := by
   rw [<- qu, Oa]
   rfl
  rw [this]
  rfl
noncomputable def dZ (t : Tri) : Bool := decide (t.2.1 <= t.2.2)
theorem Az (ts : List Tri) (x y : Int) : fI (ts.filter dZ) x y ↔ fI ts x y := by
 constructor
 ·rintro ⟨q, m, e⟩
  exact ⟨q, (Ou.mp m).1, e⟩
 ·rintro ⟨q, m, e⟩
  exact ⟨q, Ou.mpr ⟨m, by simp [dZ]; lia⟩, e⟩
theorem vH : ∀ ps : List Tri, ps.filterMap (fun p => if p.2.1 <= p.2.2 then some (aC p) else none) = (ps.filter dZ).map aC
 | [] => rfl
 | p :: t => by
  rw [List.filterMap_cons, List.filter_cons, vH t]
  by_cases h : p.2.1 <= p.2.2
  ·simp [dZ, h]
  ·simp [dZ, h]
theorem Cg (ps : List Tri) : dW (b9 (au (ag 0) (au (ag 1) (au (ag 2) bV)))) (xB (xOp dLe (am 1) (am 2))) (cj (ad (ap 0) (ad (ap 1) (ad (ap 2) ao)))) [.un, .un, .un] (ps.map aC) = some ((ps.filter dZ).map aC) := by
 rw [lj aC (fun p => if p.2.1 <= p.2.2 then some (aC p) else none) ps, vH]
 intro p _
 by_cases h : p.2.1 <= p.2.2 <;> simp [iZ, h]
noncomputable def mw (gs : Pic) (t : Tri) : Pic := match gs.getLast? with
 | none => [(t.1, [t.2])]
 | some g => if g.1 = t.1 then gs.dropLast ++ [(g.1, g.2 ++ [t.2])] else gs ++ [(t.1, [t.2])]
theorem DE (t : Tri) : mw [] t = [(t.1, [t.2])] := rfl
theorem pM (gs : Pic) (g : Int × R) (t : Tri) : mw (gs ++ [g]) t = if g.1 = t.1 then gs ++ [(g.1, g.2 ++ [t.2])] else gs ++ [g] ++ [(t.1, [t.2])] := by
 unfold mw
 simp
noncomputable def fH (ts : List Tri) : Pic := ts.foldl mw []
theorem vW (pre : List Tri) (t : Tri) : fH (pre ++ [t]) = mw (fH pre) t := by
 unfold fH
 rw [List.foldl_append]
 rfl
structure GOk (gs : Pic) (ts : List Tri) : Prop where
 ne : ∀ g ∈ gs, g.2 ≠ [] /\ Ok g.2
 up : gs.Pairwise fun a b => a.1 < b.1
 mem : ∀ x y, eB gs x y ↔ fI ts x y
 le : ∀ g ∈ gs, ∃ t ∈ ts, g.1 = t.1
 len : (gs.map fun g => g.2.length).sum = ts.length
theorem FV {gs : Pic} {ts : List Tri} {t : Tri} (o : GOk gs ts) (ht : t.2.1 <= t.2.2) (hb : ∀ s ∈ ts, s.1 <= t.1) : GOk (mw gs t) (ts ++ [t]) := by
 have tm : ∀ x y, fI (ts ++ [t]) x y ↔ fI ts x y \/ (t.1 = y /\ t.2.1 <= x /\ x <= t.2.2) := fun x y => by
  rw [fb, yw]
  constructor
  ·rintro (h | h | ⟨_, h, _⟩)
   ·exact .inl h
   ·exact .inr h
   ·cases h
  ·rintro (h | h)
   ·exact .inl h
   ·exact .inr (.inl h)
 have okt : Ok [t.2] := fun p hp => by rw [NI.mp hp]; exact ht
 rcases List.eq_nil_or_concat gs with rfl | ⟨gs0, g, rfl⟩
 ·rw [DE]
  have e0 : ts = [] := List.length_eq_zero_iff.mp (by have := o.len; simpa using this.symm)
  subst e0
  refine ⟨fun g hg => ?_, List.pairwise_singleton _ _, fun x y => ?_, fun g hg => ⟨t, by simp, by rw [NI.mp hg]⟩, by simp⟩
  ·rw [NI.mp hg]; exact ⟨by simp, okt⟩
  ·rw [tm, bR, mem_cons]
   constructor
   ·rintro (⟨h1, h2 | h2⟩ | h)
    ·exact .inr ⟨h1, h2⟩
    ·exact (fM _ h2).elim
    ·exact (fF _ _ h).elim
   ·rintro (⟨_, h, _⟩ | h)
    ·cases h
    ·exact .inl ⟨h.1, .inl h.2⟩
 ·rw [List.concat_eq_append] at *
  have up := N7.mp o.up
  rw [pM]
  have glast : g.1 <= t.1 := by
   obtain ⟨s, hs, e⟩ := o.le g (by simp)
   have := hb s hs
   lia
  by_cases h : g.1 = t.1
  ·rw [NF h]
   refine ⟨fun q hq => ?_, ?_, fun x y => ?_, fun q hq => ?_, ?_⟩
   ·rcases NM.mp hq with hq | hq
    ·exact o.ne q (NR _ hq)
    ·rw [NI.mp hq]
     refine ⟨by simp, fun p hp => ?_⟩
     rcases NM.mp hp with hp | hp
     ·exact (o.ne g (by simp)).2 p hp
     ·exact okt p hp
   ·refine N7.mpr ⟨up.1, List.pairwise_singleton _ _, fun a ha b hb => ?_⟩
    rw [NI.mp hb]
    exact up.2.2 a ha g (by simp)
   ·rw [tm, <- o.mem, gm, gm, bR, bR]
    dsimp only
    rw [mem_append, mem_cons]
    have n0 := fF x y
    have n1 := fM x
    constructor
    ·rintro (k | ⟨k1, k2 | k2 | k2⟩ | k)
     ·exact .inl (.inl k)
     ·exact .inl (.inr (.inl ⟨k1, k2⟩))
     ·exact .inr ⟨by lia, k2⟩
     ·exact absurd k2 n1
     ·exact absurd k n0
    ·rintro ((k | ⟨k1, k2⟩ | k) | ⟨k1, k2⟩)
     ·exact .inl k
     ·exact .inr (.inl ⟨k1, .inl k2⟩)
     ·exact absurd k n0
     ·exact .inr (.inl ⟨by lia, .inr (.inl k2)⟩)
   ·rcases NM.mp hq with hq | hq
    ·obtain ⟨s, hs, e⟩ := o.le q (NR _ hq)
     exact ⟨s, NR _ hs, e⟩
    ·rw [NI.mp hq]
     exact ⟨t, by simp, h⟩
   ·have := o.len
    simp only [OJ, List.sum_append, N1, List.map_nil, List.sum_cons, List.sum_nil, NO, NV, List.length_nil] at this ⊢
    lia
  ·rw [NG h]
   refine ⟨fun q hq => ?_, ?_, fun x y => ?_, fun q hq => ?_, ?_⟩
   ·rcases NM.mp hq with hq | hq
    ·exact o.ne q hq
    ·rw [NI.mp hq]; exact ⟨by simp, okt⟩
   ·refine N7.mpr ⟨o.up, List.pairwise_singleton _ _, fun a ha b hb' => ?_⟩
    rw [NI.mp hb']
    rcases NM.mp ha with ha | ha
    ·have := up.2.2 a ha g (by simp)
     dsimp only
     lia
    ·rw [NI.mp ha]; dsimp only; lia
   ·rw [tm, <- o.mem, gm, bR]
    dsimp only
    rw [mem_cons]
    have n0 := fF x y
    have n1 := fM x
    constructor
    ·rintro (k | ⟨k1, k2 | k2⟩ | k)
     ·exact .inl k
     ·exact .inr ⟨k1, k2⟩
     ·exact absurd k2 n1
     ·exact absurd k n0
    ·rintro (k | ⟨k1, k2⟩)
     ·exact .inl k
     ·exact .inr (.inl ⟨k1, .inl k2⟩)
   ·rcases NM.mp hq with hq | hq
    ·obtain ⟨s, hs, e⟩ := o.le q hq
     exact ⟨s, NR _ hs, e⟩
    ·rw [NI.mp hq]
     exact ⟨t, by simp, rfl⟩
   ·have := o.len
    simp only [OJ, List.sum_append, N1, List.map_nil, List.sum_cons, List.sum_nil, NO, NV, List.length_nil] at this ⊢
    lia
theorem Bw : ∀ (post pre : List Tri), (∀ t ∈ pre ++ post, t.2.1 <= t.2.2) -> (pre ++ post).Pairwise (fun p q => p.1 <= q.1) -> GOk (fH pre) pre -> GOk (fH (pre ++ post)) (pre ++ post)
 | [], pre, _, _, o => by rw [Ol]; exact o
 | t :: post, pre, h1, h2, o => by
  have e : pre ++ t :: post = (pre ++ [t]) ++ post := by simp
  rw [e] at h1 h2 ⊢
  refine Bw post (pre ++ [t]) h1 h2 ?_
  rw [vW]
  have h3 := N7.mp h2
  have h4 := N7.mp h3.1
  exact FV o (h1 t (by simp)) fun s hs => h4.2.2 s hs t (by simp)
theorem yl {ts : List Tri} (h1 : ∀ t ∈ ts, t.2.1 <= t.2.2) (h2 : ts.Pairwise fun p q => p.1 <= q.1) : GOk (fH ts) ts :=
 Bw ts [] h1 h2 ⟨fun _ h => (by cases h), .nil, fun x y => ⟨fun h => (fF _ _ h).elim, fun ⟨_, h, _⟩ => by cases h⟩, fun _ h => (by cases h), rfl⟩
noncomputable def dc (ts : List Tri) : Pic := (fH (cI (ts.filter dZ))).map fun g => (g.1, pd g.2)
theorem nu (ts : List Tri) : GOk (fH (cI (ts.filter dZ))) (cI (ts.filter dZ)) := yl (fun t ht => by
 have := (dq _).mem_iff.mp ht
 simpa [dZ] using (Ou.mp this).2) (Ak _)
theorem Fe {ps : R} (h : ps ≠ []) (o : Ok ps) : pd ps ≠ [] := fun e => by
 cases ps with
 | nil => exact h rfl
 | cons p ps =>
  have := ((kJ (p :: ps)).2 p.1).mpr ((mem_cons ..).mpr (.inl ⟨Int.le_refl _, o p NL⟩))
  rw [e] at this
  exact fM _ this
theorem fG (ts : List Tri) : b6 (dc ts) /\ ∀ x y, eB (dc ts) x y ↔ fI ts x y := by
 have o := nu ts
 refine ⟨⟨fun q hq => ?_, ?_⟩, fun x y => ?_⟩
 ·obtain ⟨g, hg, rfl⟩ := NY.mp hq
  obtain ⟨h1, h2⟩ := o.ne g hg
  exact ⟨(kJ g.2).1, Fe h1 h2⟩
 ·unfold dc
  rw [OG]
  exact o.up
 ·rw [<- Az ts, <- xO (dq _), <- o.mem]
  constructor
  ·rintro ⟨q, hq, e, hm⟩
   obtain ⟨g, hg, rfl⟩ := NY.mp hq
   exact ⟨g, hg, e, ((kJ g.2).2 x).mp hm⟩
  ·rintro ⟨g, hg, e, hm⟩
   exact ⟨_, NY.mpr ⟨g, hg, rfl⟩, e, ((kJ g.2).2 x).mpr hm⟩
noncomputable def ar (p : Pic) : List Tri := p.flatMap fun q => q.2.map fun s => (q.1, s)
theorem ku (q : Int × R) (p : Pic) : ar (q :: p) = (q.2.map fun s => (q.1, s)) ++ ar p := rfl
theorem lh (p : Pic) (x y : Int) : fI (ar p) x y ↔ eB p x y := by
 constructor
 ·rintro ⟨t, ht, e, h⟩
  obtain ⟨q, hq, hs⟩ := List.mem_flatMap.mp ht
  obtain ⟨s, hs2, rfl⟩ := NY.mp hs
  exact ⟨q, hq, e, s, hs2, h⟩
 ·rintro ⟨q, hq, e, s, hs, h⟩
  exact ⟨(q.1, s), List.mem_flatMap.mpr ⟨q, hq, NY.mpr ⟨s, hs, rfl⟩⟩, e, h⟩
theorem wB {ts : List Tri} {p : Pic} (c : b6 p) (h : ∀ x y, fI ts x y ↔ eB p x y) : dc ts = p :=
 DC (fG ts).1 c fun x y => ((fG ts).2 x y).trans (h x y)
mutual
theorem Ay : ∀ (n : Nat) (d : D), okD n d = true -> eqD d d = true
 | _, .non, _ => by simp [eqD]
 | _, .bl _, _ => by simp [eqD]
 | _, .int _, _ => by simp [eqD]
 | _, .str _, _ => by simp [eqD]
 | 0, .lst _, h => by simp [okD] at h
 | n + 1, .lst l, h => by rw [eqD]; exact eqDs_refl n l (by simpa [okD] using h)
 | 0, .tup _, h => by simp [okD] at h
 | n + 1, .tup l, h => by rw [eqD]; exact eqDs_refl n l (by simpa [okD] using h)
 | n, .ty _, h => by cases n <;> simp [okD] at h
 | n, .scr _, h => by cases n <;> simp [okD] at h
 | n, .ins _ _ _, h => by cases n <;> simp [okD] at h
 | n, .dic _, h => by cases n <;> simp [okD] at h
theorem eqDs_refl : ∀ (n : Nat) (l : List D), okDs n l = true -> eqDs l l = true
 | _, [], _ => by simp [eqDs]
 | n, d :: l, h => by
  rw [okDs, Os] at h
  rw [eqDs, Ay n d h.1, eqDs_refl n l h.2]
  rfl
end
theorem vV {α : Type} {n : Nat} {f : α -> D} : ∀ (l : List α), (∀ a ∈ l, okD n (f a) = true) -> okDs n (l.map f) = true
 | [], _ => by simp [okDs]
 | a :: l, h => by rw [N1, okDs, h a NL, vV l fun b hb => h b (NN _ hb)]; rfl
theorem FG {d : D} (neg : Bool) (h : okD 50 d = true) : dEq neg d d = some (.bl (!neg)) := by
 unfold dEq
 rw [NF ⟨h, h⟩, Ay 50 d h]
 cases neg <;> rfl
theorem CP (p : Pic) : okD 50 (bA p) = true := by
 rw [okD]
 refine vV p fun q _ => ?_
 simp only [okD, okDs]
 rw [AQ 46 q.2]
 rfl
noncomputable def grO (g : Int × R) : O := .tup [.sh (.int g.1), .lst (g.2.map (O.sh ∘ prD))]
noncomputable def grD (g : Int × R) : D := .tup [.int g.1, D5 g.2]
theorem Li (g : Int × R) : (grO g).d = grD g := by simp [grO, grD]
theorem GE : ∀ gs : Pic, O.ds (gs.map grO) = gs.map grD
 | [] => by simp
 | g :: gs => by rw [N1, D0, Li, GE gs]; rfl
theorem DN (gs : Pic) (t : Tri) : (mw gs t).length <= gs.length + 1 := by
 rcases List.eq_nil_or_concat gs with rfl | ⟨gs0, g, rfl⟩
 ·simp [mw]
 ·rw [List.concat_eq_append, pM]
  split <;> simp
theorem xK : ∀ ts : List Tri, (fH ts).length <= ts.length := by
 intro ts
 have key : ∀ (l : List Tri) (gs : Pic), (l.foldl mw gs).length <= gs.length + l.length := by
  intro l
  induction l with
  | nil => intro gs; simp
  | cons t l ih =>
   intro gs
   have h1 := ih (mw gs t)
   have h2 := DN gs t
   rw [List.foldl_cons, NV]
   lia
 have := key ts []
 unfold fH
 simpa using this
theorem zl (s0 : Sl) (gs : Pic) (t : Tri) (h : gs.length <= 30000) (hg : ∀ g ∈ gs, g.2.length <= 30000) : dL [s0, .ow (.lst (gs.map grO)), .sh (.int t.1), .sh (.int t.2.1), .sh (.int t.2.2)] = some (.nx [s0, .ow (.lst ((mw gs t).map grO)), .sh (.int t.1), .sh (.int t.2.1), .sh (.int t.2.2)]) := by
 rcases List.eq_nil_or_concat gs with rfl | ⟨gs0, g, rfl⟩
 ·simp [dL, mw, grO]
 ·rw [List.concat_eq_append] at *
  rw [pM]
  have hl : gs0.length + 1 <= 30000 := by simpa using h
  have hlim : gs0.length + 1 < LIM := kA (by lia)
  have hg2 : g.2.length < LIM := kA (by have := hg g (by simp); lia)
  by_cases hc : g.1 = t.1
  ·simp [dL, hc, hg2, grO]
  ·simp [dL, hc, hlim, grO]
theorem pE : ∀ {l : List Nat} {n : Nat}, n ∈ l -> n <= l.sum
 | [], _, h => by cases h
 | m :: l, n, h => by
  rw [List.sum_cons]
  rcases NQ.mp h with rfl | h
  ·lia
  ·have := pE h; lia
theorem iW (ts : List Tri) (h : ts.length < 30000) : bf [.lst (ts.map aC)] = some (bA (dc ts)) := by
 have hf := List.length_filter_le dZ ts
 have hs := (dq (ts.filter dZ)).length_eq
 have og := nu ts
 have key : ∃ ρ', gr (b9 (au (ag 2) (au (ag 3) (au (ag 4) bV)))) dL ((cI (ts.filter dZ)).map aC) [.sh (.lst (ts.map aC)), .ow (.lst []), .un, .un, .un] = some (.nx ρ') /\ ∃ va vb vc, ρ' = [.sh (.lst (ts.map aC)), .ow (.lst ((fH (cI (ts.filter dZ))).map grO)), va, vb, vc] := by
  refine dN aC (fun pre ρ => ∃ va vb vc, ρ = [.sh (.lst (ts.map aC)), .ow (.lst ((fH pre).map grO)), va, vb, vc]) _ _ ⟨_, _, _, rfl⟩ ?_
  rintro pre t post _ e ⟨va, vb, vc, rfl⟩
  have hp : pre.length <= 30000 := by
   have := congrArg List.length e
   rw [NO] at this
   lia
  have gl := xK pre
  have gp : GOk (fH pre) pre := by
   refine yl (fun s hs => ?_) ?_
   ·have := (dq _).mem_iff.mp (show s ∈ cI (ts.filter dZ) by rw [e]; simp [hs])
    simpa [dZ] using (Ou.mp this).2
   ·have := Ak (ts.filter dZ)
    rw [e] at this
    exact (N7.mp this).1
  have gg : ∀ g ∈ fH pre, g.2.length <= 30000 := fun g hg => by
   have h1 := gp.len
   have h2 : g.2.length <= ((fH pre).map fun g => g.2.length).sum := pE (NY.mpr ⟨g, hg, rfl⟩)
   lia
  refine ⟨_, _, rfl, .inl (zl _ (fH pre) t (by lia) gg), .sh (.int t.1), .sh (.int t.2.1), .sh (.int t.2.2), by rw [vW]⟩
 obtain ⟨ρ', k1, va, vb, vc, rfl⟩ := key
 have hc := Cg ts
 have hb := lZ (ts.filter dZ) (by lia)
 have hl : ts.length <= LIM := bx (by lia)
 have gl := xK (cI (ts.filter dZ))
 have hl2 : (fH (cI (ts.filter dZ))).length <= LIM := bx (by lia)
 have c2 : dW (b9 (au (ag 0) (au (ag 1) bV))) gq (cj (ad (ap 0) (ad (aP iI (ad (ap 1) ao)) ao))) [.un, .un] ((fH (cI (ts.filter dZ))).map grD) = some ((dc ts).map pyD) := by
  rw [cM grD (fun g => pyD (g.1, pd g.2))]
  ·unfold dc
   rw [Oa]
   rfl
  ·intro g hg
   have h1 : g.2.length < 30000 := by
    have h2 : g.2.length <= ((fH (cI (ts.filter dZ))).map fun g => g.2.length).sum := pE (NY.mpr ⟨g, hg, rfl⟩)
    have := og.len
    lia
   have h3 := Ai g.2 h1
   simp [iZ, grD, h3]
 simp [bf, kR, fnO, lu, hl, hc, hb, k1, frz, GE, hl2, c2]
theorem rk (p q : Pic) : ar (p ++ q) = ar p ++ ar q := by unfold ar; rw [List.flatMap_append]
theorem xp {p : Pic} {q : Int × R} (h : q ∈ p) : q.2.length <= (ar p).length := by
 induction p with
 | nil => cases h
 | cons s p ih =>
  rw [ku, NO, NT]
  rcases NQ.mp h with rfl | h
  ·lia
  ·have := ih h; lia
theorem pj (p : Pic) (h : (ar p).length <= 100000) : fL [bA p] = some (.lst ((ar p).map (O.sh ∘ aC))) := by
 obtain ⟨ρ', k1, v2, v3, rfl⟩ := dN (g := b9 (au (ag 2) (au (ag 3) bV))) (m := iy) pyD (fun pre ρ => ∃ v2 v3, ρ = [.sh (bA p), .ow (.lst ((ar pre).map (O.sh ∘ aC))), v2, v3]) p [.sh (bA p), .ow (.lst []), .un, .un] ⟨_, _, rfl⟩ (by
  rintro pre q post _ e ⟨v2, v3, rfl⟩
  have hlen : (ar pre).length + q.2.length <= 100000 := by
   rw [e, rk, ku, NO, NO, NT] at h
   lia
  have hl : (ar pre).length + q.2.length <= LIM := bx hlen
  have hl2 : q.2.length <= LIM := bx (by lia)
  have hc : dW (b9 (au (ag 0) (au (ag 1) bV))) gq (cj (ad (ap 2) (ad (ap 0) (ad (ap 1) ao)))) [.un, .un, .sh (.int q.1)] (q.2.map prD) = some (q.2.map fun s => aC (q.1, s)) := cM prD _ q.2 fun s _ => by simp [iZ]
  refine ⟨_, [.sh (bA p), .ow (.lst ((ar (pre ++ [q])).map (O.sh ∘ aC))), .sh (.int q.1), .sh (F4 q.2)], rfl, .inl ?_, _, _, rfl⟩
  have es : ar (pre ++ [q]) = ar pre ++ q.2.map fun s => (q.1, s) := by rw [rk, ku]; simp [ar]
  rw [es]
  simp [iy, hl, hl2, hc])
 simp [fL, fnO, jK, k1]
theorem c7 (p : Pic) (h : (ar p).length <= 100000) : aF [bA p] = some (.lst ((ar p).map aC)) := by
 unfold aF
 rw [pj p h]
 simp
theorem ES (ts : List Tri) : (cI ts).Pairwise fun p q => p.1 < q.1 \/ (p.1 = q.1 /\ p.2.1 <= q.2.1) := by
 have h := qG (ts.map vC)
 rw [<- qu, OG] at h
 refine h.imp fun {p q} e => ?_
 have e' : (if q.1 = p.1 then (if q.2.1 = p.2.1 then HT.dh [q.2.2] [p.2.2] else decide (q.2.1 < p.2.1)) else decide (q.1 < p.1)) = false := e
 by_cases hq : q.1 = p.1
 ·rw [NF hq] at e'
  by_cases hr : q.2.1 = p.2.1
  ·exact .inr ⟨hq.symm, by lia⟩
  ·rw [NG hr] at e'
   have := Op e'
   exact .inr ⟨hq.symm, by lia⟩
 ·rw [NG hq] at e'
  have := Op e'
  exact .inl (by lia)
noncomputable def t5 (gs : Pic) (t : Tri) : Pic := match gs.getLast? with
 | some g => if g.1 = t.1 then gs.dropLast ++ [(g.1, step g.2 t.2)] else gs ++ [(t.1, [t.2])]
 | none => [(t.1, [t.2])]
theorem E5 (t : Tri) : t5 [] t = [(t.1, [t.2])] := rfl
theorem wq (gs : Pic) (g : Int × R) (t : Tri) : t5 (gs ++ [g]) t = if g.1 = t.1 then gs ++ [(g.1, step g.2 t.2)] else gs ++ [g] ++ [(t.1, [t.2])] := by
 unfold t5
 simp
noncomputable def wl (ts : List Tri) : Pic := ts.foldl t5 []
theorem yF (pre : List Tri) (t : Tri) : wl (pre ++ [t]) = t5 (wl pre) t := by unfold wl; rw [List.foldl_append]; rfl
theorem HW (acc : R) (p : Int × Int) : step acc p ≠ [] := by
 rcases List.eq_nil_or_concat acc with rfl | ⟨t, q, rfl⟩
 ·rw [wP]; simp
 ·rw [List.concat_eq_append, jz]
  split <;> simp
theorem AZ {acc : R} {p q : Int × Int} (h : q ∈ step acc p) : q.1 = p.1 \/ ∃ q' ∈ acc, q'.1 = q.1 := by
 rcases List.eq_nil_or_concat acc with rfl | ⟨t, z, rfl⟩
 ·rw [wP, NI] at h
  subst h; exact .inl rfl
 ·rw [List.concat_eq_append] at h ⊢
  rw [jz] at h
  split at h
  ·rcases NM.mp h with h | h
   ·exact .inr ⟨q, NR _ h, rfl⟩
   ·rw [NI] at h
    subst h
    exact .inr ⟨z, by simp, rfl⟩
  ·rcases NM.mp h with h | h
   ·exact .inr ⟨q, h, rfl⟩
   ·rw [NI] at h
    subst h; exact .inl rfl
structure LOk (gs : Pic) (pre : List Tri) : Prop where
 can : b6 gs
 mem : ∀ x y, eB gs x y ↔ fI pre x y
 fst : ∀ g ∈ gs, ∀ q ∈ g.2, ∃ t ∈ pre, t.1 = g.1 /\ t.2.1 = q.1
 row : ∀ g ∈ gs, ∃ t ∈ pre, t.1 = g.1
 len : gs.length <= pre.length
 lens : ∀ g ∈ gs, g.2.length <= pre.length
theorem rE (t : Tri) (x y : Int) : fI [t] x y ↔ t.1 = y /\ t.2.1 <= x /\ x <= t.2.2 := by
 rw [yw]
 constructor
 ·rintro (h | ⟨_, h, _⟩)
  ·exact h
  ·cases h
 ·exact .inl
theorem rS (q : Int × R) (x y : Int) : eB [q] x y ↔ q.1 = y /\ Mem q.2 x := by
 rw [bR]
 constructor
 ·rintro (h | h)
  ·exact h
  ·exact (fF _ _ h).elim
 ·exact .inl
theorem Dv (p : Int × Int) (x : Int) : Mem [p] x ↔ p.1 <= x /\ x <= p.2 := by
 rw [mem_cons]
 constructor
 ·rintro (h | h)
  ·exact h
  ·exact (fM _ h).elim
 ·exact .inl
theorem yA {p : Int × Int} (h : p.1 <= p.2) : gy [p] := canon_cons.mpr ⟨h, fun _ h => (by cases h), tj⟩
theorem Fu {gs : Pic} {pre : List Tri} {t : Tri} (o : LOk gs pre) (ht : t.2.1 <= t.2.2) (hb : ∀ s ∈ pre, s.1 < t.1 \/ (s.1 = t.1 /\ s.2.1 <= t.2.1)) : LOk (t5 gs t) (pre ++ [t]) := by
 have hle : ∀ g ∈ gs, g.1 <= t.1 := fun g hg => by
  obtain ⟨s, hs, e⟩ := o.row g hg
  have := hb s hs
  lia
 rcases List.eq_nil_or_concat gs with rfl | ⟨gs0, g, rfl⟩
 ·rw [E5]
  refine ⟨pcanon_cons.mpr ⟨⟨yA ht, by simp⟩, fun _ h => (by cases h), vD⟩, fun x y => ?_, fun g hg q hq => ?_, fun g hg => ?_, by simp, fun g hg => ?_⟩
  ·rw [rS, fb, <- o.mem, rE, Dv]
   exact ⟨.inr, fun h => h.elim (fun h => (fF _ _ h).elim) id⟩
  ·rw [NI] at hg
   subst hg
   rw [NI] at hq
   subst hq
   exact ⟨t, by simp, rfl, rfl⟩
  ·rw [NI] at hg
   subst hg
   exact ⟨t, by simp, rfl⟩
  ·rw [NI] at hg
   subst hg
   simp
 ·rw [List.concat_eq_append] at o hle ⊢
  rw [wq]
  have hg0 : g ∈ gs0 ++ [g] := by simp
  have cg := o.can.1 g hg0
  have pw := N7.mp o.can.2
  by_cases c : g.1 = t.1
  ·rw [NF c]
   have lo : ∀ q ∈ g.2, q.1 <= t.2.1 := fun q hq => by
    obtain ⟨s, hs, e1, e2⟩ := o.fst g hg0 q hq
    have := hb s hs
    lia
   obtain ⟨s1, s2, s3⟩ := Dj cg.1 (p := t.2) ht lo
   refine ⟨⟨fun q hq => ?_, ?_⟩, fun x y => ?_, fun g' hg q hq => ?_, fun g' hg => ?_, ?_, fun g' hg => ?_⟩
   ·rcases NM.mp hq with hq | hq
    ·exact o.can.1 q (NR _ hq)
    ·rw [NI] at hq
     subst hq
     exact ⟨s1, HW _ _⟩
   ·refine N7.mpr ⟨pw.1, List.pairwise_singleton _ _, fun a ha b hb => ?_⟩
    rw [NI] at hb
    subst hb
    exact pw.2.2 a ha g (by simp)
   ·have := o.mem x y
    rw [gm, rS] at this
    rw [gm, rS, fb, <- this, rE]
    dsimp only
    rw [s2 x]
    constructor
    ·rintro (h | ⟨h1, h2 | h2⟩)
     ·exact .inl (.inl h)
     ·exact .inl (.inr ⟨h1, h2⟩)
     ·exact .inr ⟨c.symm.trans h1, h2⟩
    ·rintro ((h | ⟨h1, h2⟩) | ⟨h1, h2⟩)
     ·exact .inl h
     ·exact .inr ⟨h1, .inl h2⟩
     ·exact .inr ⟨c.trans h1, .inr h2⟩
   ·rcases NM.mp hg with hg | hg
    ·obtain ⟨s, hs, e⟩ := o.fst g' (NR _ hg) q hq
     exact ⟨s, NR _ hs, e⟩
    ·rw [NI] at hg
     subst hg
     rcases AZ hq with e | ⟨q', hq', e⟩
     ·exact ⟨t, by simp, c.symm, e.symm⟩
     ·obtain ⟨s, hs, e1, e2⟩ := o.fst g hg0 q' hq'
      exact ⟨s, NR _ hs, e1, e2.trans e⟩
   ·rcases NM.mp hg with hg | hg
    ·obtain ⟨s, hs, e⟩ := o.row g' (NR _ hg)
     exact ⟨s, NR _ hs, e⟩
    ·rw [NI] at hg
     subst hg
     exact ⟨t, by simp, c.symm⟩
   ·have := o.len
    rw [NO] at this ⊢
    rw [NO]
    simp at this ⊢
    lia
   ·rw [NO, Oi]
    rcases NM.mp hg with hg | hg
    ·have := o.lens g' (NR _ hg)
     lia
    ·rw [NI] at hg
     subst hg
     have := o.lens g hg0
     have := z9 g.2 t.2
     dsimp only
     lia
  ·rw [NG c]
   have hlt : ∀ a ∈ gs0 ++ [g], a.1 < t.1 := fun a ha => by
    have h1 := hle g hg0
    rcases NM.mp ha with ha | ha
    ·have := pw.2.2 a ha g (by simp)
     lia
    ·rw [NI] at ha
     subst ha
     lia
   refine ⟨⟨fun q hq => ?_, ?_⟩, fun x y => ?_, fun g' hg q hq => ?_, fun g' hg => ?_, ?_, fun g' hg => ?_⟩
   ·rcases NM.mp hq with hq | hq
    ·exact o.can.1 q hq
    ·rw [NI] at hq
     subst hq
     exact ⟨yA ht, by simp⟩
   ·refine N7.mpr ⟨o.can.2, List.pairwise_singleton _ _, fun a ha b hb => ?_⟩
    rw [NI] at hb
    subst hb
    exact hlt a ha
   ·rw [gm, o.mem, rS, fb, rE, Dv]
   ·rcases NM.mp hg with hg | hg
    ·obtain ⟨s, hs, e⟩ := o.fst g' hg q hq
     exact ⟨s, NR _ hs, e⟩
    ·rw [NI] at hg
     subst hg
     rw [NI] at hq
     subst hq
     exact ⟨t, by simp, rfl, rfl⟩
   ·rcases NM.mp hg with hg | hg
    ·obtain ⟨s, hs, e⟩ := o.row g' hg
     exact ⟨s, NR _ hs, e⟩
    ·rw [NI] at hg
     subst hg
     exact ⟨t, by simp, rfl⟩
   ·have := o.len
    rw [NO, NO (bs := [t])]
    simp at this ⊢
    lia
   ·rw [NO, Oi]
    rcases NM.mp hg with hg | hg
    ·have := o.lens g' hg
     lia
    ·rw [NI] at hg
     subst hg
     simp
theorem C2 : ∀ (post pre : List Tri), (∀ t ∈ pre ++ post, t.2.1 <= t.2.2) -> (pre ++ post).Pairwise (fun p q => p.1 < q.1 \/ (p.1 = q.1 /\ p.2.1 <= q.2.1)) -> LOk (wl pre) pre -> LOk (wl (pre ++ post)) (pre ++ post)
 | [], pre, _, _, o => by rw [Ol]; exact o
 | t :: post, pre, h1, h2, o => by
  have e : pre ++ t :: post = (pre ++ [t]) ++ post := by simp
  rw [e] at h1 h2 ⊢
  refine C2 post (pre ++ [t]) h1 h2 ?_
  rw [yF]
  refine Fu o (h1 t (by simp)) fun s hs => ?_
  exact (N7.mp (N7.mp h2).1).2.2 s hs t (by simp)
theorem HD : LOk (wl []) [] := ⟨vD, fun x y => ⟨fun h => (fF _ _ h).elim, fun ⟨_, h, _⟩ => (by cases h)⟩, fun _ h => (by cases h), fun _ h => (by cases h), NK _, fun _ h => (by cases h)⟩
theorem nk {ts pre post : List Tri} (hg : ∀ t ∈ ts, t.2.1 <= t.2.2) (e : cI ts = pre ++ post) : LOk (wl pre) pre := by
 have h1 : ∀ t ∈ pre ++ post, t.2.1 <= t.2.2 := fun t ht => hg t ((dq ts).mem_iff.mp (by rw [e]; exact ht))
 have h2 := ES ts
 rw [e] at h2
 exact C2 pre [] (fun t ht => h1 t (NR _ ht)) (N7.mp h2).1 HD
theorem F7 {ts : List Tri} (hg : ∀ t ∈ ts, t.2.1 <= t.2.2) : wl (cI ts) = dc ts := by
 have o := nk hg (pre := cI ts) (post := []) (by simp)
 exact (wB o.can fun x y => by rw [o.mem, xO (dq ts)]).symm
theorem sC (s0 : Sl) (gs : Pic) (t : Tri) (v5 : Sl) (h : gs.length <= 30000) (hg : ∀ g ∈ gs, g.2.length <= 30000 /\ g.2 ≠ []) : ∃ w5, d9 [s0, .ow (.lst (gs.map grO)), .sh (.int t.1), .sh (.int t.2.1), .sh (.int t.2.2), v5] = some (.nx [s0, .ow (.lst ((t5 gs t).map grO)), .sh (.int t.1), .sh (.int t.2.1), .sh (.int t.2.2), w5]) := by
 rcases List.eq_nil_or_concat gs with rfl | ⟨gs0, g, rfl⟩
 ·exact ⟨v5, by simp [d9, t5, grO]⟩
 ·rw [List.concat_eq_append] at *
  rw [wq]
  have hl : gs0.length + 1 <= 30000 := by simpa using h
  have hlim : gs0.length + 1 < LIM := kA (by lia)
  have hp : (0 : Int) < gs0.length + 1 := by lia
  obtain ⟨y, r⟩ := g
  obtain ⟨hr1, hr2⟩ := hg (y, r) (by simp)
  dsimp only at hr1 hr2 ⊢
  rcases List.eq_nil_or_concat r with rfl | ⟨r0, q, rfl⟩
  ·exact absurd rfl hr2
  ·rw [List.concat_eq_append] at *
   have hr3 : r0.length + 1 <= 30000 := by simpa using hr1
   have hr4 : r0.length + 1 < LIM := kA (by lia)
   have hr5 : r0.length < LIM := kA (by lia)
   by_cases hc : y = t.1
   ·rw [NF hc, jz]
    by_cases hd : t.2.1 <= q.2 + 1
    ·rw [NF hd]
     exact ⟨.sh (prD q), by simp [d9, hc, hd, hp, hr5, grO]⟩
    ·rw [NG hd]
     exact ⟨v5, by simp [d9, hc, hd, hp, hr4, grO]⟩
   ·rw [NG hc]
    exact ⟨v5, by simp [d9, hc, hp, hlim, grO]⟩
theorem o9 (ts : List Tri) (hg : ∀ t ∈ ts, t.2.1 <= t.2.2) (h : ts.length < 30000) : bG [.lst (ts.map aC)] = some (bA (dc ts)) := by
 have hs := (dq ts).length_eq
 have key : ∃ ρ', gr (b9 (au (ag 2) (au (ag 3) (au (ag 4) bV)))) d9 ((cI ts).map aC) [.sh (.lst (ts.map aC)), .ow (.lst []), .un, .un, .un, .un] = some (.nx ρ') /\ ∃ va vb vc vd, ρ' = [.sh (.lst (ts.map aC)), .ow (.lst ((wl (cI ts)).map grO)), va, vb, vc, vd] := by
  refine dN aC (fun pre ρ => ∃ va vb vc vd, ρ = [.sh (.lst (ts.map aC)), .ow (.lst ((wl pre).map grO)), va, vb, vc, vd]) _ _ ⟨_, _, _, _, rfl⟩ ?_
  rintro pre t post _ e ⟨va, vb, vc, vd, rfl⟩
  have hp : pre.length <= 30000 := by
   have := congrArg List.length e
   rw [NO] at this
   lia
  have o := nk hg e
  obtain ⟨w5, hw⟩ := sC (.sh (.lst (ts.map aC))) (wl pre) t vd (by have := o.len; lia) fun g hg => ⟨by have := o.lens g hg; lia, (o.can.1 g hg).2⟩
  exact ⟨_, _, rfl, .inl hw, .sh (.int t.1), .sh (.int t.2.1), .sh (.int t.2.2), w5, by rw [yF]⟩
 obtain ⟨ρ', k1, va, vb, vc, vd, rfl⟩ := key
 have o := nk hg (pre := cI ts) (post := []) (by simp)
 rw [F7 hg] at k1 o
 have hb := lZ ts h
 have hl : ts.length <= LIM := bx (by lia)
 have hl2 : (dc ts).length <= LIM := bx (by have := o.len; lia)
 have c2 : dW (b9 (au (ag 0) (au (ag 1) bV))) gq (cj (ad (ap 0) (ad (xCB gF (ad (am 1) ao)) ao))) [.un, .un] ((dc ts).map grD) = some ((dc ts).map pyD) := by
  rw [cM grD (fun g => pyD g)]
  intro g hg'
  have hl3 : g.2.length <= LIM := bx (by have := o.lens g hg'; lia)
  simp [iZ, grD, hl3]
 simp [bG, nL, fnO, pI, hl, hb, k1, frz, GE, hl2, c2]
theorem wn (r : R) (by' : Int) (h : r.length <= 30000) : dX [F4 r, .int by'] = some (F4 (wD r by' by')) := by
 have hl : r.length <= LIM := bx (by lia)
 have hc : dW (b9 (au (ag 0) (au (ag 1) bV))) gq (cj (ad (xOp fJ (am 0) (am 2)) (ad (xOp fJ (am 1) (am 2)) ao))) [.un, .un, .sh (.int by')] (r.map prD) = some (r.map fun p => prD (p.1 + by', p.2 + by')) := cM prD _ r fun p _ => by simp [iZ]
 simp [dX, lJ, fnO, mV, hl, hc, wD]
noncomputable def mvP (p : Pic) (dx dy : Int) : Pic := p.map fun q => (q.1 + dy, wD q.2 dx dx)
theorem CI (p : Pic) (dx dy : Int) (h : p.length <= 30000) (hr : ∀ q ∈ p, q.2.length <= 30000) : lR [bA p, .int dx, .int dy] = some (bA (mvP p dx dy)) := by
 have hl : p.length <= LIM := bx (by lia)
 have hc : dW (b9 (au (ag 0) (au (ag 1) bV))) gq (cj (ad (xOp fJ (am 0) (am 2)) (ad (aP dX (ad (ap 1) (ad (ap 3) ao))) ao))) [.un, .un, .sh (.int dy), .sh (.int dx)] (p.map pyD) = some (p.map fun q => pyD (q.1 + dy, wD q.2 dx dx)) := cM pyD _ p fun q hq => by
  have := wn q.2 dx (hr q hq)
  simp [iZ, this]
 simp [lR, vN, fnO, yV, hl, hc, mvP]
theorem GX (r : R) (d x : Int) : Mem (wD r d d) x ↔ Mem r (x - d) := by
 rw [DQ]
 constructor
 ·rintro ⟨p, hp, h1, h2⟩; exact ⟨p, hp, by lia, by lia⟩
 ·rintro ⟨p, hp, h1, h2⟩; exact ⟨p, hp, by lia, by lia⟩
theorem Ii (p : Pic) (dx dy x y : Int) : eB (mvP p dx dy) x y ↔ eB p (x - dx) (y - dy) := by
 constructor
 ·rintro ⟨q, hq, h1, h2⟩
  obtain ⟨s, hs, rfl⟩ := NY.mp hq
  dsimp only at h1 h2
  exact ⟨s, hs, by lia, (GX _ _ _).mp h2⟩
 ·rintro ⟨s, hs, h1, h2⟩
  exact ⟨_, NY.mpr ⟨s, hs, rfl⟩, by dsimp only; lia, (GX _ _ _).mpr h2⟩
noncomputable abbrev Blk := Int × Int × Int × Int
noncomputable abbrev ij (b : Blk) : D := .tup [.int b.1, .int b.2.1, .int b.2.2.1, .int b.2.2.2]
def nr (b : Blk) (dx dy : Int) : Prop := b.1 <= dx /\ dx <= b.2.2.1 /\ b.2.1 <= dy /\ dy <= b.2.2.2
def BOk (b : Blk) : Prop := b.1 <= b.2.2.1 /\ b.2.1 <= b.2.2.2
theorem Jq (p : Pic) (dx dy : Int) : (ar (mvP p dx dy)).length = (ar p).length := by
 unfold mvP ar
 rw [List.length_flatMap, List.length_flatMap, Oa]
 congr 1
 apply List.map_congr_left
 intro q _
 simp [wD]
theorem n5 (ts : List Tri) : (ar (dc ts)).length <= ts.length := by
 have o := nu ts
 have h1 : ∀ gs : Pic, (ar (gs.map fun g => (g.1, pd g.2))).length <= (gs.map fun g => g.2.length).sum := by
  intro gs
  induction gs with
  | nil => simp [ar]
  | cons g gs ih =>
   have := EL g.2
   rw [N1, ku, NO, NT, N1, List.sum_cons]
   dsimp only
   lia
 have h2 := h1 (fH (cI (ts.filter dZ)))
 have h3 := o.len
 have h4 := (dq (ts.filter dZ)).length_eq
 have h5 := List.length_filter_le dZ ts
 have h6 : ar (dc ts) = ar ((fH (cI (ts.filter dZ))).map fun g => (g.1, pd g.2)) := rfl
 rw [h6]
 lia
theorem Hz {p : Pic} (c : b6 p) : p.length <= (ar p).length := by
 induction p with
 | nil => exact NK _
 | cons q p ih =>
  obtain ⟨⟨_, h1⟩, _, h2⟩ := pcanon_cons.mp c
  have := ih h2
  have := List.length_pos_iff.mpr h1
  rw [ku, NO, NT, NV]
  lia
theorem yW {p : Pic} (c : b6 p) : ∀ t ∈ ar p, t.2.1 <= t.2.2 := by
 intro t ht
 obtain ⟨q, hq, h⟩ := List.mem_flatMap.mp ht
 obtain ⟨s, hs, rfl⟩ := NY.mp h
 exact (c.1 q hq).1.1 s hs
noncomputable def joP (p q : Pic) : Pic := dc (ar p ++ ar q)
theorem ED (p q : Pic) : b6 (joP p q) := (fG _).1
theorem Ic (p q : Pic) (x y : Int) : eB (joP p q) x y ↔ eB p x y \/ eB q x y := by
 unfold joP
 rw [(fG _).2, fb, lh, lh]
theorem D7 (p q : Pic) (h : (ar p).length + (ar q).length < 30000) : pR [bA p, bA q] = some (bA (joP p q)) := by
 have h1 := c7 p (by lia)
 have h2 := c7 q (by lia)
 have hl : (ar p).length + (ar q).length <= LIM := bx (by lia)
 have hm := iW (ar p ++ ar q) (by rw [NO]; exact h)
 rw [OJ] at hm
 simp [pR, yQ, fnO, BK, h1, h2, GV, hl, hm, joP]
theorem Jt (p q : Pic) : (ar (joP p q)).length <= (ar p).length + (ar q).length := by
 have := n5 (ar p ++ ar q)
 rwa [NO] at this
theorem su (p : Pic) (c : b6 p) (n : Nat) (hs : (2 * n + 1) * (ar p).length <= 10000) : ∃ q : Pic, cH [bA p, .int (n : Int)] = some (bA q) /\ b6 q /\ (ar q).length <= (2 * n + 1) * (ar p).length /\ ∀ x y, eB q x y ↔ ∃ j : Int, 0 <= j /\ j <= n /\ eB p x (y - j) := by
 obtain ⟨ρ', k1, q, v2, v3, rfl, a1, a3, a4⟩ := BB (c := fK) (m := iU)
  (fun ρ => ∃ (q : Pic) (k : Nat) (v3 : Sl), ρ = [.sh (bA q), .sh (.int (n : Int)), .sh (.int (k : Int)), v3] /\ k <= n /\ b6 q /\ ((ar q).length <= (k + 1) * (ar p).length \/ (k = n /\ (ar q).length <= (2 * n + 1) * (ar p).length)) /\ ∀ x y, eB q x y ↔ ∃ j : Int, 0 <= j /\ j <= k /\ eB p x (y - j))
  (fun ρ => match ρ with | [_, .sh (.int n), .sh (.int k), _] => (n - k).toNat | _ => 0)
  (fun ρ => ∃ (q : Pic) (v2 v3 : Sl), ρ = [.sh (bA q), .sh (.int (n : Int)), v2, v3] /\ b6 q /\ (ar q).length <= (2 * n + 1) * (ar p).length /\ ∀ x y, eB q x y ↔ ∃ j : Int, 0 <= j /\ j <= n /\ eB p x (y - j))
  (by
   rintro _ ⟨q, k, v3, rfl, hk, c', hsz, hm⟩
   by_cases hc : k < n
   ·right
    have hc' : (k : Int) < n := by lia
    refine ⟨by simp [fK, hc'], ?_⟩
    have hsz' : (ar q).length <= (k + 1) * (ar p).length := hsz.elim id fun h => by lia
    generalize hst : (if (n : Int) - k < (k : Int) + 1 then (n : Int) - k else (k : Int) + 1) = st
    have hst1 : 1 <= st /\ st <= k + 1 /\ st <= n - k /\ (st = k + 1 \/ st = n - k) := by rw [<- hst]; split <;> lia
    have e1 : (k + 1) * (ar p).length <= (2 * n + 1) * (ar p).length := Nat.mul_le_mul_right _ (by lia)
    have lq : (ar q).length <= 10000 := by lia
    have rq := Hz c'
    have mv := CI q 0 st (by lia) fun z hz => by have := xp hz; lia
    have smv := Jq q 0 st
    have jo := D7 q (mvP q 0 st) (by lia)
    have sjo := Jt q (mvP q 0 st)
    have ek : (((k + st.toNat : Nat)) : Int) = (k : Int) + st := by lia
    refine ⟨[.sh (bA (joP q (mvP q 0 st))), .sh (.int (n : Int)), .sh (.int ((k + st.toNat : Nat) : Int)), .sh (.int st)], ?_, ⟨joP q (mvP q 0 st), k + st.toNat, _, rfl, by lia, ED _ _, ?_, fun x y => ?_⟩, by dsimp only; lia⟩
    ·rw [ek]
     simp [iU, hst, mv, jo]
    ·rcases hst1.2.2.2 with e | e
     ·left
      have e2 : (k + st.toNat + 1) * (ar p).length = (k + 1) * (ar p).length + (k + 1) * (ar p).length := by
       rw [<- Nat.add_mul]
       congr 1
       lia
      lia
     ·right
      have e2 : (k + 1) * (ar p).length + (k + 1) * (ar p).length <= (2 * n + 1) * (ar p).length := by
       rw [<- Nat.add_mul]
       exact Nat.mul_le_mul_right _ (by lia)
      exact ⟨by lia, by lia⟩
    ·rw [Ic, Ii, hm, hm, show x - 0 = x by lia]
     constructor
     ·rintro (⟨j, j0, j1, g⟩ | ⟨j, j0, j1, g⟩)
      ·exact ⟨j, j0, by lia, g⟩
      ·exact ⟨st + j, by lia, by lia, by rwa [show y - (st + j) = y - st - j by lia]⟩
     ·rintro ⟨j, j0, j1, g⟩
      by_cases hj : j <= k
      ·exact .inl ⟨j, j0, hj, g⟩
      ·exact .inr ⟨j - st, by lia, by lia, by rwa [show y - st - (j - st) = y - j by lia]⟩
   ·left
    have ek : k = n := by lia
    subst ek
    refine ⟨by simp [fK], q, _, _, rfl, c', ?_, hm⟩
    rcases hsz with h | h
    ·have : (k + 1) * (ar p).length <= (2 * k + 1) * (ar p).length := Nat.mul_le_mul_right _ (by lia)
     lia
    ·exact h.2)
  [.sh (bA p), .sh (.int (n : Int)), .sh (.int 0), .un] ⟨p, 0, .un, rfl, by lia, c, .inl (by lia), fun x y => ⟨fun h => ⟨0, by lia, by lia, by rwa [show y - 0 = y by lia]⟩, fun ⟨j, j0, j1, h⟩ => by rwa [show y - j = y by lia] at h⟩⟩
 exact ⟨q, by simp [cH, jP, fnO, kO, k1], a1, a3, a4⟩
noncomputable def f9 (b : Blk) (t : Tri) : Tri := (t.1 + b.2.1, t.2.1 + b.1, t.2.2 + b.2.2.1)
theorem vY {p : Pic} (c : b6 p) {b : Blk} (hb : b.1 <= b.2.2.1) (x y : Int) : fI ((ar p).map (f9 b)) x y ↔ ∃ dx, b.1 <= dx /\ dx <= b.2.2.1 /\ eB p (x - dx) (y - b.2.1) := by
 constructor
 ·rintro ⟨_, ht0, h1, h2, h3⟩
  obtain ⟨t, ht, rfl⟩ := NY.mp ht0
  have ok := yW c t ht
  simp only [f9] at h1 h2 h3
  refine ⟨max b.1 (x - t.2.2), by lia, by lia, ?_⟩
  exact (lh _ _ _).mp ⟨t, ht, by lia, by lia, by lia⟩
 ·rintro ⟨dx, d1, d2, h⟩
  obtain ⟨t, ht, h1, h2, h3⟩ := (lh _ _ _).mpr h
  exact ⟨_, NY.mpr ⟨t, ht, rfl⟩, by simp only [f9]; lia, by simp only [f9]; lia, by simp only [f9]; lia⟩
def GrB (p : Pic) (b : Blk) (x y : Int) : Prop := ∃ dx dy, nr b dx dy /\ eB p (x - dx) (y - dy)
theorem mL (p : Pic) (c : b6 p) (b : Blk) (hb : BOk b) (n : Nat) (hn : b.2.2.2 - b.2.1 = n) (hs : (2 * n + 1) * (ar p).length <= 10000) : ∃ ts : List Tri, bm [bA p, ij b] = some (.lst (ts.map aC)) /\ (∀ t ∈ ts, t.2.1 <= t.2.2) /\ ts.length <= (2 * n + 1) * (ar p).length /\ ∀ x y, fI ts x y ↔ GrB p b x y := by
 have e1 : (ar p).length <= (2 * n + 1) * (ar p).length := Nat.le_mul_of_pos_left _ (by lia)
 have hl : (ar p).length <= LIM := bx (by lia)
 have h1 := c7 p (by lia)
 have hc : dW (b9 (au (ag 0) (au (ag 1) (au (ag 2) bV)))) gq (cj (ad (xOp fJ (am 0) (xOp dIx (am 3) (xC (.int 1)))) (ad (xOp fJ (am 1) (xOp dIx (am 3) (xC (.int 0)))) (ad (xOp fJ (am 2) (xOp dIx (am 3) (xC (.int 2)))) ao)))) [.un, .un, .un, .sh (ij b)] ((ar p).map aC) = some (((ar p).map (f9 b)).map aC) := by
  rw [Oa]
  exact cM aC (aC ∘ f9 b) (ar p) fun q hq => by simp [iZ, atI, ixN, f9]
 have hw : ∀ t ∈ (ar p).map (f9 b), t.2.1 <= t.2.2 := by
  intro t ht
  obtain ⟨s, hs, rfl⟩ := NY.mp ht
  have := yW c s hs
  have := hb.1
  simp only [f9]
  lia
 by_cases h0 : b.2.1 = b.2.2.2
 ·refine ⟨(ar p).map (f9 b), ?_, hw, by rw [NT]; exact e1, fun x y => ?_⟩
  ·generalize ((ar p).map (f9 b)).map aC = zs at hc
   simp [bm, du, fnO, ei, h1, hl, hc, atI, ixN, h0]
  ·rw [vY c hb.1]
   constructor
   ·rintro ⟨dx, d1, d2, h⟩
    exact ⟨dx, b.2.1, ⟨d1, d2, by lia, by lia⟩, h⟩
   ·rintro ⟨dx, dy, ⟨d1, d2, d3, d4⟩, h⟩
    refine ⟨dx, d1, d2, ?_⟩
    rwa [show b.2.1 = dy by lia]
 ·have lw : (ar (dc ((ar p).map (f9 b)))).length <= (ar p).length := by
   have := n5 ((ar p).map (f9 b))
   rwa [NT] at this
  have e2 : (2 * n + 1) * (ar (dc ((ar p).map (f9 b)))).length <= (2 * n + 1) * (ar p).length := Nat.mul_le_mul_left _ lw
  obtain ⟨q, a1, a2, a3, a4⟩ := su (dc ((ar p).map (f9 b))) (fG _).1 n (by lia)
  have hp := iW ((ar p).map (f9 b)) (by rw [NT]; lia)
  have h2 := c7 q (by lia)
  have a1' : cH [bA (dc ((ar p).map (f9 b))), .int (b.2.2.2 - b.2.1)] = some (bA q) := by rw [hn]; exact a1
  refine ⟨ar q, ?_, yW a2, by lia, fun x y => ?_⟩
  ·generalize dc ((ar p).map (f9 b)) = w at hp a1'
   generalize ((ar p).map (f9 b)).map aC = zs at hc hp
   simp [bm, du, fnO, ei, h1, hl, hc, atI, ixN, h0, hp, a1', h2]
  ·rw [lh, a4]
   constructor
   ·rintro ⟨j, j0, j1, h⟩
    rw [(fG _).2, vY c hb.1] at h
    obtain ⟨dx, d1, d2, h⟩ := h
    exact ⟨dx, b.2.1 + j, ⟨d1, d2, by lia, by lia⟩, by rwa [show y - (b.2.1 + j) = y - j - b.2.1 by lia]⟩
   ·rintro ⟨dx, dy, ⟨d1, d2, d3, d4⟩, h⟩
    refine ⟨dy - b.2.1, by lia, by lia, ?_⟩
    rw [(fG _).2, vY c hb.1]
    exact ⟨dx, d1, d2, by rwa [show y - (dy - b.2.1) - b.2.1 = y - dy by lia]⟩
noncomputable def dS (b : Blk) : Nat := 2 * (b.2.2.2 - b.2.1).toNat + 1
noncomputable def bU (bs : List Blk) : Nat := (bs.map dS).sum
def GrP (p : Pic) (bs : List Blk) (x y : Int) : Prop := ∃ b ∈ bs, GrB p b x y
theorem gQ (as bs : List Blk) : bU (as ++ bs) = bU as + bU bs := by unfold bU; rw [OJ, List.sum_append]
theorem nI (p : Pic) (c : b6 p) (bs : List Blk) (hb : ∀ b ∈ bs, BOk b) (hs : bU bs * (ar p).length <= 10000) : ∃ q : Pic, bO [bA p, .tup (bs.map ij)] = some (bA q) /\ b6 q /\ (ar q).length <= bU bs * (ar p).length /\ ∀ x y, eB q x y ↔ GrP p bs x y := by
 obtain ⟨ρ', k1, ts, v3, rfl, b1, b2⟩ := dN (g := ag 3) (m := fv) ij (fun pre ρ => ∃ (ts : List Tri) (v3 : Sl), ρ = [.sh (bA p), .sh (.tup (bs.map ij)), .ow (.lst (ts.map (O.sh ∘ aC))), v3] /\ ts.length <= bU pre * (ar p).length /\ ∀ x y, fI ts x y ↔ GrP p pre x y) bs [.sh (bA p), .sh (.tup (bs.map ij)), .ow (.lst []), .un] ⟨[], _, rfl, by simp [bU], fun x y => ⟨fun ⟨_, h, _⟩ => (by cases h), fun ⟨_, h, _⟩ => (by cases h)⟩⟩ (by
  rintro pre b post _ e ⟨ts, v3, rfl, l1, l2⟩
  have hbb := hb b (by rw [e]; simp)
  have hh : bU pre + dS b <= bU bs := by
   rw [e, gQ]
   have : bU (b :: post) = dS b + bU post := rfl
   lia
  have hh2 : (bU pre + dS b) * (ar p).length <= bU bs * (ar p).length := Nat.mul_le_mul_right _ hh
  rw [Nat.add_mul] at hh2
  obtain ⟨us, c1, c2, c3, c4⟩ := mL p c b hbb (b.2.2.2 - b.2.1).toNat (by have := hbb.2; lia) (by show dS b * _ <= _; lia)
  have c3' : us.length <= dS b * (ar p).length := c3
  have hl : ts.length + us.length <= LIM := bx (by lia)
  refine ⟨_, [.sh (bA p), .sh (.tup (bs.map ij)), .ow (.lst ((ts ++ us).map (O.sh ∘ aC))), .sh (ij b)], rfl, .inl ?_, ts ++ us, _, rfl, ?_, fun x y => ?_⟩
  ·simp [fv, c1, hl]
  ·rw [NO, gQ, Nat.add_mul]
   have : bU [b] = dS b := by simp [bU]
   rw [this]
   lia
  ·rw [fb, l2, c4]
   unfold GrP
   simp only [NM, NI]
   constructor
   ·rintro (⟨z, hz, h⟩ | h)
    ·exact ⟨z, .inl hz, h⟩
    ·exact ⟨b, .inr rfl, h⟩
   ·rintro ⟨z, hz | rfl, h⟩
    ·exact .inl ⟨z, hz, h⟩
    ·exact .inr h)
 have hp := iW ts (by lia)
 have hl := n5 ts
 refine ⟨dc ts, ?_, (fG _).1, by lia, fun x y => by rw [(fG _).2, b2]⟩
 simp [bO, fR, fnO, gI, k1, hp, frz]
noncomputable def vP (acc : List Blk) (t : Tri) : List Blk := match acc.getLast? with
 | some l => if l.1 = t.1 /\ l.2.2.1 = t.2.1 /\ l.2.2.2 = t.2.2 - 1 then acc.dropLast ++ [(t.1, l.2.1, t.2.1, t.2.2)] else acc ++ [(t.1, t.2.2, t.2.1, t.2.2)]
 | none => [(t.1, t.2.2, t.2.1, t.2.2)]
theorem Ev (t : Tri) : vP [] t = [(t.1, t.2.2, t.2.1, t.2.2)] := rfl
theorem vK (acc : List Blk) (l : Blk) (t : Tri) : vP (acc ++ [l]) t = if l.1 = t.1 /\ l.2.2.1 = t.2.1 /\ l.2.2.2 = t.2.2 - 1 then acc ++ [(t.1, l.2.1, t.2.1, t.2.2)] else acc ++ [l] ++ [(t.1, t.2.2, t.2.1, t.2.2)] := by
 unfold vP
 rw [List.getLast?_append]
 simp
noncomputable def ub (ts : List Tri) : List Blk := ts.foldl vP []
theorem yB (pre : List Tri) (t : Tri) : ub (pre ++ [t]) = vP (ub pre) t := by unfold ub; rw [List.foldl_append]; rfl
theorem Iv (b c : Blk) : dEq false (ij b) (ij c) = some (.bl (decide (b = c))) := by
 have h : ∀ b : Blk, okD 50 (ij b) = true := fun b => by simp [okD, okDs]
 unfold dEq
 rw [NF ⟨h b, h c⟩]
 obtain ⟨b1, b2, b3, b4⟩ := b
 obtain ⟨c1, c2, c3, c4⟩ := c
 simp [eqD, eqDs, Prod.ext_iff]
 by_cases h1 : b1 = c1 <;> by_cases h2 : b2 = c2 <;> by_cases h3 : b3 = c3 <;> by_cases h4 : b4 = c4 <;> simp [h1, h2, h3, h4]
theorem Ko (l : Blk) (a b y : Int) : l = (a, l.2.1, b, y) ↔ l.1 = a /\ l.2.2.1 = b /\ l.2.2.2 = y := by
 obtain ⟨b1, b2, b3, b4⟩ := l
 simp [Prod.ext_iff]
theorem AS (s0 : Sl) (acc : List Blk) (t : Tri) (h : acc.length <= 30000) : dm [s0, owl (acc.map ij), .sh (.int t.1), .sh (.int t.2.1), .sh (.int t.2.2)] = some (.nx [s0, owl ((vP acc t).map ij), .sh (.int t.1), .sh (.int t.2.1), .sh (.int t.2.2)]) := by
 rcases List.eq_nil_or_concat acc with rfl | ⟨r, l, rfl⟩
 ·simp [dm, Ev]
 ·rw [List.concat_eq_append] at *
  rw [vK]
  have hl : r.length + 1 <= 30000 := by simpa using h
  have hlim : r.length + 1 < LIM := kA (by lia)
  have at1 : atI (r.map ij ++ [ij l]) (-1) = some (ij l) := rP _ _
  have ix1 : atI [D.int l.1, .int l.2.1, .int l.2.2.1, .int l.2.2.2] 1 = some (.int l.2.1) := by simp [atI, ixN]
  have de := Iv l (t.1, l.2.1, t.2.1, t.2.2 - 1)
  have ee := Ko l t.1 t.2.1 (t.2.2 - 1)
  by_cases hc : l.1 = t.1 /\ l.2.2.1 = t.2.1 /\ l.2.2.2 = t.2.2 - 1
  ·rw [NF hc]
   rw [OP (ee.mpr hc)] at de
   simp [dm, at1, ix1, de, Ba]
  ·rw [NG hc]
   rw [Oj fun z => hc (ee.mp z)] at de
   simp [dm, at1, ix1, de, hlim]
structure BsOk (bs : List Blk) (ts : List Tri) : Prop where
 ok : ∀ b ∈ bs, BOk b
 mem : ∀ x y, (∃ b ∈ bs, nr b x y) ↔ ∃ t ∈ ts, t.1 <= x /\ x <= t.2.1 /\ y = t.2.2
 len : bU bs + bs.length = 2 * ts.length
theorem sT (bs : List Blk) (b : Blk) (x y : Int) : (∃ c ∈ bs ++ [b], nr c x y) ↔ (∃ c ∈ bs, nr c x y) \/ nr b x y := by
 constructor
 ·rintro ⟨c, hc, h⟩
  rcases NM.mp hc with hc | hc
  ·exact .inl ⟨c, hc, h⟩
  ·rw [NI] at hc; subst hc; exact .inr h
 ·rintro (⟨c, hc, h⟩ | h)
  ·exact ⟨c, NR _ hc, h⟩
  ·exact ⟨b, NP _ (NI.mpr rfl), h⟩
theorem AJ (ts : List Tri) (t : Tri) (x y : Int) : (∃ s ∈ ts ++ [t], s.1 <= x /\ x <= s.2.1 /\ y = s.2.2) ↔ (∃ s ∈ ts, s.1 <= x /\ x <= s.2.1 /\ y = s.2.2) \/ (t.1 <= x /\ x <= t.2.1 /\ y = t.2.2) := by
 constructor
 ·rintro ⟨c, hc, h⟩
  rcases NM.mp hc with hc | hc
  ·exact .inl ⟨c, hc, h⟩
  ·rw [NI] at hc; subst hc; exact .inr h
 ·rintro (⟨c, hc, h⟩ | h)
  ·exact ⟨c, NR _ hc, h⟩
  ·exact ⟨t, NP _ (NI.mpr rfl), h⟩
theorem gf (b : Blk) : bU [b] = dS b := by simp [bU]
theorem Gi {bs : List Blk} {ts : List Tri} {t : Tri} (o : BsOk bs ts) (ht : t.1 <= t.2.1) : BsOk (vP bs t) (ts ++ [t]) := by
 have new : ∀ x y, nr (t.1, t.2.2, t.2.1, t.2.2) x y ↔ t.1 <= x /\ x <= t.2.1 /\ y = t.2.2 := fun x y => by
  unfold nr
  dsimp only
  constructor
  ·rintro ⟨h1, h2, h3, h4⟩; exact ⟨h1, h2, by lia⟩
  ·rintro ⟨h1, h2, h3⟩; exact ⟨h1, h2, by lia, by lia⟩
 have hn : dS (t.1, t.2.2, t.2.1, t.2.2) = 1 := by simp [dS]
 have app : BsOk (bs ++ [(t.1, t.2.2, t.2.1, t.2.2)]) (ts ++ [t]) := by
  refine ⟨fun b hb => ?_, fun x y => by rw [sT, AJ, o.mem, new], ?_⟩
  ·rcases NM.mp hb with hb | hb
   ·exact o.ok b hb
   ·rw [NI] at hb; subst hb; exact ⟨ht, Int.le_refl _⟩
  ·have := o.len
   rw [gQ, gf, hn, NO, NO, Oi, Oi]
   lia
 rcases List.eq_nil_or_concat bs with rfl | ⟨r, l, rfl⟩
 ·exact app
 ·rw [List.concat_eq_append] at *
  rw [vK]
  by_cases hc : l.1 = t.1 /\ l.2.2.1 = t.2.1 /\ l.2.2.2 = t.2.2 - 1
  ·rw [NF hc]
   have lo := o.ok l (by simp)
   refine ⟨fun b hb => ?_, fun x y => ?_, ?_⟩
   ·rcases NM.mp hb with hb | hb
    ·exact o.ok b (NR _ hb)
    ·rw [NI] at hb; subst hb
     have := lo.2
     exact ⟨ht, by dsimp only; lia⟩
   ·rw [AJ, <- o.mem, sT, sT, or_assoc]
    refine or_congr Iff.rfl ?_
    have := lo.2
    unfold nr
    dsimp only
    constructor
    ·rintro ⟨h1, h2, h3, h4⟩
     by_cases e : y = t.2.2
     ·exact .inr ⟨h1, h2, e⟩
     ·exact .inl ⟨by lia, by lia, h3, by lia⟩
    ·rintro (⟨h1, h2, h3, h4⟩ | ⟨h1, h2, h3⟩)
     ·exact ⟨by lia, by lia, h3, by lia⟩
     ·exact ⟨h1, h2, by lia, by lia⟩
   ·have h1 := o.len
    have h2 := lo.2
    have h3 : dS (t.1, l.2.1, t.2.1, t.2.2) = dS l + 2 := by unfold dS; dsimp only; lia
    rw [gQ, gf, NO, Oi] at h1
    rw [gQ, gf, h3, NO, NO, Oi, Oi]
    lia
  ·rw [NG hc]
   exact app
theorem Da : ∀ (post pre : List Tri), (∀ t ∈ pre ++ post, t.1 <= t.2.1) -> BsOk (ub pre) pre -> BsOk (ub (pre ++ post)) (pre ++ post)
 | [], pre, _, o => by rw [Ol]; exact o
 | t :: post, pre, h, o => by
  have e : pre ++ t :: post = (pre ++ [t]) ++ post := by simp
  rw [e] at h ⊢
  refine Da post (pre ++ [t]) h ?_
  rw [yB]
  exact Gi o (h t (by simp))
theorem AD {ts : List Tri} (h : ∀ t ∈ ts, t.1 <= t.2.1) : BsOk (ub ts) ts := by
 have := Da ts [] (by simpa using h) ⟨fun _ h => (by cases h), fun x y => ⟨fun ⟨_, h, _⟩ => (by cases h), fun ⟨_, h, _⟩ => (by cases h)⟩, rfl⟩
 simpa using this
noncomputable def fP (p : Pic) : List Blk := ub (cI ((ar p).map fun t => (t.2.1, t.2.2, t.1)))
theorem nF (p : Pic) (c : b6 p) (h : (ar p).length < 30000) : eT [bA p] = some (.tup ((fP p).map ij)) /\ (∀ b ∈ fP p, BOk b) /\ bU (fP p) <= 2 * (ar p).length /\ ∀ x y, (∃ b ∈ fP p, nr b x y) ↔ eB p x y := by
 have hperm := dq ((ar p).map fun t => (t.2.1, t.2.2, t.1))
 have hlen : (cI ((ar p).map fun t => (t.2.1, t.2.2, t.1))).length = (ar p).length := by rw [hperm.length_eq, NT]
 have hok : ∀ t ∈ cI ((ar p).map fun t => (t.2.1, t.2.2, t.1)), t.1 <= t.2.1 := by
  intro t ht
  obtain ⟨s, hs, rfl⟩ := NY.mp (hperm.mem_iff.mp ht)
  exact yW c s hs
 have o := AD hok
 have ol := o.len
 refine ⟨?_, o.ok, by have := o.len; show bU (ub _) <= _; lia, fun x y => ?_⟩
 ·obtain ⟨ρ', k1, v2, v3, v4, rfl⟩ := dN (g := b9 (au (ag 2) (au (ag 3) (au (ag 4) bV)))) (m := dm) aC (fun pre ρ => ∃ v2 v3 v4, ρ = [.sh (bA p), owl ((ub pre).map ij), v2, v3, v4]) (cI ((ar p).map fun t => (t.2.1, t.2.2, t.1))) [.sh (bA p), .ow (.lst []), .un, .un, .un] ⟨_, _, _, rfl⟩ (by
   rintro pre t post _ e ⟨v2, v3, v4, rfl⟩
   have hp : pre.length <= (ar p).length := by
    rw [<- hlen, e, NO]; lia
   have opre := AD (ts := pre) fun t ht => hok t (by rw [e]; exact NR _ ht)
   have := opre.len
   have h1 : (ub pre).length <= bU (ub pre) := by
    have : ∀ bs : List Blk, bs.length <= bU bs := by
     intro bs
     induction bs with
     | nil => exact Ov _
     | cons b bs ih =>
      have e2 : bU (b :: bs) = dS b + bU bs := rfl
      rw [e2, NV]
      unfold dS
      lia
    exact this _
   refine ⟨_, _, rfl, .inl (AS _ (ub pre) t (by lia)), .sh (.int t.1), .sh (.int t.2.1), .sh (.int t.2.2), by rw [yB]⟩)
  have h1 := c7 p (by lia)
  have hl : (ar p).length <= LIM := bx (by lia)
  have hc : dW (b9 (au (ag 0) (au (ag 1) (au (ag 2) bV)))) gq (cj (ad (ap 1) (ad (ap 2) (ad (ap 0) ao)))) [.un, .un, .un] ((ar p).map aC) = some (((ar p).map fun t => (t.2.1, t.2.2, t.1)).map aC) := by
   rw [Oa]
   exact cM aC (aC ∘ fun t => (t.2.1, t.2.2, t.1)) (ar p) fun q hq => by simp [iZ]
  have hb := lZ ((ar p).map fun t => (t.2.1, t.2.2, t.1)) (by rw [NT]; exact h)
  have k2 : gr (b9 (au (ag 2) (au (ag 3) (au (ag 4) bV)))) dm ((cI ((ar p).map fun t => (t.2.1, t.2.2, t.1))).map aC) [.sh (bA p), .ow (.lst []), .un, .un, .un] = some (.nx [.sh (bA p), owl ((fP p).map ij), v2, v3, v4]) := k1
  generalize fP p = bs at k2
  generalize (cI ((ar p).map fun t => (t.2.1, t.2.2, t.1))).map aC = zs at k2 hb
  generalize ((ar p).map fun t => (t.2.1, t.2.2, t.1)).map aC = ws at hb hc
  simp [eT, lA, fnO, ny, h1, hl, hc, hb, k2]
 ·unfold fP
  rw [o.mem, <- lh]
  constructor
  ·rintro ⟨t, ht, h1, h2, h3⟩
   obtain ⟨s, hs, rfl⟩ := NY.mp (hperm.mem_iff.mp ht)
   exact ⟨s, hs, h3.symm, h1, h2⟩
  ·rintro ⟨s, hs, h1, h2, h3⟩
   exact ⟨_, hperm.mem_iff.mpr (NY.mpr ⟨s, hs, rfl⟩), h2, h3, h1.symm⟩
noncomputable abbrev iE (bs : List Blk) : D := .tup (bs.map ij)
noncomputable abbrev eP (ps : List (List Blk)) : D := .tup (ps.map iE)
noncomputable abbrev bN (N : Str) (ps : List (List Blk)) : D := .ins N ["parts"] [eP ps]
def Gd (bs : List Blk) (x y : Int) : Prop := ∃ b ∈ bs, nr b x y
noncomputable def Off : List (List Blk) -> Int -> Int -> Prop
 | [], x, y => x = 0 /\ y = 0
 | bs :: r, x, y => ∃ u v, Gd bs u v /\ Off r (x - u) (y - v)
noncomputable def bD : List (List Blk) -> Nat
 | [] => 1
 | bs :: r => bU bs * bD r
def FOk (ps : List (List Blk)) : Prop := ∀ bs ∈ ps, bs ≠ [] /\ ∀ b ∈ bs, BOk b
theorem gM : ∀ (a b : List (List Blk)), bD (a ++ b) = bD a * bD b
 | [], b => (Nat.one_mul _).symm
 | x :: a, b => by rw [List.cons_append, bD, bD, gM a b, Nat.mul_assoc]
theorem DU {bs : List Blk} (h : bs ≠ []) : 1 <= bU bs := by
 cases bs with
 | nil => exact absurd rfl h
 | cons b bs =>
  have e : bU (b :: bs) = dS b + bU bs := rfl
  rw [e]
  unfold dS
  lia
theorem yf : ∀ {ps : List (List Blk)}, FOk ps -> 1 <= bD ps
 | [], _ => NK _
 | bs :: r, h => by
  have h1 := DU (h bs NL).1
  have h2 := yf (ps := r) fun x hx => h x (NN _ hx)
  rw [bD]
  exact Nat.mul_pos h1 h2
theorem Hy (p : Pic) (bs : List Blk) (x y : Int) : GrP p bs x y ↔ ∃ u v, Gd bs u v /\ eB p (x - u) (y - v) := by
 constructor
 ·rintro ⟨b, hb, dx, dy, h1, h2⟩
  exact ⟨dx, dy, ⟨b, hb, h1⟩, h2⟩
 ·rintro ⟨dx, dy, ⟨b, hb, h1⟩, h2⟩
  exact ⟨b, hb, dx, dy, h1, h2⟩
theorem q9 (N : Str) (hN : NS.contains N = true) (ps : List (List Blk)) (hf : FOk ps) (p : Pic) (c : b6 p) (hs : bD ps * (ar p).length <= 10000) : ∃ q : Pic, gL [bN N ps, bA p] = some (bA q) /\ b6 q /\ (ar q).length <= bD ps * (ar p).length /\ ∀ x y, eB q x y ↔ ∃ u v, Off ps u v /\ eB p (x - u) (y - v) := by
 obtain ⟨ρ', k1, q, v2, rfl, b1, b2, b3⟩ := dN (g := ag 2) (m := fg) iE (fun pre ρ => ∃ (q : Pic) (v2 : Sl), ρ = [.sh (bN N ps), .sh (bA q), v2] /\ b6 q /\ (ar q).length <= bD pre.reverse * (ar p).length /\ ∀ x y, eB q x y ↔ ∃ u v, Off pre.reverse u v /\ eB p (x - u) (y - v)) ps.reverse [.sh (bN N ps), .sh (bA p), .un] ⟨p, _, rfl, c, by simp [bD], fun x y => ⟨fun h => ⟨0, 0, ⟨rfl, rfl⟩, by simpa using h⟩, fun ⟨u, v, ⟨hu, hv⟩, h⟩ => by subst hu hv; simpa using h⟩⟩ (by
  rintro pre bs post _ e ⟨q, v2, rfl, cq, l1, l2⟩
  have e' : ps = post.reverse ++ (bs :: pre.reverse) := by
   have := congrArg List.reverse e
   rw [List.reverse_reverse] at this
   rw [this]
   simp
  have hbs := hf bs (by rw [e']; simp)
  have hpost : FOk post.reverse := fun x hx => hf x (by rw [e']; exact NR _ hx)
  have hp1 := yf hpost
  have hp2 : bD (bs :: pre.reverse) * (ar p).length <= bD ps * (ar p).length := by
   rw [e', gM]
   exact Nat.mul_le_mul_right _ (Nat.le_mul_of_pos_left _ hp1)
  have hp3 : bU bs * (ar q).length <= bD (bs :: pre.reverse) * (ar p).length := by
   rw [bD, Nat.mul_assoc]
   exact Nat.mul_le_mul_left _ l1
  obtain ⟨q', c1, c2, c3, c4⟩ := nI q cq bs hbs.2 (by lia)
  have er : (pre ++ [bs]).reverse = bs :: pre.reverse := by simp
  refine ⟨_, [.sh (bN N ps), .sh (bA q'), .sh (iE bs)], rfl, .inl ?_, q', _, rfl, c2, ?_, fun x y => ?_⟩
  ·simp [fg, c1]
  ·rw [er]
   lia
  ·rw [er, c4, Hy]
   constructor
   ·rintro ⟨u, v, h1, h2⟩
    obtain ⟨u', v', h3, h4⟩ := (l2 _ _).mp h2
    exact ⟨u + u', v + v', ⟨u, v, h1, by rwa [show u + u' - u = u' by lia, show v + v' - v = v' by lia]⟩, by rwa [show x - (u + u') = x - u - u' by lia, show y - (v + v') = y - v - v' by lia]⟩
   ·rintro ⟨u, v, ⟨u', v', h1, h3⟩, h2⟩
    exact ⟨u', v', h1, (l2 _ _).mpr ⟨u - u', v - v', h3, by rwa [show x - u' - (u - u') = x - u by lia, show y - v' - (v - v') = y - v by lia]⟩⟩)
 rw [List.reverse_reverse] at b2
 refine ⟨q, ?_, b1, b2, fun x y => by rw [b3, List.reverse_reverse]⟩
 have ef : sd NS "parts" (ap 0) [.sh (bN N ps), .sh (bA p), .un] = some (eP ps) := by
  show (if NS.contains N then y8 ["parts"] [eP ps] "parts" else none) = _
  rw [NF hN]
  rfl
 rw [List.map_reverse] at k1
 have er : xY (ad (sd NS "parts" (ap 0)) ao) [.sh (bN N ps), .sh (bA p), .un] = some (ps.map iE).reverse := by
  unfold xY ad ao
  rw [ef]
  rfl
 have ex : gz [.sh (bN N ps), .sh (bA p), .un] = some (.rt (bA q)) := by
  unfold gz
  have e1 : oA (xY (ad (sd NS "parts" (ap 0)) ao)) (ag 2) fg [.sh (bN N ps), .sh (bA p), .un] = some (.nx [.sh (bN N ps), .sh (bA q), v2]) := by
   unfold oA
   rw [er]
   exact k1
  rw [bW e1]
  rfl
 exact Gp (n := 3) (ds := [bN N ps, bA p]) ex
noncomputable def Cn : Pic := [(0, [(0, 0)])]
theorem AR (x y : Int) : eB Cn x y ↔ x = 0 /\ y = 0 := by
 constructor
 ·rintro ⟨q, hq, h1, s, hs, h2, h3⟩
  rw [Cn, NI] at hq
  subst hq
  rw [NI] at hs
  subst hs
  dsimp only at h1 h2 h3
  lia
 ·rintro ⟨rfl, rfl⟩
  exact ⟨_, NI.mpr rfl, rfl, _, NI.mpr rfl, Int.le_refl _, Int.le_refl _⟩
theorem CK : b6 Cn := by
 refine ⟨fun q hq => ?_, List.pairwise_singleton _ _⟩
 rw [Cn, NI] at hq
 subst hq
 exact ⟨⟨fun s hs => by rw [NI] at hs; subst hs; exact Int.le_refl _, List.pairwise_singleton _ _⟩, by simp⟩
theorem uS (N : Str) (hN : NS.contains N = true) (ps : List (List Blk)) (hf : FOk ps) (hs : bD ps <= 10000) : ∃ q : Pic, gE [bN N ps] = some (bA q) /\ b6 q /\ (ar q).length <= bD ps /\ ∀ x y, eB q x y ↔ Off ps x y := by
 have e1 : (ar Cn).length = 1 := rfl
 obtain ⟨q, a1, a2, a3, a4⟩ := q9 N hN ps hf Cn CK (by rw [e1]; lia)
 refine ⟨q, ?_, a2, by rw [e1] at a3; lia, fun x y => ?_⟩
 ·have ex : jj [.sh (bN N ps)] = some (.rt (bA q)) := by
   have em : vM NS "greater" gL (ap 0) (ad (xC (.tup [.tup [.int 0, .tup [.tup [.int 0, .int 0]]]])) ao) [.sh (bN N ps)] = some (bA q) := by
    show (if NS.contains N && !(["parts"] : List Str).contains "greater" then gL [bN N ps, bA Cn] else none) = _
    rw [hN, NF (by decide), a1]
   unfold jj fx
   rw [em]
   rfl
  exact Gp (n := 1) (ds := [bN N ps]) ex
 ·rw [a4]
  constructor
  ·rintro ⟨u, v, h1, h2⟩
   obtain ⟨h3, h4⟩ := (AR _ _).mp h2
   rwa [show x = u by lia, show y = v by lia]
  ·intro h
   exact ⟨x, y, h, (AR _ _).mpr ⟨by lia, by lia⟩⟩
noncomputable def tu (b c : Blk) : Blk := (b.1 + c.1, b.2.1 + c.2.1, b.2.2.1 + c.2.2.1, b.2.2.2 + c.2.2.2)
noncomputable def aE (ps : List (List Blk)) : List Blk := ps.filterMap fun bs => if bs.length = 1 then bs.head? else none
noncomputable def oq (ss : List Blk) : Blk := ss.foldr tu (0, 0, 0, 0)
noncomputable def fy (ps : List (List Blk)) : List (List Blk) := ps.filter fun bs => decide (1 < bs.length)
noncomputable def jp (ps : List (List Blk)) : List (List Blk) := [oq (aE ps)] :: fy ps
theorem A2 {b c : Blk} (hb : BOk b) (hc : BOk c) (x y : Int) : nr (tu b c) x y ↔ ∃ u v, nr b u v /\ nr c (x - u) (y - v) := by
 obtain ⟨h1, h2⟩ := hb
 obtain ⟨h3, h4⟩ := hc
 unfold nr tu
 dsimp only
 constructor
 ·rintro ⟨k1, k2, k3, k4⟩
  exact ⟨max b.1 (x - c.2.2.1), max b.2.1 (y - c.2.2.2), ⟨by lia, by lia, by lia, by lia⟩, by lia, by lia, by lia, by lia⟩
 ·rintro ⟨u, v, ⟨a1, a2, a3, a4⟩, b1, b2, b3, b4⟩
  exact ⟨by lia, by lia, by lia, by lia⟩
theorem Ht {b c : Blk} (hb : BOk b) (hc : BOk c) : BOk (tu b c) := by
 obtain ⟨h1, h2⟩ := hb
 obtain ⟨h3, h4⟩ := hc
 exact ⟨by unfold tu; dsimp only; lia, by unfold tu; dsimp only; lia⟩
theorem vf : ∀ {ss : List Blk}, (∀ b ∈ ss, BOk b) -> BOk (oq ss)
 | [], _ => ⟨Int.le_refl _, Int.le_refl _⟩
 | b :: ss, h => Ht (h b NL) (vf fun c hc => h c (NN _ hc))
theorem gu (b : Blk) (x y : Int) : Gd [b] x y ↔ nr b x y := by
 constructor
 ·rintro ⟨c, hc, h⟩
  rw [NI] at hc
  subst hc
  exact h
 ·intro h
  exact ⟨b, NI.mpr rfl, h⟩
theorem qj : ∀ (a b : List (List Blk)) (x y : Int), Off (a ++ b) x y ↔ ∃ u v, Off a u v /\ Off b (x - u) (y - v)
 | [], b, x, y => by
  constructor
  ·intro h
   exact ⟨0, 0, ⟨rfl, rfl⟩, by simpa using h⟩
  ·rintro ⟨u, v, ⟨rfl, rfl⟩, h⟩
   simpa using h
 | bs :: a, b, x, y => by
  constructor
  ·rintro ⟨u, v, h1, h2⟩
   obtain ⟨u', v', h3, h4⟩ := (qj a b _ _).mp h2
   exact ⟨u + u', v + v', ⟨u, v, h1, by rwa [show u + u' - u = u' by lia, show v + v' - v = v' by lia]⟩, by rwa [show x - (u + u') = x - u - u' by lia, show y - (v + v') = y - v - v' by lia]⟩
  ·rintro ⟨u, v, ⟨u', v', h1, h2⟩, h3⟩
   exact ⟨u', v', h1, (qj a b _ _).mpr ⟨u - u', v - v', h2, by rwa [show x - u' - (u - u') = x - u by lia, show y - v' - (v - v') = y - v by lia]⟩⟩
theorem F2 (a b : List Blk) (r : List (List Blk)) (x y : Int) : Off (a :: b :: r) x y ↔ Off (b :: a :: r) x y := by
 have key : ∀ (a b : List Blk), Off (a :: b :: r) x y -> Off (b :: a :: r) x y := by
  rintro a b ⟨u, v, h1, u', v', h2, h3⟩
  exact ⟨u', v', h2, u, v, h1, by rwa [show x - u' - u = x - u - u' by lia, show y - v' - v = y - v - v' by lia]⟩
 exact ⟨key a b, key b a⟩
theorem wE {r r' : List (List Blk)} (bs : List Blk) (h : ∀ x y, Off r x y ↔ Off r' x y) (x y : Int) : Off (bs :: r) x y ↔ Off (bs :: r') x y := by
 constructor
 ·rintro ⟨u, v, h1, h2⟩; exact ⟨u, v, h1, (h _ _).mp h2⟩
 ·rintro ⟨u, v, h1, h2⟩; exact ⟨u, v, h1, (h _ _).mpr h2⟩
theorem pi {ps : List (List Blk)} (h : FOk ps) : ∀ b ∈ aE ps, BOk b := by
 intro b hb
 obtain ⟨bs, h1, h2⟩ := List.mem_filterMap.mp hb
 split at h2
 ·exact (h bs h1).2 b (List.mem_of_mem_head? h2)
 ·cases h2
theorem CO : ∀ {ps : List (List Blk)}, FOk ps -> ∀ x y, Off (jp ps) x y ↔ Off ps x y
 | [], _, x, y => by
  constructor
  ·rintro ⟨u, v, h1, h2, h3⟩
   have h4 := (gu _ _ _).mp h1
   obtain ⟨k1, k2, k3, k4⟩ := h4
   simp only [aE, oq, List.filterMap_nil, List.foldr_nil] at k1 k2 k3 k4
   exact ⟨by lia, by lia⟩
  ·rintro ⟨rfl, rfl⟩
   exact ⟨0, 0, (gu _ _ _).mpr ⟨Int.le_refl _, Int.le_refl _, Int.le_refl _, Int.le_refl _⟩, rfl, rfl⟩
 | bs :: r, h, x, y => by
  have hr : FOk r := fun z hz => h z (NN _ hz)
  have ih := CO hr
  obtain ⟨hne, hb⟩ := h bs NL
  by_cases h1 : bs.length = 1
  ·obtain ⟨b, rfl⟩ := List.length_eq_one_iff.mp h1
   have e1 : aE ([b] :: r) = b :: aE r := by simp [aE]
   have e2 : fy ([b] :: r) = fy r := by simp [fy]
   have hbb := hb b (NI.mpr rfl)
   have ht := vf (pi hr)
   have e3 : jp ([b] :: r) = [tu b (oq (aE r))] :: fy r := by unfold jp; rw [e1, e2]; rfl
   rw [e3]
   constructor
   ·rintro ⟨u, v, k1, k2⟩
    obtain ⟨u', v', k3, k4⟩ := (A2 hbb ht u v).mp ((gu _ _ _).mp k1)
    refine ⟨u', v', (gu _ _ _).mpr k3, (ih _ _).mp ⟨u - u', v - v', (gu _ _ _).mpr k4, ?_⟩⟩
    rwa [show x - u' - (u - u') = x - u by lia, show y - v' - (v - v') = y - v by lia]
   ·rintro ⟨u, v, k1, k2⟩
    obtain ⟨u', v', k3, k4⟩ := (ih _ _).mpr k2
    refine ⟨u + u', v + v', (gu _ _ _).mpr ((A2 hbb ht _ _).mpr ⟨u, v, (gu _ _ _).mp k1, ?_⟩), ?_⟩
    ·rw [show u + u' - u = u' by lia, show v + v' - v = v' by lia]
     exact (gu _ _ _).mp k3
    ·rwa [show x - (u + u') = x - u - u' by lia, show y - (v + v') = y - v - v' by lia]
  ·have hl : 1 < bs.length := by
    have := List.length_pos_iff.mpr hne
    lia
   have e1 : aE (bs :: r) = aE r := by simp [aE, h1]
   have e2 : fy (bs :: r) = bs :: fy r := by simp [fy, hl]
   have e3 : jp (bs :: r) = [oq (aE r)] :: bs :: fy r := by unfold jp; rw [e1, e2]
   rw [e3, F2]
   exact wE bs ih x y
theorem zz {ps : List (List Blk)} (h : FOk ps) : FOk (jp ps) := by
 intro bs hbs
 rcases NQ.mp hbs with rfl | hbs
 ·exact ⟨by simp, fun b hb => by rw [NI] at hb; subst hb; exact vf (pi h)⟩
 ·exact h bs (Ou.mp hbs).1
theorem rn (ns : List Int) : EB [.lst (ns.map D.int)] = some (.int ns.sum) := by
 have : ec (ns.map D.int) = some ns := by
  induction ns with
  | nil => rfl
  | cons n ns ih => simp [ec, ih]
 simp [EB, this]
theorem EC (ss : List Blk) : oq ss = ((ss.map fun b => b.1).sum, (ss.map fun b => b.2.1).sum, (ss.map fun b => b.2.2.1).sum, (ss.map fun b => b.2.2.2).sum) := by
 induction ss with
 | nil => rfl
 | cons b ss ih =>
  show tu b (oq ss) = _
  rw [ih]
  simp [tu]
theorem Dg : ∀ ps : List (List Blk), ps.filterMap (fun bs => if 1 < bs.length then some (iE bs) else none) = (fy ps).map iE
 | [] => rfl
 | bs :: r => by
  have ih := Dg r
  unfold fy at ih ⊢
  by_cases h : 1 < bs.length <;> simp [h, ih]
theorem qQ (ps : List (List Blk)) (hl : ps.length <= 1000) : b8 [eP ps] = some (eP (jp ps)) := by
 have l1 : ps.length <= LIM := bx (by lia)
 have hs : (aE ps).length <= ps.length := List.length_filterMap_le _ _
 have l2 : (aE ps).length <= LIM := bx (by lia)
 have l3 : (fy ps).length <= ps.length := List.length_filter_le _ _
 have l4 : 1 + (fy ps).length <= LIM := bx (by lia)
 have l5 : (fy ps).length + 1 <= LIM := bx (by lia)
 have c1 : dW (ag 0) (xB (xOp (dEq false) (xCB sF (ad (am 0) ao)) (xC (.int 1)))) (xOp dIx (am 0) (xC (.int 0))) [.un] (ps.map iE) = some ((aE ps).map ij) := by
  rw [lj iE (fun bs => if bs.length = 1 then (bs.head?).map ij else none) ps fun bs _ => by
   by_cases h : bs.length = 1
   ·obtain ⟨b, rfl⟩ := List.length_eq_one_iff.mp h
    simp [iZ, atI, ixN]
   ·have h' : ¬ ((bs.length : Int) = 1) := by lia
    simp [iZ, h, h']]
  congr 1
  unfold aE
  rw [List.map_filterMap]
  congr 1
  funext bs
  by_cases h : bs.length = 1 <;> simp [h]
 have c3 : dW (ag 0) (xB (xOp dGt (xCB sF (ad (am 0) ao)) (xC (.int 1)))) (ap 0) [.un] (ps.map iE) = some ((fy ps).map iE) := by
  rw [lj iE (fun bs => if 1 < bs.length then some (iE bs) else none) ps fun bs _ => by
   by_cases h : 1 < bs.length
   ·have h' : (1 : Int) < bs.length := by lia
    simp [iZ, h, h']
   ·have h' : ¬ ((1 : Int) < bs.length) := by lia
    simp [iZ, h, h']]
  exact congrArg some (Dg ps)
 have inner : ∀ (k : Int) (f : Blk -> Int), (∀ b : Blk, atI [D.int b.1, .int b.2.1, .int b.2.2.1, .int b.2.2.2] k = some (.int (f b))) -> dW (ag 0) gq (xOp dIx (am 0) (am 1)) [.un, .sh (.int k)] ((aE ps).map ij) = some (((aE ps).map f).map D.int) := by
  intro k f hf
  rw [Oa]
  exact cM ij (D.int ∘ f) (aE ps) fun b _ => by
   have := hf b
   simp [iZ, this]
 have e4 : dH 0 4 = ([0, 1, 2, 3] : List Int).map D.int := rfl
 have tog := EC (aE ps)
 have c2 : dW (ag 0) gq (xCB EB (ad (xL (gi [none, some 0] (xIt (am 1)) (ag 0) gq (xOp dIx (am 0) (am 1)))) ao)) [.un, .sh (.lst ((aE ps).map ij))] (dH 0 4) = some [.int (oq (aE ps)).1, .int (oq (aE ps)).2.1, .int (oq (aE ps)).2.2.1, .int (oq (aE ps)).2.2.2] := by
  rw [e4, tog]
  dsimp only
  rw [cM D.int (fun k => if k = 0 then .int ((aE ps).map fun b => b.1).sum else if k = 1 then .int ((aE ps).map fun b => b.2.1).sum else if k = 2 then .int ((aE ps).map fun b => b.2.2.1).sum else .int ((aE ps).map fun b => b.2.2.2).sum) [0, 1, 2, 3] fun k hk => by
   have i0 := inner 0 (fun b => b.1) fun b => rfl
   have i1 := inner 1 (fun b => b.2.1) fun b => rfl
   have i2 := inner 2 (fun b => b.2.2.1) fun b => rfl
   have i3 := inner 3 (fun b => b.2.2.2) fun b => rfl
   have s0 := rn ((aE ps).map fun b => b.1)
   have s1 := rn ((aE ps).map fun b => b.2.1)
   have s2 := rn ((aE ps).map fun b => b.2.2.1)
   have s3 := rn ((aE ps).map fun b => b.2.2.2)
   generalize ((aE ps).map fun b => b.1).map D.int = z0 at i0 s0
   generalize ((aE ps).map fun b => b.2.1).map D.int = z1 at i1 s1
   generalize ((aE ps).map fun b => b.2.2.1).map D.int = z2 at i2 s2
   generalize ((aE ps).map fun b => b.2.2.2).map D.int = z3 at i3 s3
   simp only [NQ, List.not_mem_nil, or_false] at hk
   rcases hk with rfl | rfl | rfl | rfl
   ·simp [iZ, l2, i0, s0]
   ·simp [iZ, l2, i1, s1]
   ·simp [iZ, l2, i2, s2]
   ·simp [iZ, l2, i3, s3]]
  rfl
 have es : eP (jp ps) = .tup ([.tup [ij (oq (aE ps))]] ++ (fy ps).map iE) := rfl
 rw [es]
 have lm : ((fy ps).map iE).length = (fy ps).length := NT ..
 generalize (fy ps).map iE = ms at c3 lm
 have l6 : 1 + ms.length <= LIM := by lia
 have hr : Ew [.int 4] = some (dH 0 4) := IM (by decide)
 have lf : (dH 0 4).length <= LIM := bx (by decide)
 have lt : 4 <= LIM := bx (by decide)
 have lo : 1 <= LIM := bx (by decide)
 generalize oq (aE ps) = tb at c2
 generalize dH 0 4 = four at c2 hr lf
 generalize (aE ps).map ij = zs at c1 c2
 simp [b8, i8, fnO, jJ, c1, l1, hr, lf, c2, c3, Hb, l6, lt, lo]
def isKind (N : Str) (k : Int) : Prop := (N = "Box" /\ k = 0) \/ (N = "Cross" /\ k = 1) \/ (N = "Shape" /\ k = 2) \/ (N = "Sum" /\ k = 3)
theorem isKind.ns {N : Str} {k : Int} (h : isKind N k) : NS.contains N = true := by
 rcases h with ⟨rfl, _⟩ | ⟨rfl, _⟩ | ⟨rfl, _⟩ | ⟨rfl, _⟩ <;> decide
theorem HS (a b : List Bool) : dEq false (.lst (a.map D.bl)) (.lst (b.map D.bl)) = some (.bl (decide (a = b))) := by
 have h : ∀ l : List Bool, okD 50 (.lst (l.map D.bl)) = true := fun l => by
  rw [okD]
  exact vV l fun b _ => by simp [okD]
 have e : ∀ a b : List Bool, eqDs (a.map D.bl) (b.map D.bl) = decide (a = b) := by
  intro a
  induction a with
  | nil => intro b; cases b <;> simp [eqDs]
  | cons x a ih =>
   intro b
   cases b with
   | nil => simp [eqDs]
   | cons y b =>
    rw [N1, N1, eqDs, ih]
    cases x <;> cases y <;> simp [eqD]
 unfold dEq
 rw [NF ⟨h a, h b⟩]
 simp only [eqD, e]
 rfl
theorem Al (N : Str) (k : Int) (ps : List (List Blk)) (h : isKind N k) : kb [bN N ps, .int k] = some (.bl true) := by
 have lt : 4 <= LIM := bx (by decide)
 have hr : Ew [.int 4] = some (dH 0 4) := IM (by decide)
 have lf : (dH 0 4).length <= LIM := bx (by decide)
 have e4 : dH 0 4 = ([0, 1, 2, 3] : List Int).map D.int := rfl
 have hc : dW (ag 0) gq (xOp (dEq false) (am 1) (am 0)) [.un, .sh (.int k)] (dH 0 4) = some ((([0, 1, 2, 3] : List Int).map fun j => decide (k = j)).map D.bl) := by
  rw [e4, Oa]
  exact cM D.int (D.bl ∘ fun j => decide (k = j)) [0, 1, 2, 3] fun j _ => by simp [iZ]
 have hd := HS [decide (k = 0), decide (k = 1), decide (k = 2), decide (k = 3)] (([0, 1, 2, 3] : List Int).map fun j => decide (k = j))
 have i : ∀ (ans : List (Str × Bool)) (b : Bool) (ρ : M.Env), ans.lookup N = some b -> rp ans (ap 0) (.sh (bN N ps) :: ρ) = some (.bl b) := fun ans b ρ e => by
  show (ans.lookup N).map D.bl = _
  rw [e]
  rfl
 have i1 := fun ρ => i zU (decide (k = 0)) ρ (by rcases h with ⟨rfl, rfl⟩ | ⟨rfl, rfl⟩ | ⟨rfl, rfl⟩ | ⟨rfl, rfl⟩ <;> decide)
 have i2 := fun ρ => i qP (decide (k = 1)) ρ (by rcases h with ⟨rfl, rfl⟩ | ⟨rfl, rfl⟩ | ⟨rfl, rfl⟩ | ⟨rfl, rfl⟩ <;> decide)
 have i3 := fun ρ => i qF (decide (k = 2)) ρ (by rcases h with ⟨rfl, rfl⟩ | ⟨rfl, rfl⟩ | ⟨rfl, rfl⟩ | ⟨rfl, rfl⟩ <;> decide)
 have i4 := fun ρ => i zr (decide (k = 3)) ρ (by rcases h with ⟨rfl, rfl⟩ | ⟨rfl, rfl⟩ | ⟨rfl, rfl⟩ | ⟨rfl, rfl⟩ <;> decide)
 have i5 := fun ρ => i u9 true ρ (by rcases h with ⟨rfl, rfl⟩ | ⟨rfl, rfl⟩ | ⟨rfl, rfl⟩ | ⟨rfl, rfl⟩ <;> decide)
 generalize dH 0 4 = four at hr lf hc
 have hd' : dEq false (.lst [.bl (decide (k = 0)), .bl (decide (k = 1)), .bl (decide (k = 2)), .bl (decide (k = 3))]) (.lst ((([0, 1, 2, 3] : List Int).map fun j => decide (k = j)).map D.bl)) = some (.bl true) := by
  rw [show ([0, 1, 2, 3] : List Int).map (fun j => decide (k = j)) = [decide (k = 0), decide (k = 1), decide (k = 2), decide (k = 3)] from rfl] at hd ⊢
  rw [OP rfl] at hd
  exact hd
 generalize ((([0, 1, 2, 3] : List Int).map fun j => decide (k = j)).map D.bl) = bs at hc hd'
 simp [-rp, -decide_eq_true_eq, kb, tq, fnO, wO, lt, i1, i2, i3, i4, i5, hr, lf, hc, hd']
theorem Cp (ρ0 ρ1 ρ2 ρ3 ρ4 ρ5 : Sl) : ∀ (p : Pic) (v : Sl), (∀ q ∈ p, q.2 ≠ []) -> ∃ w, gr (ag 6) lB (p.map pyD) [ρ0, ρ1, ρ2, ρ3, ρ4, ρ5, v] = some (.nx [ρ0, ρ1, ρ2, ρ3, ρ4, ρ5, w]) := by
 intro p v hp
 obtain ⟨ρ', k1, w, rfl⟩ := dN (g := ag 6) (m := lB) pyD (fun pre ρ => ∃ w, ρ = [ρ0, ρ1, ρ2, ρ3, ρ4, ρ5, w]) p [ρ0, ρ1, ρ2, ρ3, ρ4, ρ5, v] ⟨_, rfl⟩ (by
  rintro pre q post _ e ⟨w, rfl⟩
  have hq := hp q (by rw [e]; simp)
  obtain ⟨s, r, hs⟩ := List.exists_cons_of_ne_nil hq
  refine ⟨_, [ρ0, ρ1, ρ2, ρ3, ρ4, ρ5, .sh (pyD q)], rfl, .inl ?_, _, rfl⟩
  simp [lB, sN, Hu, tyD, Eb, atI, ixN, hs])
 exact ⟨w, k1⟩
theorem gc (N : Str) (k : Int) (ps : List (List Blk)) (h : isKind N k) (hf : FOk ps) (hs : bD ps <= 10000) (ts : List Tri) (hg : ∀ t ∈ ts, t.2.1 <= t.2.2) (hl : ts.length < 30000) (hm : ∀ x y, Off ps x y ↔ fI ts x y) : aN [bN N ps, .int k, .lst (ts.map aC)] = some (.bl true) := by
 have hp := o9 ts hg hl
 obtain ⟨q, a1, a2, a3, a4⟩ := uS N h.ns ps hf hs
 have eq : dc ts = q := wB a2 fun x y => by rw [a4, hm]
 rw [eq] at hp
 have hk := Al N k ps h
 have lt : 2 <= LIM := bx (by decide)
 have em : ∀ ρ, vM NS "cells" gE (ap 0) ao (.sh (bN N ps) :: ρ) = some (bA q) := fun ρ => by
  show (if NS.contains N && !(["parts"] : List Str).contains "cells" then gE [bN N ps] else none) = _
  rw [h.ns, NF (by decide), a1]
 have de : dEq true (bA q) (bA q) = some (.bl false) := FG true (CP q)
 have turn : ∀ (v4 v5 v6 : Sl), ∃ w5 w6, kh [.sh (bN N ps), .sh (.int k), .sh (.lst (ts.map aC)), .sh (bA q), v4, v5, v6] = some (.nx [.sh (bN N ps), .sh (.int k), .sh (.lst (ts.map aC)), .sh (bA q), v4, w5, w6]) := fun v4 v5 v6 => by
  obtain ⟨w, hw⟩ := Cp (.sh (bN N ps)) (.sh (.int k)) (.sh (.lst (ts.map aC))) (.sh (bA q)) v4 (.sh (bA q)) q v6 fun s hs => (a2.1 s hs).2
  refine ⟨.sh (bA q), w, ?_⟩
  have e1 : dt (vM NS "cells" gE (ap 0) ao) (ag 5) [.sh (bN N ps), .sh (.int k), .sh (.lst (ts.map aC)), .sh (bA q), v4, v5, v6] = some (.nx [.sh (bN N ps), .sh (.int k), .sh (.lst (ts.map aC)), .sh (bA q), v4, .sh (bA q), v6]) := by
   unfold dt
   rw [em]
   rfl
  unfold kh
  rw [bW e1]
  simp [sN, Hu, tyD, Eb, de, hw]
 obtain ⟨ρ', k1, w4, w5, w6, rfl⟩ := dN (g := ag 4) (m := kh) D.int (fun pre ρ => ∃ w4 w5 w6, ρ = [.sh (bN N ps), .sh (.int k), .sh (.lst (ts.map aC)), .sh (bA q), w4, w5, w6]) [1, 2] [.sh (bN N ps), .sh (.int k), .sh (.lst (ts.map aC)), .sh (bA q), .un, .un, .un] ⟨_, _, _, rfl⟩ (by
  rintro pre j post _ e ⟨w4, w5, w6, rfl⟩
  obtain ⟨x5, x6, hx⟩ := turn (.sh (.int j)) w5 w6
  exact ⟨_, _, rfl, .inl hx, _, _, _, rfl⟩)
 have k2 : gr (ag 4) kh [.int 1, .int 2] [.sh (bN N ps), .sh (.int k), .sh (.lst (ts.map aC)), .sh (bA q), .un, .un, .un] = some (.nx [.sh (bN N ps), .sh (.int k), .sh (.lst (ts.map aC)), .sh (bA q), w4, w5, w6]) := k1
 simp [aN, sR, fnO, vx, hp, lt, k2, hk]
noncomputable def cL (a b : List Tri) : List Tri := a.flatMap fun s => b.map fun t => (s.1 + t.1, s.2.1 + t.2.1, s.2.2 + t.2.2)
theorem Gx {a b : List Tri} (ha : ∀ t ∈ a, t.2.1 <= t.2.2) (hb : ∀ t ∈ b, t.2.1 <= t.2.2) (x y : Int) : fI (cL a b) x y ↔ ∃ u v, fI a u v /\ fI b (x - u) (y - v) := by
 constructor
 ·rintro ⟨_, h0, h1, h2, h3⟩
  obtain ⟨s, hs, h⟩ := List.mem_flatMap.mp h0
  obtain ⟨t, ht, rfl⟩ := NY.mp h
  have := ha s hs
  have := hb t ht
  dsimp only at h1 h2 h3
  exact ⟨max s.2.1 (x - t.2.2), s.1, ⟨s, hs, rfl, by lia, by lia⟩, t, ht, by lia, by lia, by lia⟩
 ·rintro ⟨u, v, ⟨s, hs, h1, h2, h3⟩, t, ht, h4, h5, h6⟩
  exact ⟨_, List.mem_flatMap.mpr ⟨s, hs, NY.mpr ⟨t, ht, rfl⟩⟩, by dsimp only; lia, by dsimp only; lia, by dsimp only; lia⟩
theorem zI {a b : List Tri} (ha : ∀ t ∈ a, t.2.1 <= t.2.2) (hb : ∀ t ∈ b, t.2.1 <= t.2.2) : ∀ t ∈ cL a b, t.2.1 <= t.2.2 := by
 intro t h0
 obtain ⟨s, hs, h⟩ := List.mem_flatMap.mp h0
 obtain ⟨t, ht, rfl⟩ := NY.mp h
 have := ha s hs
 have := hb t ht
 dsimp only
 lia
theorem mP (a b : List Tri) : (cL a b).length = a.length * b.length := by
 induction a with
 | nil => simp [cL]
 | cons s a ih =>
  have e : cL (s :: a) b = (b.map fun t => (s.1 + t.1, s.2.1 + t.2.1, s.2.2 + t.2.2)) ++ cL a b := rfl
  rw [e, NO, NT, ih, NV, Nat.add_mul, Nat.one_mul, Nat.add_comm]
theorem A7 (a c b : List Tri) : cL (a ++ c) b = cL a b ++ cL c b := by unfold cL; rw [List.flatMap_append]
theorem lU (a b : List Tri) (h : a.length * b.length <= 30000) : aX [.lst (a.map aC), .lst (b.map aC)] = some (.lst ((cL a b).map aC)) := by
 obtain ⟨ρ', k1, v3, v4, v5, v6, v7, v8, rfl⟩ := dN (g := b9 (au (ag 3) (au (ag 4) (au (ag 5) bV)))) (m := nD) aC (fun pre ρ => ∃ v3 v4 v5 v6 v7 v8, ρ = [.sh (.lst (a.map aC)), .sh (.lst (b.map aC)), owl ((cL pre b).map aC), v3, v4, v5, v6, v7, v8]) a [.sh (.lst (a.map aC)), .sh (.lst (b.map aC)), .ow (.lst []), .un, .un, .un, .un, .un, .un] ⟨_, _, _, _, _, _, rfl⟩ (by
  rintro pre s post _ e ⟨v3, v4, v5, v6, v7, v8, rfl⟩
  have hlen : (pre.length + 1) * b.length <= 30000 := by
   refine N6 (Nat.mul_le_mul_right _ ?_) h
   rw [e, NO, NV]
   lia
  rw [Nat.add_mul, Nat.one_mul] at hlen
  have hpre := mP pre b
  obtain ⟨ρ', k1, v6, v7, v8, rfl⟩ := dN (g := b9 (au (ag 6) (au (ag 7) (au (ag 8) bV)))) (m := mO) aC (fun pr ρ => ∃ v6 v7 v8, ρ = [.sh (.lst (a.map aC)), .sh (.lst (b.map aC)), owl ((cL pre b ++ cL [s] pr).map aC), .sh (.int s.1), .sh (.int s.2.1), .sh (.int s.2.2), v6, v7, v8]) b [.sh (.lst (a.map aC)), .sh (.lst (b.map aC)), owl ((cL pre b).map aC), .sh (.int s.1), .sh (.int s.2.1), .sh (.int s.2.2), v6, v7, v8] ⟨v6, v7, v8, by simp [cL]⟩ (by
   rintro pr t po _ e2 ⟨v6, v7, v8, rfl⟩
   have hb2 : pr.length + 1 <= b.length := by rw [e2, NO, NV]; lia
   have hone := mP [s] pr
   have hl : (cL pre b ++ cL [s] pr).length < LIM := kA (by rw [NO, hpre, hone, Oi]; lia)
   have es : cL [s] (pr ++ [t]) = cL [s] pr ++ [(s.1 + t.1, s.2.1 + t.2.1, s.2.2 + t.2.2)] := by simp [cL]
   refine ⟨_, [.sh (.lst (a.map aC)), .sh (.lst (b.map aC)), owl ((cL pre b ++ cL [s] (pr ++ [t])).map aC), .sh (.int s.1), .sh (.int s.2.1), .sh (.int s.2.2), .sh (.int t.1), .sh (.int t.2.1), .sh (.int t.2.2)], rfl, .inl ?_, _, _, _, rfl⟩
   rw [es, <- N9]
   generalize cL pre b ++ cL [s] pr = zs at hl
   simp [mO, hl])
  refine ⟨_, [.sh (.lst (a.map aC)), .sh (.lst (b.map aC)), owl ((cL (pre ++ [s]) b).map aC), .sh (.int s.1), .sh (.int s.2.1), .sh (.int s.2.2), v6, v7, v8], rfl, .inl ?_, _, _, _, _, _, _, rfl⟩
  rw [A7]
  simp only [nD, oA, xIt, ap]
  exact k1)
 have ed : ((cL a b).map (O.sh ∘ aC)).map O.d = (cL a b).map aC := by rw [Oa]; rfl
 simp [aX, qz, fnO, sV, k1]
theorem tD (ns : List Int) (k : Nat) : ∃ v : Int, bq [.scr (ns.map D.int), .int (k : Int)] = some (.int v) := by
 by_cases h : k < ns.length
 ·have h' : (k : Int) < ns.length := by lia
  have ac : atI (ns.map D.int) (k : Int) = some (.int ns[k]) := JI (by rw [Oh, OA h]; rfl)
  exact ⟨ns[k], by simp [bq, kM, fnO, l9, h', ac]⟩
 ·have h' : ¬ (k : Int) < ns.length := by lia
  exact ⟨0, by simp [bq, kM, fnO, l9, h']⟩
theorem A8 (far : Bool) (c : Int) : ∃ t : Tri, eI [.int c, .bl far] = some (aC t) /\ t.2.1 <= t.2.2 := by
 obtain ⟨P40, hP40⟩ : ∃ P : Int, (10 : Int) ^ (40 : Int).toNat = P := ⟨_, rfl⟩
 obtain ⟨P39, hP39⟩ : ∃ P : Int, (10 : Int) ^ (39 : Int).toNat = P := ⟨_, rfl⟩
 have p40 : zn (.int 10) (.int 40) = some (.int P40) := by rw [<- hP40]; exact GP (by decide)
 have p39 : zn (.int 10) (.int 39) = some (.int P39) := by rw [<- hP39]; exact GP (by decide)
 have h40 : 0 < P40 := by rw [<- hP40]; decide
 cases far with
 | false =>
  refine ⟨(c * 48271 % 2147483647 / 37 % 5 - 2, c * 48271 % 2147483647 / 37 / 5 % 9 - 4, c * 48271 % 2147483647 / 37 / 5 % 9 - 4 + c * 48271 % 2147483647 / 37 / 45 % 4), ?_, by dsimp only; lia⟩
  simp [eI, l8, fnO, n4]
 | true =>
  refine ⟨(c * 48271 % 2147483647 / 37 % 5 - 2, c % P40 - 5 * P39, c % P40 - 5 * P39 + c * 48271 % 2147483647 / 37 / 45 % 4), ?_, by dsimp only; lia⟩
  simp [eI, l8, fnO, n4, p40, p39, h40]
theorem zw (bs : List Blk) (x y : Int) : Off [bs] x y ↔ Gd bs x y := by
 constructor
 ·rintro ⟨u, v, h1, h2, h3⟩
  rwa [show x = u by lia, show y = v by lia]
 ·intro h
  exact ⟨x, y, h, by lia, by lia⟩
noncomputable abbrev sD (l u r d : Int) : Blk := (-l, -u, r, d)
noncomputable abbrev pV (a : Int) : List Blk := [(-a, 0, a, 0), (0, -a, 0, a)]
theorem yM (l u r d : Int) (h1 : 0 <= l) (h2 : 0 <= u) (h3 : 0 <= r) (h4 : 0 <= d) : fm [.int l, .int u, .int r, .int d] = some (eP [[sD l u r d]]) := by
 have hm : ∃ m : Int, CQ [.int l, .int u, .int r, .int d] = some (.int m) /\ 0 <= m := by
  exact ⟨min l (min u (min r d)), rfl, Int.le_min.mpr ⟨h1, Int.le_min.mpr ⟨h2, Int.le_min.mpr ⟨h3, h4⟩⟩⟩⟩
 obtain ⟨m, hm, m0⟩ := hm
 have m1 : ¬ m < 0 := by lia
 simp [fm, zZ, hm, m1]
theorem Bk (a : Int) (h : 0 <= a) : iJ [.int a] = some (eP [pV a]) := by
 have h' : ¬ a < 0 := by lia
 simp [iJ, zZ, h']
theorem Bl (p : Pic) (c : b6 p) (hp : p ≠ []) (h : (ar p).length < 30000) : gK [bA p] = some (eP [fP p]) := by
 have hb := (nF p c h).1
 have de : dEq false (bA p) (.tup []) = some (.bl false) := by
  unfold dEq
  rw [NF ⟨CP p, by simp [okD, okDs]⟩]
  cases p with
  | nil => exact absurd rfl hp
  | cons q p => simp [eqD, eqDs]
 simp [gK, zZ, de, hb]
theorem tH (N M : Str) (hN : NS.contains N = true) (hM : NS.contains M = true) (ps qs : List (List Blk)) (h : ps.length + qs.length <= 1000) : dM [bN N ps, bN M qs] = some (eP (jp (ps ++ qs))) := by
 have hl : (ps.map iE).length + (qs.map iE).length <= LIM := bx (by rw [NT, NT]; lia)
 have hm := qQ (ps ++ qs) (by rw [NO]; exact h)
 have e1 : sd NS "parts" (ap 1) [.lo, .sh (bN N ps), .sh (bN M qs)] = some (eP ps) := by
  show (if NS.contains N then y8 ["parts"] [eP ps] "parts" else none) = _
  rw [NF hN]
  rfl
 have e2 : sd NS "parts" (ap 2) [.lo, .sh (bN N ps), .sh (bN M qs)] = some (eP qs) := by
  show (if NS.contains M then y8 ["parts"] [eP qs] "parts" else none) = _
  rw [NF hM]
  rfl
 have e3 : xOp fJ (sd NS "parts" (ap 1)) (sd NS "parts" (ap 2)) [.lo, .sh (bN N ps), .sh (bN M qs)] = some (eP (ps ++ qs)) := by
  unfold xOp
  rw [e1, e2]
  show fJ (eP ps) (eP qs) = _
  rw [Hb, NF hl, <- OJ]
 show aP b8 (ad (xOp fJ (sd NS "parts" (ap 1)) (sd NS "parts" (ap 2))) ao) [.lo, .sh (bN N ps), .sh (bN M qs)] = _
 unfold aP ad ao
 rw [e3]
 exact hm
theorem Gf {b c : Blk} (hb : BOk b) (hc : BOk c) : dS (tu b c) <= dS b * dS c := by
 have h1 : 1 <= dS b := by unfold dS; lia
 have h2 : dS (tu b c) + 1 = dS b + dS c := by
  obtain ⟨_, k1⟩ := hb
  obtain ⟨_, k2⟩ := hc
  unfold dS tu
  dsimp only
  lia
 have h3 : 1 <= dS c := by unfold dS; lia
 obtain ⟨m, hm⟩ : ∃ m, dS b = m + 1 := ⟨dS b - 1, by lia⟩
 obtain ⟨n, hn⟩ : ∃ n, dS c = n + 1 := ⟨dS c - 1, by lia⟩
 rw [hm, hn, Nat.add_mul, Nat.mul_add]
 lia
theorem n6 : ∀ {ps : List (List Blk)}, FOk ps -> bD (jp ps) <= bD ps
 | [], _ => by simp [jp, aE, fy, oq, bD, bU, dS]
 | bs :: r, h => by
  have hr : FOk r := fun z hz => h z (NN _ hz)
  have ih := n6 hr
  have es : bD (jp r) = dS (oq (aE r)) * bD (fy r) := by rw [jp, bD, gf]
  obtain ⟨hne, hb⟩ := h bs NL
  rw [bD]
  by_cases h1 : bs.length = 1
  ·obtain ⟨b, rfl⟩ := List.length_eq_one_iff.mp h1
   have e1 : aE ([b] :: r) = b :: aE r := by simp [aE]
   have e2 : fy ([b] :: r) = fy r := by simp [fy]
   have e3 : bD (jp ([b] :: r)) = dS (tu b (oq (aE r))) * bD (fy r) := by rw [jp, bD, gf, e1, e2]; rfl
   have := Gf (hb b (NI.mpr rfl)) (vf (pi hr))
   rw [e3, gf]
   refine N6 (Nat.mul_le_mul_right _ this) ?_
   rw [Nat.mul_assoc, <- es]
   exact Nat.mul_le_mul_left _ ih
  ·have hl : 1 < bs.length := by
    have := List.length_pos_iff.mpr hne
    lia
   have e1 : aE (bs :: r) = aE r := by simp [aE, h1]
   have e2 : fy (bs :: r) = bs :: fy r := by simp [fy, hl]
   have e3 : bD (jp (bs :: r)) = bU bs * bD (jp r) := by
    rw [es, jp, bD, gf, e1, e2, bD]
    rw [<- Nat.mul_assoc, <- Nat.mul_assoc, Nat.mul_comm (dS _) (bU bs)]
   rw [e3]
   exact Nat.mul_le_mul_left _ ih
theorem yj : ∀ (n : Nat) (i : Int), ∃ l : List Int, dH i n = l.map D.int /\ l.length = n /\ ∀ y, y ∈ l ↔ i <= y /\ y < i + n
 | 0, i => ⟨[], rfl, rfl, fun y => by simp⟩
 | n + 1, i => by
  obtain ⟨l, h1, h2, h3⟩ := yj n (i + 1)
  refine ⟨i :: l, by rw [dH, h1]; rfl, by rw [NV, h2], fun y => ?_⟩
  rw [NQ, h3]
  lia
theorem CM (lo hi : Int) (h1 : -1000 <= lo) (h2 : lo <= hi) (h3 : hi <= 1000) : ∃ l : List Int, Ew [.int lo, .int (hi + 1)] = some (l.map D.int) /\ l.length = (hi + 1 - lo).toNat /\ ∀ y, y ∈ l ↔ lo <= y /\ y <= hi := by
 obtain ⟨l, k1, k2, k3⟩ := yj (hi + 1 - lo).toNat lo
 refine ⟨l, ?_, k2, fun y => by rw [k3]; lia⟩
 rw [Kg (by lia), k1]
theorem Aw (l u r d : Int) (ys : List Int) (hy : ∀ y, y ∈ ys ↔ -u <= y /\ y <= d) (x y : Int) : Off [[sD l u r d]] x y ↔ fI (ys.map fun y => (y, -l, r)) x y := by
 rw [zw, gu]
 unfold nr fI
 dsimp only
 constructor
 ·rintro ⟨h1, h2, h3, h4⟩
  exact ⟨_, NY.mpr ⟨y, (hy y).mpr ⟨h3, h4⟩, rfl⟩, rfl, h1, h2⟩
 ·rintro ⟨t, ht, h1, h2, h3⟩
  obtain ⟨z, hz, rfl⟩ := NY.mp ht
  obtain ⟨k1, k2⟩ := (hy z).mp hz
  dsimp only at h1 h2 h3
  exact ⟨h2, h3, by lia, by lia⟩
theorem Cd (a : Int) (ha : 0 <= a) (ys : List Int) (hy : ∀ y, y ∈ ys ↔ -a <= y /\ y <= a) (x y : Int) : Off [pV a] x y ↔ fI ((ys.map fun y => (y, 0, 0)) ++ [(0, -a, a)]) x y := by
 rw [zw, fb, rE]
 unfold Gd nr
 dsimp only
 constructor
 ·rintro ⟨b, hb, h1, h2, h3, h4⟩
  simp only [NQ, List.not_mem_nil, or_false] at hb
  rcases hb with rfl | rfl
  ·dsimp only at h1 h2 h3 h4
   exact .inr ⟨by lia, h1, h2⟩
  ·dsimp only at h1 h2 h3 h4
   exact .inl ⟨_, NY.mpr ⟨y, (hy y).mpr ⟨h3, h4⟩, rfl⟩, rfl, h1, h2⟩
 ·rintro (⟨t, ht, h1, h2, h3⟩ | ⟨h1, h2, h3⟩)
  ·obtain ⟨z, hz, rfl⟩ := NY.mp ht
   obtain ⟨k1, k2⟩ := (hy z).mp hz
   dsimp only at h1 h2 h3
   exact ⟨_, .tail _ (.head _), h2, h3, by dsimp only; lia, by dsimp only; lia⟩
  ·exact ⟨_, .head _, h2, h3, by dsimp only; lia, by dsimp only; lia⟩
theorem vJ {ps qs : List (List Blk)} (hp : FOk ps) (hq : FOk qs) {a b : List Tri} (ha : ∀ t ∈ a, t.2.1 <= t.2.2) (hb : ∀ t ∈ b, t.2.1 <= t.2.2) (h1 : ∀ x y, Off ps x y ↔ fI a x y) (h2 : ∀ x y, Off qs x y ↔ fI b x y) (x y : Int) : Off (jp (ps ++ qs)) x y ↔ fI (cL a b) x y := by
 have hf : FOk (ps ++ qs) := fun z hz => (NM.mp hz).elim (hp z) (hq z)
 rw [CO hf, qj, Gx ha hb]
 constructor
 ·rintro ⟨u, v, k1, k2⟩; exact ⟨u, v, (h1 _ _).mp k1, (h2 _ _).mp k2⟩
 ·rintro ⟨u, v, k1, k2⟩; exact ⟨u, v, (h1 _ _).mpr k1, (h2 _ _).mpr k2⟩
theorem iz {ps qs : List (List Blk)} (hp : FOk ps) (hq : FOk qs) : FOk (ps ++ qs) := fun z hz => (NM.mp hz).elim (hp z) (hq z)
theorem vj {bs : List Blk} (h : bs ≠ []) (hb : ∀ b ∈ bs, BOk b) : FOk [bs] := fun z hz => by
 rw [NI] at hz
 subst hz
 exact ⟨h, hb⟩
theorem sW (bs : List Blk) : bD [bs] = bU bs := by rw [bD, bD, Nat.mul_one]
structure Asked (L U R Dn A : Int) (S bc cc : List Tri) (pB pC pS pX pY pZ : D) : Prop where
 mB : fm [.int L, .int U, .int R, .int Dn] = some pB
 mC : iJ [.int A] = some pC
 mS : ∃ q, bG [.lst (S.map aC)] = some q /\ gK [q] = some pS
 mX : dM [.ins "Box" ["parts"] [pB], .ins "Shape" ["parts"] [pS]] = some pX
 mY : dM [.ins "Shape" ["parts"] [pS], .ins "Cross" ["parts"] [pC]] = some pY
 mZ : ∃ q, fm [.int 0, .int 1, .int 1, .int 0] = some q /\ dM [.ins "Sum" ["parts"] [pX], .ins "Box" ["parts"] [q]] = some pZ
 cB : aN [.ins "Box" ["parts"] [pB], .int 0, .lst (bc.map aC)] = some (.bl true)
 cC : aN [.ins "Cross" ["parts"] [pC], .int 1, .lst (cc.map aC)] = some (.bl true)
 cS : aN [.ins "Shape" ["parts"] [pS], .int 2, .lst (S.map aC)] = some (.bl true)
 sX : aX [.lst (bc.map aC), .lst (S.map aC)] = some (.lst ((cL bc S).map aC))
 sY : aX [.lst (S.map aC), .lst (cc.map aC)] = some (.lst ((cL S cc).map aC))
 sZ : aX [.lst ((cL bc S).map aC), .lst [aC (-1, 0, 1), aC (0, 0, 1)]] = some (.lst ((cL (cL bc S) [(-1, 0, 1), (0, 0, 1)]).map aC))
 cX : aN [.ins "Sum" ["parts"] [pX], .int 3, .lst ((cL bc S).map aC)] = some (.bl true)
 cY : aN [.ins "Sum" ["parts"] [pY], .int 3, .lst ((cL S cc).map aC)] = some (.bl true)
 cZ : aN [.ins "Sum" ["parts"] [pZ], .int 3, .lst ((cL (cL bc S) [(-1, 0, 1), (0, 0, 1)]).map aC)] = some (.bl true)
theorem K2 (L U R Dn A : Int) (hL : 0 <= L) (hU : 0 <= U /\ U <= 3) (hR : 0 <= R) (hD : 0 <= Dn /\ Dn <= 2) (hA : 0 <= A /\ A <= 30) (S : List Tri) (hS : S ≠ []) (hSl : S.length <= 8) (hSg : ∀ t ∈ S, t.2.1 <= t.2.2) (ys zs : List Int) (ly : ys.length <= 6) (lz : zs.length <= 61) (hy : ∀ y, y ∈ ys ↔ -U <= y /\ y <= Dn) (hz : ∀ y, y ∈ zs ↔ -A <= y /\ y <= A) :
  ∃ pB pC pS pX pY pZ, Asked L U R Dn A S (ys.map fun y => (y, -L, R)) ((zs.map fun y => (y, 0, 0)) ++ [(0, -A, A)]) pB pC pS pX pY pZ := by
 have hp := o9 S hSg (by lia)
 obtain ⟨cp, mp⟩ := fG S
 have lp := n5 S
 obtain ⟨b1, b2, b3, b4⟩ := nF (dc S) cp (by lia)
 have hne : dc S ≠ [] := by
  intro e
  obtain ⟨t, r, hs⟩ := List.exists_cons_of_ne_nil hS
  have ht : t ∈ S := by rw [hs]; simp
  have := (mp t.2.1 t.1).mpr ⟨t, ht, rfl, Int.le_refl _, hSg t ht⟩
  rw [e] at this
  exact fF _ _ this
 have hbn : fP (dc S) ≠ [] := by
  intro e
  obtain ⟨t, r, hs⟩ := List.exists_cons_of_ne_nil hS
  have ht : t ∈ S := by rw [hs]; simp
  obtain ⟨b, hb, _⟩ := (b4 t.2.1 t.1).mpr ((mp t.2.1 t.1).mpr ⟨t, ht, rfl, Int.le_refl _, hSg t ht⟩)
  rw [e] at hb
  cases hb
 have hmS := Bl (dc S) cp hne (by lia)
 have fS : FOk [fP (dc S)] := vj hbn b2
 have oS : ∀ x y, Off [fP (dc S)] x y ↔ fI S x y := fun x y => by rw [zw, <- mp]; exact b4 x y
 generalize fP (dc S) = bs at *
 have fB : FOk [[sD L U R Dn]] := vj (by simp) fun b hb => by rw [NI] at hb; subst hb; exact ⟨by dsimp only; lia, by dsimp only; lia⟩
 have fC : FOk [pV A] := vj (by simp) fun b hb => by
  simp only [NQ, List.not_mem_nil, or_false] at hb
  rcases hb with rfl | rfl
  ·exact ⟨by dsimp only; lia, Int.le_refl _⟩
  ·exact ⟨Int.le_refl _, by dsimp only; lia⟩
 have fZ : FOk [[sD 0 1 1 0]] := vj (by simp) fun b hb => by rw [NI] at hb; subst hb; exact ⟨by decide, by decide⟩
 have nB : bD [[sD L U R Dn]] <= 11 := by rw [sW, gf]; unfold dS; dsimp only; lia
 have nC : bD [pV A] <= 122 := by
  rw [sW]
  have : bU (pV A) = dS (-A, 0, A, 0) + dS (0, -A, 0, A) := by simp [bU]
  rw [this]
  unfold dS
  dsimp only
  lia
 have nS : bD [bs] <= 16 := by rw [sW]; lia
 have nZ : bD [[sD 0 1 1 0]] = 3 := by decide
 have fX := zz (iz fB fS)
 have fY := zz (iz fS fC)
 have nX : bD (jp ([[sD L U R Dn]] ++ [bs])) <= 176 := by
  refine N6 (n6 (iz fB fS)) ?_
  rw [gM]
  exact Nat.mul_le_mul nB nS
 have nY : bD (jp ([bs] ++ [pV A])) <= 1952 := by
  refine N6 (n6 (iz fS fC)) ?_
  rw [gM]
  exact Nat.mul_le_mul nS nC
 have fZ2 := zz (iz fX fZ)
 have nZ2 : bD (jp (jp ([[sD L U R Dn]] ++ [bs]) ++ [[sD 0 1 1 0]])) <= 528 := by
  refine N6 (n6 (iz fX fZ)) ?_
  rw [gM, nZ]
  lia
 have gB : ∀ t ∈ ys.map (fun y => ((y, -L, R) : Tri)), t.2.1 <= t.2.2 := fun t ht => by obtain ⟨z, _, rfl⟩ := NY.mp ht; dsimp only; lia
 have gC : ∀ t ∈ (zs.map fun y => ((y, 0, 0) : Tri)) ++ [(0, -A, A)], t.2.1 <= t.2.2 := fun t ht => by
  rcases NM.mp ht with ht | ht
  ·obtain ⟨z, _, rfl⟩ := NY.mp ht; exact Int.le_refl _
  ·rw [NI] at ht; subst ht; dsimp only; lia
 have gZ : ∀ t ∈ ([(-1, 0, 1), (0, 0, 1)] : List Tri), t.2.1 <= t.2.2 := by decide
 have oB := Aw L U R Dn ys hy
 have oC := Cd A hA.1 zs hz
 have oZ : ∀ x y, Off [[sD 0 1 1 0]] x y ↔ fI [(-1, 0, 1), (0, 0, 1)] x y := fun x y => by
  have := Aw 0 1 1 0 [-1, 0] (fun y => by simp; lia) x y
  exact this
 generalize hbc : (ys.map fun y => ((y, -L, R) : Tri)) = bc at *
 generalize hcc : (zs.map fun y => ((y, 0, 0) : Tri)) ++ [(0, -A, A)] = cc at *
 have lb : bc.length <= 6 := by rw [<- hbc, NT]; exact ly
 have lc : cc.length <= 62 := by rw [<- hcc, NO, NT, Oi]; lia
 have oX := vJ fB fS gB hSg oB oS
 have oY := vJ fS fC hSg gC oS oC
 have gX := zI gB hSg
 have oZ2 := vJ fX fZ gX gZ oX oZ
 have m1 : bc.length * S.length <= 6 * 8 := Nat.mul_le_mul lb hSl
 have m2 : S.length * cc.length <= 8 * 62 := Nat.mul_le_mul hSl lc
 have l1 := mP bc S
 have l2 := mP S cc
 have l3 := mP (cL bc S) [(-1, 0, 1), (0, 0, 1)]
 have l4 : (cL bc S).length * 2 <= 96 := by lia
 have l3' : (cL (cL bc S) [(-1, 0, 1), (0, 0, 1)]).length = (cL bc S).length * 2 := l3
 have ls : ∀ ps : List (List Blk), (jp ps).length <= ps.length + 1 := fun ps => by
  have := List.length_filter_le (fun bs : List Blk => decide (1 < bs.length)) ps
  show (_ :: fy ps).length <= _
  rw [NV]
  unfold fy
  lia
 have lsX := ls ([[sD L U R Dn]] ++ [bs])
 rw [NO, Oi, Oi] at lsX
 refine ⟨_, _, _, _, _, _, ⟨yM L U R Dn hL hU.1 hR hD.1, Bk A hA.1, ⟨_, hp, hmS⟩, tH "Box" "Shape" (by decide) (by decide) [[sD L U R Dn]] [bs] (show 2 <= 1000 by decide), tH "Shape" "Cross" (by decide) (by decide) [bs] [pV A] (show 2 <= 1000 by decide), ⟨_, yM 0 1 1 0 (by decide) (by decide) (by decide) (by decide), tH "Sum" "Box" (by decide) (by decide) _ [[sD 0 1 1 0]] (by rw [Oi]; lia)⟩, ?_, ?_, ?_, ?_, ?_, ?_, ?_, ?_, ?_⟩⟩
 ·exact gc "Box" 0 _ (.inl ⟨rfl, rfl⟩) fB (by lia) bc gB (by lia) oB
 ·exact gc "Cross" 1 _ (.inr (.inl ⟨rfl, rfl⟩)) fC (by lia) cc gC (by lia) oC
 ·exact gc "Shape" 2 _ (.inr (.inr (.inl ⟨rfl, rfl⟩))) fS (by lia) S hSg (by lia) oS
 ·exact lU bc S (by lia)
 ·exact lU S cc (by lia)
 ·exact lU (cL bc S) [(-1, 0, 1), (0, 0, 1)] (by rw [show ([(-1, 0, 1), (0, 0, 1)] : List Tri).length = 2 from rfl]; lia)
 ·exact gc "Sum" 3 _ (.inr (.inr (.inr ⟨rfl, rfl⟩))) fX (by lia) _ gX (by lia) oX
 ·exact gc "Sum" 3 _ (.inr (.inr (.inr ⟨rfl, rfl⟩))) fY (by lia) _ (zI hSg gC) (by lia) oY
 ·exact gc "Sum" 3 _ (.inr (.inr (.inr ⟨rfl, rfl⟩))) fZ2 (by lia) _ (zI gX gZ) (by lia) oZ2
theorem KT (ns : List Int) : (jF ns (some 3) (some 11)).length <= 8 := by
 have := HK ns (some 3) (some 11)
 rw [C6 (by decide), C6 (by decide)] at this
 have e1 : (11 : Int).toNat = 11 := rfl
 have e2 : (3 : Int).toNat = 3 := rfl
 rw [e1, e2] at this
 lia
theorem Fz (sc f g2 L U R Dn A : D) (S bc cc : List Tri) (l u r d a : Int) (hL : L = .int l) (hU : U = .int u) (hR : R = .int r) (hD : Dn = .int d) (hA : A = .int a) (pB pC pS pX pY pZ : D) (h : Asked l u r d a S bc cc pB pC pS pX pY pZ) :
  (bB (dt (dr "Box" "parts" fm (ad (ap 2) (ad (ap 3) (ad (ap 4) (ad (ap 5) ao))))) (ag 10)) (bB (dt (dr "Cross" "parts" iJ (ad (ap 6) ao)) (ag 11)) (bB (dt (dr "Shape" "parts" gK (ad (aP bG (ad (ap 7) ao)) ao)) (ag 12)) (bB (xIf (xOr (mN (jm (aP aN (ad (ap 10) (ad (xC (.int 0)) (ad (ap 8) ao)))))) (xOr (mN (jm (aP aN (ad (ap 11) (ad (xC (.int 1)) (ad (ap 9) ao)))))) (mN (jm (aP aN (ad (ap 12) (ad (xC (.int 2)) (ad (ap 7) ao)))))))) (fx (xC (.bl false))) kv) (bB (dt (dr "Sum" "parts" dM (ad (ap 10) (ad (ap 12) ao))) (ag 13)) (bB (xIf (mN (jm (aP aN (ad (ap 13) (ad (xC (.int 3)) (ad (aP aX (ad (ap 8) (ad (ap 7) ao))) ao)))))) (fx (xC (.bl false))) kv) (bB (xIf (mN (jm (aP aN (ad (dr "Sum" "parts" dM (ad (ap 12) (ad (ap 11) ao))) (ad (xC (.int 3)) (ad (aP aX (ad (ap 7) (ad (ap 9) ao))) ao)))))) (fx (xC (.bl false))) kv) (bB (dt (aP aX (ad (aP aX (ad (ap 8) (ad (ap 7) ao))) (ad (xL (nh (ad (cj (ad (xUn gn (xC (.int 1))) (ad (xC (.int 0)) (ad (xC (.int 1)) ao)))) (ad (cj (ad (xC (.int 0)) (ad (xC (.int 0)) (ad (xC (.int 1)) ao)))) ao)))) ao))) (ag 14)) (fx (aP aN (ad (dr "Sum" "parts" dM (ad (ap 13) (ad (dr "Box" "parts" fm (ad (xC (.int 0)) (ad (xC (.int 1)) (ad (xC (.int 1)) (ad (xC (.int 0)) ao))))) ao))) (ad (xC (.int 3)) (ad (ap 14) ao))))))))))))) [.sh sc, .sh f, .sh L, .sh U, .sh R, .sh Dn, .sh A, .sh (.lst (S.map aC)), .sh (.lst (bc.map aC)), .sh (.lst (cc.map aC)), .un, .un, .un, .un, .un] = some (.rt (.bl true)) := by
 subst hL hU hR hD hA
 obtain ⟨mB, mC, ⟨q, mq, mS⟩, mX, mY, ⟨q2, mz1, mz2⟩, cB, cC, cS, sX, sY, sZ, cX, cY, cZ⟩ := h
 have lt : 2 <= LIM := bx (by decide)
 generalize S.map aC = SD at *
 generalize bc.map aC = BD at *
 generalize cc.map aC = CD at *
 generalize (cL bc S).map aC = XD at *
 generalize (cL S cc).map aC = YD at *
 generalize (cL (cL bc S) [(-1, 0, 1), (0, 0, 1)]).map aC = ZD at *
 generalize hFB : D.ins "Box" ["parts"] [pB] = FB at *
 generalize hFC : D.ins "Cross" ["parts"] [pC] = FC at *
 generalize hFS : D.ins "Shape" ["parts"] [pS] = FS at *
 generalize hFX : D.ins "Sum" ["parts"] [pX] = FX at *
 generalize hFY : D.ins "Sum" ["parts"] [pY] = FY at *
 generalize hFZ : D.ins "Sum" ["parts"] [pZ] = FZ at *
 generalize hFQ : D.ins "Box" ["parts"] [q2] = FQ at *
 have e1 : dr "Box" "parts" fm (ad (ap 2) (ad (ap 3) (ad (ap 4) (ad (ap 5) ao)))) [.sh sc, .sh f, .sh (.int l), .sh (.int u), .sh (.int r), .sh (.int d), .sh (.int a), .sh (.lst SD), .sh (.lst BD), .sh (.lst CD), .un, .un, .un, .un, .un] = some FB := by
  show (fm [.int l, .int u, .int r, .int d]).map (fun d => D.ins "Box" ["parts"] [d]) = _
  rw [mB, <- hFB]; rfl
 refine (bW (ρ' := [.sh sc, .sh f, .sh (.int l), .sh (.int u), .sh (.int r), .sh (.int d), .sh (.int a), .sh (.lst SD), .sh (.lst BD), .sh (.lst CD), .sh FB, .un, .un, .un, .un]) (by unfold dt; rw [e1]; rfl)).trans ?_
 have e2 : dr "Cross" "parts" iJ (ad (ap 6) ao) [.sh sc, .sh f, .sh (.int l), .sh (.int u), .sh (.int r), .sh (.int d), .sh (.int a), .sh (.lst SD), .sh (.lst BD), .sh (.lst CD), .sh FB, .un, .un, .un, .un] = some FC := by
  show (iJ [.int a]).map (fun d => D.ins "Cross" ["parts"] [d]) = _
  rw [mC, <- hFC]; rfl
 refine (bW (ρ' := [.sh sc, .sh f, .sh (.int l), .sh (.int u), .sh (.int r), .sh (.int d), .sh (.int a), .sh (.lst SD), .sh (.lst BD), .sh (.lst CD), .sh FB, .sh FC, .un, .un, .un]) (by unfold dt; rw [e2]; rfl)).trans ?_
 have e3 : dr "Shape" "parts" gK (ad (aP bG (ad (ap 7) ao)) ao) [.sh sc, .sh f, .sh (.int l), .sh (.int u), .sh (.int r), .sh (.int d), .sh (.int a), .sh (.lst SD), .sh (.lst BD), .sh (.lst CD), .sh FB, .sh FC, .un, .un, .un] = some FS := by
  show ((((bG [.lst SD]).bind fun x => some [x]).bind gK).map (fun d => D.ins "Shape" ["parts"] [d])) = _
  rw [mq]
  show (gK [q]).map (fun d => D.ins "Shape" ["parts"] [d]) = _
  rw [mS, <- hFS]; rfl
 refine (bW (ρ' := [.sh sc, .sh f, .sh (.int l), .sh (.int u), .sh (.int r), .sh (.int d), .sh (.int a), .sh (.lst SD), .sh (.lst BD), .sh (.lst CD), .sh FB, .sh FC, .sh FS, .un, .un]) (by unfold dt; rw [e3]; rfl)).trans ?_
 refine (bW (ρ' := [.sh sc, .sh f, .sh (.int l), .sh (.int u), .sh (.int r), .sh (.int d), .sh (.int a), .sh (.lst SD), .sh (.lst BD), .sh (.lst CD), .sh FB, .sh FC, .sh FS, .un, .un]) (by simp [cB, cC, cS])).trans ?_
 have e4 : dr "Sum" "parts" dM (ad (ap 10) (ad (ap 12) ao)) [.sh sc, .sh f, .sh (.int l), .sh (.int u), .sh (.int r), .sh (.int d), .sh (.int a), .sh (.lst SD), .sh (.lst BD), .sh (.lst CD), .sh FB, .sh FC, .sh FS, .un, .un] = some FX := by
  show (dM [FB, FS]).map (fun d => D.ins "Sum" ["parts"] [d]) = _
  rw [mX, <- hFX]; rfl
 refine (bW (ρ' := [.sh sc, .sh f, .sh (.int l), .sh (.int u), .sh (.int r), .sh (.int d), .sh (.int a), .sh (.lst SD), .sh (.lst BD), .sh (.lst CD), .sh FB, .sh FC, .sh FS, .sh FX, .un]) (by unfold dt; rw [e4]; rfl)).trans ?_
 refine (bW (ρ' := [.sh sc, .sh f, .sh (.int l), .sh (.int u), .sh (.int r), .sh (.int d), .sh (.int a), .sh (.lst SD), .sh (.lst BD), .sh (.lst CD), .sh FB, .sh FC, .sh FS, .sh FX, .un]) (by simp [sX, cX])).trans ?_
 have e5 : dr "Sum" "parts" dM (ad (ap 12) (ad (ap 11) ao)) [.sh sc, .sh f, .sh (.int l), .sh (.int u), .sh (.int r), .sh (.int d), .sh (.int a), .sh (.lst SD), .sh (.lst BD), .sh (.lst CD), .sh FB, .sh FC, .sh FS, .sh FX, .un] = some FY := by
  show (dM [FS, FC]).map (fun d => D.ins "Sum" ["parts"] [d]) = _
  rw [mY, <- hFY]; rfl
 have e5' : aP aN (ad (dr "Sum" "parts" dM (ad (ap 12) (ad (ap 11) ao))) (ad (xC (.int 3)) (ad (aP aX (ad (ap 7) (ad (ap 9) ao))) ao))) [.sh sc, .sh f, .sh (.int l), .sh (.int u), .sh (.int r), .sh (.int d), .sh (.int a), .sh (.lst SD), .sh (.lst BD), .sh (.lst CD), .sh FB, .sh FC, .sh FS, .sh FX, .un] = some (.bl true) := by
  have e6 : ad (xC (.int 3)) (ad (aP aX (ad (ap 7) (ad (ap 9) ao))) ao) [.sh sc, .sh f, .sh (.int l), .sh (.int u), .sh (.int r), .sh (.int d), .sh (.int a), .sh (.lst SD), .sh (.lst BD), .sh (.lst CD), .sh FB, .sh FC, .sh FS, .sh FX, .un] = some [.int 3, .lst YD] := by simp [sY]
  rw [show ∀ (m : List D -> Option D) (a : XA) (ρ : M.Env), aP m a ρ = (a ρ).bind m from fun _ _ _ => rfl]
  rw [show ∀ (x : XE) (y : XA) (ρ : M.Env), ad x y ρ = (x ρ).bind fun d => (y ρ).bind fun ds => some (d :: ds) from fun _ _ _ => rfl, e5, e6]
  exact cY
 refine (bW (ρ' := [.sh sc, .sh f, .sh (.int l), .sh (.int u), .sh (.int r), .sh (.int d), .sh (.int a), .sh (.lst SD), .sh (.lst BD), .sh (.lst CD), .sh FB, .sh FC, .sh FS, .sh FX, .un]) (by unfold xIf mN jm; rw [e5']; rfl)).trans ?_
 refine (bW (ρ' := [.sh sc, .sh f, .sh (.int l), .sh (.int u), .sh (.int r), .sh (.int d), .sh (.int a), .sh (.lst SD), .sh (.lst BD), .sh (.lst CD), .sh FB, .sh FC, .sh FS, .sh FX, .sh (.lst ZD)]) (by
  have sZ' : aX [.lst XD, .lst [.tup [.int (-1), .int 0, .int 1], .tup [.int 0, .int 0, .int 1]]] = some (.lst ZD) := sZ
  simp [sX, sZ', lt])).trans ?_
 have e7 : dr "Box" "parts" fm (ad (xC (.int 0)) (ad (xC (.int 1)) (ad (xC (.int 1)) (ad (xC (.int 0)) ao)))) [.sh sc, .sh f, .sh (.int l), .sh (.int u), .sh (.int r), .sh (.int d), .sh (.int a), .sh (.lst SD), .sh (.lst BD), .sh (.lst CD), .sh FB, .sh FC, .sh FS, .sh FX, .sh (.lst ZD)] = some FQ := by
  show (fm [.int 0, .int 1, .int 1, .int 0]).map (fun d => D.ins "Box" ["parts"] [d]) = _
  rw [mz1, <- hFQ]; rfl
 have e8 : dr "Sum" "parts" dM (ad (ap 13) (ad (dr "Box" "parts" fm (ad (xC (.int 0)) (ad (xC (.int 1)) (ad (xC (.int 1)) (ad (xC (.int 0)) ao))))) ao)) [.sh sc, .sh f, .sh (.int l), .sh (.int u), .sh (.int r), .sh (.int d), .sh (.int a), .sh (.lst SD), .sh (.lst BD), .sh (.lst CD), .sh FB, .sh FC, .sh FS, .sh FX, .sh (.lst ZD)] = some FZ := by
  show ((((some FX).bind fun d => ((dr "Box" "parts" fm (ad (xC (.int 0)) (ad (xC (.int 1)) (ad (xC (.int 1)) (ad (xC (.int 0)) ao)))) _).bind fun x => (some []).bind fun ds => some (x :: ds)).bind fun ds => some (d :: ds)).bind dM).map (fun d => D.ins "Sum" ["parts"] [d])) = _
  rw [e7]
  show (dM [FX, FQ]).map (fun d => D.ins "Sum" ["parts"] [d]) = _
  rw [mz2, <- hFZ]; rfl
 have e9 : aP aN (ad (dr "Sum" "parts" dM (ad (ap 13) (ad (dr "Box" "parts" fm (ad (xC (.int 0)) (ad (xC (.int 1)) (ad (xC (.int 1)) (ad (xC (.int 0)) ao))))) ao))) (ad (xC (.int 3)) (ad (ap 14) ao))) [.sh sc, .sh f, .sh (.int l), .sh (.int u), .sh (.int r), .sh (.int d), .sh (.int a), .sh (.lst SD), .sh (.lst BD), .sh (.lst CD), .sh FB, .sh FC, .sh FS, .sh FX, .sh (.lst ZD)] = some (.bl true) := by
  rw [show ∀ (m : List D -> Option D) (a : XA) (ρ : M.Env), aP m a ρ = (a ρ).bind m from fun _ _ _ => rfl]
  rw [show ∀ (x : XE) (y : XA) (ρ : M.Env), ad x y ρ = (x ρ).bind fun d => (y ρ).bind fun ds => some (d :: ds) from fun _ _ _ => rfl, e8]
  exact cZ
 unfold fx
 rw [e9]
 rfl
theorem GD (ns : List Int) (h : ns.length <= 63) : K1 [.scr (ns.map D.int)] = some (.bl true) := by
 obtain ⟨P, hP⟩ : ∃ P : Int, (10 : Int) ^ (40 : Int).toNat = P := ⟨_, rfl⟩
 have p40 : zn (.int 10) (.int 40) = some (.int P) := by rw [<- hP]; exact GP (by decide)
 have h40 : 0 < P := by rw [<- hP]; decide
 clear hP
 have lt : 2 <= LIM := bx (by decide)
 have lo : 1 <= LIM := bx (by decide)
 obtain ⟨f, hf⟩ := tD ns 0
 obtain ⟨g, hg⟩ := tD ns 1
 obtain ⟨c, hc⟩ := tD ns 2
 have hf' : bq [.scr (ns.map D.int), .int 0] = some (.int f) := hf
 have hg' : bq [.scr (ns.map D.int), .int 1] = some (.int g) := hg
 have hc' : bq [.scr (ns.map D.int), .int 2] = some (.int c) := hc
 clear hf hg hc
 have cm := H9 D.int ns (some 3) (some 11)
 have c8 := KT ns
 have hn : ns.length <= LIM := bx (by lia)
 obtain ⟨T, hT⟩ : ∃ T : Int -> Tri, ∀ x, eI [.int x, .bl (decide (f / 9 % 2 = 1))] = some (aC (T x)) /\ (T x).2.1 <= (T x).2.2 := ⟨fun x => (A8 _ x).choose, fun x => (A8 _ x).choose_spec⟩
 have hcomp : dW (ag 0) gq (aP eI (ad (ap 0) (ad (xOp (dEq false) (xOp mM (xOp uY (am 1) (xC (.int 9))) (xC (.int 2))) (xC (.int 1))) ao))) [.un, .sh (.int f)] ((jF ns (some 3) (some 11)).map D.int) = some (((jF ns (some 3) (some 11)).map fun x => T x).map aC) := by
  rw [Oa]
  exact cM D.int (aC ∘ fun x => T x) _ fun x _ => by
   have := (hT x).1
   simp [iZ, this]
 have tsok : ∀ t ∈ (jF ns (some 3) (some 11)).map fun x => T x, t.2.1 <= t.2.2 := fun t ht => by
  obtain ⟨x, _, rfl⟩ := NY.mp ht
  exact (hT x).2
 have tl : ((jF ns (some 3) (some 11)).map fun x => T x).length <= 8 := by rw [NT]; exact c8
 generalize (jF ns (some 3) (some 11)).map (fun x => T x) = ts at hcomp tsok tl
 have tl' : (jF ns (some 3) (some 11)).length <= LIM := bx (by lia)
 obtain ⟨S, eS, hS, lS, gS⟩ : ∃ S : List Tri, S = (if ts = [] then [(1, 2, 5)] else ts) /\ S ≠ [] /\ S.length <= 8 /\ ∀ t ∈ S, t.2.1 <= t.2.2 := by
  refine ⟨_, rfl, ?_⟩
  by_cases e : ts = []
  ·rw [NF e]
   exact ⟨by simp, by decide, by decide⟩
  ·rw [NG e]
   exact ⟨e, tl, tsok⟩
 obtain ⟨L, eL⟩ : ∃ L : Int, L = if f / 3 % 3 = 1 then f % P else f % 4 := ⟨_, rfl⟩
 have hL : 0 <= L := by
  rw [eL]
  split
  ·exact Int.emod_nonneg _ (by lia)
  ·lia
 obtain ⟨R, eR⟩ : ∃ R : Int, R = if f / 3 % 3 = 1 then g % P else g % 4 := ⟨_, rfl⟩
 have hR : 0 <= R := by
  rw [eR]
  split
  ·exact Int.emod_nonneg _ (by lia)
  ·lia
 obtain ⟨A, eA⟩ : ∃ A : Int, A = if c / 5 % 5 = 1 then 30 else c % 5 := ⟨_, rfl⟩
 have hA : 0 <= A /\ A <= 30 := by rw [eA]; split <;> lia
 obtain ⟨ys, y1, y2, y3⟩ := CM (-(f / 64 % 4)) (f / 256 % 3) (by lia) (by lia) (by lia)
 obtain ⟨zs, z1, z2, z3⟩ := CM (-A) A (by lia) (by lia) (by lia)
 obtain ⟨pB, pC, pS, pX, pY, pZ, ask⟩ := K2 L (f / 64 % 4) R (f / 256 % 3) A hL (by lia) hR (by lia) hA S hS lS gS ys zs (by lia) (by lia) y3 z3
 have cy : dW (ag 0) gq (cj (ad (ap 0) (ad (xUn gn (am 2)) (ad (ap 1) ao)))) [.un, .sh (.int R), .sh (.int L)] (ys.map D.int) = some ((ys.map fun y => ((y, -L, R) : Tri)).map aC) := by
  rw [Oa]
  exact cM D.int (aC ∘ fun y => ((y, -L, R) : Tri)) ys fun y _ => by simp [iZ]
 have cz : dW (ag 0) gq (cj (ad (ap 0) (ad (xC (.int 0)) (ad (xC (.int 0)) ao)))) [.un] (zs.map D.int) = some ((zs.map fun y => ((y, 0, 0) : Tri)).map aC) := by
  rw [Oa]
  exact cM D.int (aC ∘ fun y => ((y, 0, 0) : Tri)) zs fun y _ => by simp [iZ]
 have ly : ys.length <= LIM := bx (by lia)
 have lz : zs.length <= LIM := bx (by lia)
 have lz2 : ((zs.map fun y => ((y, 0, 0) : Tri)).map aC).length + 1 <= LIM := bx (by rw [NT, NT]; lia)
 have ecc : ((zs.map fun y => ((y, 0, 0) : Tri)) ++ [(0, -A, A)]).map aC = (zs.map fun y => ((y, 0, 0) : Tri)).map aC ++ [aC (0, -A, A)] := by rw [OJ]; rfl
 have ex : Dp [.sh (.scr (ns.map D.int)), .un, .un, .un, .un, .un, .un, .un, .un, .un, .un, .un, .un, .un, .un] = some (.rt (.bl true)) := by
  unfold Dp
  refine (bW (ρ' := [.sh (.scr (ns.map D.int)), .sh (.int f), .un, .un, .un, .un, .un, .un, .un, .un, .un, .un, .un, .un, .un]) (by simp [hf'])).trans ?_
  refine (bW (ρ' := [.sh (.scr (ns.map D.int)), .sh (.int f), .sh (.int (f % 4)), .un, .un, .un, .un, .un, .un, .un, .un, .un, .un, .un, .un]) (by simp)).trans ?_
  refine (bW (ρ' := [.sh (.scr (ns.map D.int)), .sh (.int f), .sh (.int L), .un, .un, .un, .un, .un, .un, .un, .un, .un, .un, .un, .un]) (by
   rw [eL]
   by_cases hb : f / 3 % 3 = 1 <;> simp [hb, p40, h40])).trans ?_
  refine (bW (ρ' := [.sh (.scr (ns.map D.int)), .sh (.int f), .sh (.int L), .sh (.int (f / 64 % 4)), .un, .un, .un, .un, .un, .un, .un, .un, .un, .un, .un]) (by simp)).trans ?_
  refine (bW (ρ' := [.sh (.scr (ns.map D.int)), .sh (.int f), .sh (.int L), .sh (.int (f / 64 % 4)), .sh (.int R), .un, .un, .un, .un, .un, .un, .un, .un, .un, .un]) (by
   rw [eR]
   by_cases hb : f / 3 % 3 = 1 <;> simp [hb, p40, h40, hg', lt, Aq, atI, ixN])).trans ?_
  refine (bW (ρ' := [.sh (.scr (ns.map D.int)), .sh (.int f), .sh (.int L), .sh (.int (f / 64 % 4)), .sh (.int R), .sh (.int (f / 256 % 3)), .un, .un, .un, .un, .un, .un, .un, .un, .un]) (by simp)).trans ?_
  refine (bW (ρ' := [.sh (.scr (ns.map D.int)), .sh (.int f), .sh (.int L), .sh (.int (f / 64 % 4)), .sh (.int R), .sh (.int (f / 256 % 3)), .sh (.int A), .un, .un, .un, .un, .un, .un, .un, .un]) (by
   rw [eA]
   by_cases hb : c / 5 % 5 = 1 <;> simp [hb, hc', lt, Aq, atI, ixN])).trans ?_
  refine (bW (ρ' := [.sh (.scr (ns.map D.int)), .sh (.int f), .sh (.int L), .sh (.int (f / 64 % 4)), .sh (.int R), .sh (.int (f / 256 % 3)), .sh (.int A), .sh (.lst (ts.map aC)), .un, .un, .un, .un, .un, .un, .un]) (by simp [cm, hn, tl', hcomp])).trans ?_
  refine (bW (ρ' := [.sh (.scr (ns.map D.int)), .sh (.int f), .sh (.int L), .sh (.int (f / 64 % 4)), .sh (.int R), .sh (.int (f / 256 % 3)), .sh (.int A), .sh (.lst (S.map aC)), .un, .un, .un, .un, .un, .un, .un]) (by
   rw [eS]
   by_cases e : ts = []
   ·simp [e, lo]
   ·have e' : ¬ ((ts.length : Int) = 0) := by
     have := List.length_pos_iff.mpr e
     lia
    simp [e])).trans ?_
  refine (bW (ρ' := [.sh (.scr (ns.map D.int)), .sh (.int f), .sh (.int L), .sh (.int (f / 64 % 4)), .sh (.int R), .sh (.int (f / 256 % 3)), .sh (.int A), .sh (.lst (S.map aC)), .sh (.lst ((ys.map fun y => ((y, -L, R) : Tri)).map aC)), .un, .un, .un, .un, .un, .un]) (by
   generalize (ys.map fun y => ((y, -L, R) : Tri)).map aC = w at cy
   simp [y1, ly, cy])).trans ?_
  refine (bW (ρ' := [.sh (.scr (ns.map D.int)), .sh (.int f), .sh (.int L), .sh (.int (f / 64 % 4)), .sh (.int R), .sh (.int (f / 256 % 3)), .sh (.int A), .sh (.lst (S.map aC)), .sh (.lst ((ys.map fun y => ((y, -L, R) : Tri)).map aC)), .sh (.lst (((zs.map fun y => ((y, 0, 0) : Tri)) ++ [(0, -A, A)]).map aC)), .un, .un, .un, .un, .un]) (by
   rw [ecc]
   generalize (zs.map fun y => ((y, 0, 0) : Tri)).map aC = w at cz lz2
   simp [z1, lz, cz, GV, lz2, lo])).trans ?_
  exact Fz (.scr (ns.map D.int)) (.int f) .non _ _ _ _ _ S _ _ L (f / 64 % 4) R (f / 256 % 3) A rfl rfl rfl rfl rfl pB pC pS pX pY pZ ask
 exact Gp (n := 15) (ds := [.scr (ns.map D.int)]) ex
end P
namespace Lw
open PySem L2 M P
noncomputable def top (i : Nat) : Stmt := PySem.Challenge.pw_shapethin_k31_forms_and_their_cells.main.body.getD i (.Pass ⟨0, 0, 0, 0⟩)
noncomputable abbrev jE : Stmt := top 5
noncomputable abbrev eX : Stmt := top 6
noncomputable abbrev c9 : Stmt := top 8
noncomputable abbrev cR : Stmt := top 9
noncomputable abbrev sJ : Stmt := top 10
noncomputable abbrev lK : Stmt := top 11
noncomputable abbrev eU : Stmt := top 14
noncomputable abbrev bM : Stmt := top 15
noncomputable abbrev eE : Stmt := top 16
noncomputable abbrev bF : Stmt := top 17
noncomputable abbrev cv : Stmt := top 18
noncomputable abbrev ik : Stmt := top 25
noncomputable abbrev jw : Stmt := top 26
noncomputable abbrev f7 : Stmt := top 27
noncomputable abbrev jx : Stmt := top 28
noncomputable abbrev ka : Stmt := top 29
noncomputable abbrev k7 : Stmt := top 30
noncomputable abbrev mh : Stmt := top 31
noncomputable abbrev cW : Stmt := lX (top 19) 0
noncomputable abbrev fh : Stmt := lX (top 19) 1
noncomputable abbrev dP : Stmt := lX (top 19) 2
noncomputable abbrev dG : Stmt := lX (top 20) 0
noncomputable abbrev cO : Stmt := lX (top 21) 0
noncomputable abbrev cQ : Stmt := lX (top 22) 0
noncomputable abbrev dJ : Stmt := lX (top 23) 0
structure Txt (K : W.Frag) (mg : Str -> Option Value) : Prop where
 int : mg "int" = none
 isinstance : mg "isinstance" = none
 len : mg "len" = none
 max : mg "max" = none
 min : mg "min" = none
 range : mg "range" = none
 reversed : mg "reversed" = none
 sorted : mg "sorted" = none
 sum : mg "sum" = none
 tuple : mg "tuple" = none
 ONE_CELL : ∃ (u : Value) (v : V), mg "ONE_CELL" = some u /\ RelV v u /\ ∀ S, Den K S (.tup [.tup [.int (0), .tup [.tup [.int (0), .int (0)]]]]) v
 cN : xw K NS fun C => Cls K C /\ NoAttr K C "parts"
 is_Box : ∃ T : Addr, W.nsIn K mainGlobals "Box" = some (some (.ref T)) /\ mg "Box" = some (.ref T) /\ oj K zU T
 is_Cross : ∃ T : Addr, W.nsIn K mainGlobals "Cross" = some (some (.ref T)) /\ mg "Cross" = some (.ref T) /\ oj K qP T
 is_Form : ∃ T : Addr, W.nsIn K mainGlobals "Form" = some (some (.ref T)) /\ mg "Form" = some (.ref T) /\ oj K u9 T
 is_Shape : ∃ T : Addr, W.nsIn K mainGlobals "Shape" = some (some (.ref T)) /\ mg "Shape" = some (.ref T) /\ oj K qF T
 is_Sum : ∃ T : Addr, W.nsIn K mainGlobals "Sum" = some (some (.ref T)) /\ mg "Sum" = some (.ref T) /\ oj K zr T
section
variable {P : Program} {w : World} {K : W.Frag} {mg : Str -> Option Value} {base : Heap}
theorem yN : FnScope ["pairs", "stretches", "a", "b"] ["pairs"] (aj jE) := ⟨rfl, rfl, rfl, by decide +kernel, rfl, by decide +kernel, by decide +kernel⟩
theorem qZ : FnScope ["row", "by"] ["row", "by"] (aj eX) := ⟨rfl, rfl, rfl, by decide +kernel, rfl, by decide +kernel, by decide +kernel⟩
theorem ml : FnScope ["picture", "stretches", "y", "row"] ["picture"] (aj cR) := ⟨rfl, rfl, rfl, by decide +kernel, rfl, by decide +kernel, by decide +kernel⟩
theorem mj : FnScope ["parts", "single", "together"] ["parts"] (aj bM) := ⟨rfl, rfl, rfl, by decide +kernel, rfl, by decide +kernel, by decide +kernel⟩
theorem tW : FnScope ["_law_script", "_law_k"] ["_law_script", "_law_k"] (aj ik) := ⟨rfl, rfl, rfl, by decide +kernel, rfl, by decide +kernel, by decide +kernel⟩
theorem wR : FnScope ["_law_cell", "_law_far", "_law_mixed", "_law_low"] ["_law_cell", "_law_far"] (aj jw) := ⟨rfl, rfl, rfl, by decide +kernel, rfl, by decide +kernel, by decide +kernel⟩
theorem tS : FnScope ["_law_triples", "_law_rows", "_law_y", "_law_low", "_law_high", "_law_last"] ["_law_triples"] (aj f7) := ⟨rfl, rfl, rfl, by decide +kernel, rfl, by decide +kernel, by decide +kernel⟩
theorem vS : FnScope ["_law_ones", "_law_others", "_law_sums", "_law_y", "_law_low", "_law_high", "_law_dy", "_law_start", "_law_end"] ["_law_ones", "_law_others"] (aj jx) := ⟨rfl, rfl, rfl, by decide +kernel, rfl, by decide +kernel, by decide +kernel⟩
theorem yI : FnScope ["_law_form", "_law_due", "_law_found"] ["_law_form", "_law_due"] (aj ka) := ⟨rfl, rfl, rfl, by decide +kernel, rfl, by decide +kernel, by decide +kernel⟩
theorem sn : FnScope ["self", "parts"] ["self", "parts"] (aj cW) := ⟨rfl, rfl, rfl, by decide +kernel, rfl, by decide +kernel, by decide +kernel⟩
theorem pb : FnScope ["stretches", "pairs_by_row", "y", "a", "b"] ["stretches"] (aj c9) := ⟨rfl, rfl, rfl, by decide +kernel, rfl, by decide +kernel, by decide +kernel⟩
theorem Bi : FnScope ["picture", "dx", "dy"] ["picture", "dx", "dy"] (aj lK) := ⟨rfl, rfl, rfl, by decide +kernel, rfl, by decide +kernel, by decide +kernel⟩
theorem rY : FnScope ["picture", "blocks", "a", "b", "y"] ["picture"] (aj eU) := ⟨rfl, rfl, rfl, by decide +kernel, rfl, by decide +kernel, by decide +kernel⟩
theorem uX : FnScope ["self", "left", "up", "right", "down"] ["self", "left", "up", "right", "down"] (aj dG) := ⟨rfl, rfl, rfl, by decide +kernel, rfl, by decide +kernel, by decide +kernel⟩
theorem rG : FnScope ["self", "arm"] ["self", "arm"] (aj cO) := ⟨rfl, rfl, rfl, by decide +kernel, rfl, by decide +kernel, by decide +kernel⟩
theorem uh : FnScope ["self", "one", "other"] ["self", "one", "other"] (aj dJ) := ⟨rfl, rfl, rfl, by decide +kernel, rfl, by decide +kernel, by decide +kernel⟩
theorem CW : FnScope ["one", "other"] ["one", "other"] (aj sJ) := ⟨rfl, rfl, rfl, by decide +kernel, rfl, by decide +kernel, by decide +kernel⟩
theorem qW : FnScope ["self", "picture"] ["self", "picture"] (aj cQ) := ⟨rfl, rfl, rfl, by decide +kernel, rfl, by decide +kernel, by decide +kernel⟩
theorem m7 : FnScope ["picture", "by", "done", "step"] ["picture", "by"] (aj eE) := ⟨rfl, rfl, rfl, by decide +kernel, rfl, by decide +kernel, by decide +kernel⟩
theorem jb : FnScope ["picture", "block", "wide"] ["picture", "block"] (aj bF) := ⟨rfl, rfl, rfl, by decide +kernel, rfl, by decide +kernel, by decide +kernel⟩
theorem jS : FnScope ["picture", "blocks", "stretches", "block"] ["picture", "blocks"] (aj cv) := ⟨rfl, rfl, rfl, by decide +kernel, rfl, by decide +kernel, by decide +kernel⟩
theorem my : FnScope ["self", "picture", "blocks"] ["self", "picture"] (aj dP) := ⟨rfl, rfl, rfl, by decide +kernel, rfl, by decide +kernel, by decide +kernel⟩
theorem pf : FnScope ["self"] ["self"] (aj fh) := ⟨rfl, rfl, rfl, by decide +kernel, rfl, by decide +kernel, by decide +kernel⟩
theorem yi : FnScope ["_law_form", "_law_kind", "_law_triples", "_law_due", "_law_again", "_law_found", "_law_pair"] ["_law_form", "_law_kind", "_law_triples"] (aj k7) := ⟨rfl, rfl, rfl, by decide +kernel, rfl, by decide +kernel, by decide +kernel⟩
theorem FI : FnScope ["_law_script", "_law_first", "_law_left", "_law_up", "_law_right", "_law_down", "_law_arm", "_law_shape", "_law_box_cells", "_law_cross_cells", "_law_box", "_law_cross", "_law_other", "_law_both", "_law_due"] ["_law_script"] (aj mh) := ⟨rfl, rfl, rfl, by decide +kernel, rfl, by decide +kernel, by decide +kernel⟩
theorem tO {f : Addr} {fd : FuncData} (F : Fun K "__init__" "Form.__init__" cW f fd) (T : Txt K mg) : FnOk P w K mg base CX0 1 f fd ["self", "parts"] (cP K) := by
 refine F.ok sn (fun vs H Q E h => h.1) (fun cdv A outer s H vs Q E hr h => ?_)
 exact ⟨_, aA (Jl (pv 0) (pv 1) rfl), Fb T.cN h⟩
theorem A4 {f : Addr} {fd : FuncData} (F : Fun K "_law_cell_at" "_law_cell_at" ik f fd) (T : Txt K mg) : FnOk P w K mg base CX0 1 f fd ["_law_script", "_law_k"] (kI K) := by
 refine F.ok tW (fun vs H Q E h => h.1) (fun cdv A outer s H vs Q E hr h => ?_)
 have nd := (tW).nd
 exact ⟨_, aw (gU (bX Dt (pv 1) (bI jA (by rfl) T.len sU (ab (pv 0) af)) (b7 _)) (aA (bT (br aO (pv 0) (pv 1) (fun _ _ => rfl)))) eK) (aA (bT ah)), Bu h⟩
theorem Er {f : Addr} {fd : FuncData} (F : Fun K "_law_kinds" "_law_kinds" ka f fd) (T : Txt K mg) : FnOk P w K mg base CX0 1 f fd ["_law_form", "_law_due"] (n8 K) := by
 refine F.ok yI (fun vs H Q E h => h.1) (fun cdv A outer s H vs Q E hr h => ?_)
 have nd := (yI).nd
 exact ⟨_, aw (bv (i := 2) nd rfl (.inl rfl) (ft (ab (rh T.is_Box (by rfl) T.isinstance (by rfl) (pv 0)) (ab (rh T.is_Cross (by rfl) T.isinstance (by rfl) (pv 0)) (ab (rh T.is_Shape (by rfl) T.isinstance (by rfl) (pv 0)) (ab (rh T.is_Sum (by rfl) T.isinstance (by rfl) (pv 0)) af)))))) (aA (bT (Jp (rh T.is_Form (by rfl) T.isinstance (by rfl) (pv 0)) (Kc (rF (hW hr.units) (pv 2) (fe (show CmpOk ["_law_form", "_law_due", "_law_found"] (aj ka) _ ["_law_k", "_law_due"] [none, some 1] from jg) (x4 (by rfl) T.range (ab ah af)) (fun _ => aB (i := 0) (show List.Nodup (["_law_k", "_law_due"] : List Str) from by decide +kernel) rfl (.inl rfl)) bg (fun _ => fi) (fun _ => rF (hW hr.units) (pv 1) (pv 0) (b7 _))) (b7 _)))))), EW h⟩
theorem zY {f : Addr} {fd : FuncData} (F : Fun K "_law_picture" "_law_picture" f7 f fd) (T : Txt K mg) : FnOk P w K mg base CX0 1 f fd ["_law_triples"] (iM K) := by
 refine F.ok tS (fun vs H Q E h => h.1) (fun cdv A outer s H vs Q E hr h => ?_)
 have nd := (tS).nd
 exact ⟨_, aw (bv (i := 1) nd rfl (.inl rfl) (ft af)) (aw (kq PassesOwn.never rfl (cU (bI ji (by rfl) T.sorted nW (ab (pv 0) af))) (fk rfl (aD (aB (i := 2) nd rfl (.inl rfl)) (aD (aB (i := 3) nd rfl (.inl rfl)) (aD (aB (i := 4) nd rfl (.inl rfl)) dA)))) (aA (gU (PW.pt (we (bX G4 (bI jA (by rfl) T.len sU (ab (pv 1) af)) ah (b7 _)) (we (bX (hW hr.units) (br aO (br aO (pv 1) (dY b5 ah) (fun _ _ => rfl)) ah (fun _ _ => rfl)) (pv 2) (b7 _)) (ve (bX De (pv 3) (aZ cF (br aO (br aO (br aO (br aO (pv 1) (dY b5 ah) (fun _ _ => rfl)) ah (fun _ _ => rfl)) (dY b5 ah) (fun _ _ => rfl)) ah (fun _ _ => rfl)) ah) (b7 _)))))) (aw (bv (i := 5) nd rfl (.inl rfl) (JQ PySem.F.plainAttrs_list PySem.F.slot_list_pop PySem.F.type_list_pop Kn (br aO (br aO (pv 1) (dY b5 ah) (fun _ _ => rfl)) ah (fun _ _ => rfl)))) (aA (eM (oO PySem.F.plainAttrs_list PySem.F.slot_list_append PySem.F.type_list_append eF (br aO (br aO (pv 1) (dY b5 ah) (fun _ _ => rfl)) ah (fun _ _ => rfl)) (ab (bd (ab (br aO (pv 5) ah (fun _ _ => rfl)) (ab (bI (yE rfl) (by rfl) T.max GI (ab (br aO (pv 5) ah (fun _ _ => rfl)) (ab (pv 4) af))) af))) af))))) (aA (gU (PW.pt (we (bX G4 (bI jA (by rfl) T.len sU (ab (pv 1) af)) ah (b7 _)) (ve (bX (hW hr.units) (br aO (br aO (pv 1) (dY b5 ah) (fun _ _ => rfl)) ah (fun _ _ => rfl)) (pv 2) (b7 _))))) (aA (eM (oO PySem.F.plainAttrs_list PySem.F.slot_list_append PySem.F.type_list_append eF (br aO (br aO (pv 1) (dY b5 ah) (fun _ _ => rfl)) ah (fun _ _ => rfl)) (ab (bd (ab (pv 3) (ab (pv 4) af))) af)))) (aA (eM (oO PySem.F.plainAttrs_list PySem.F.slot_list_append PySem.F.type_list_append eF (pv 1) (ab (bd (ab (pv 2) (ab (ft (ab (bd (ab (pv 3) (ab (pv 4) af))) af)) af))) af))))))))) (aA (bT (dR bZ (by rfl) T.tuple dD (ab (fe (show CmpOk ["_law_triples", "_law_rows", "_law_y", "_law_low", "_law_high", "_law_last"] (aj f7) _ ["_law_y", "_law_row"] [none, none] from jg) (cU (pv 1)) (fun _ => fk rfl (aD (aB (i := 0) (show List.Nodup (["_law_y", "_law_row"] : List Str) from by decide +kernel) rfl (.inl rfl)) (aD (aB (i := 1) (show List.Nodup (["_law_y", "_law_row"] : List Str) from by decide +kernel) rfl (.inl rfl)) dA))) (lY (bC bg (bC bg jn aS) aS)) (fun _ => fi) (fun _ => bd (ab (pv 0) (ab (dR bZ (by rfl) T.tuple dD (ab (pv 1) af)) af)))) af))))), zW h⟩
theorem Cu {f : Addr} {fd : FuncData} (F : Fun K "_law_summed" "_law_summed" jx f fd) (T : Txt K mg) : FnOk P w K mg base CX0 1 f fd ["_law_ones", "_law_others"] (lO K) := by
 refine F.ok vS (fun vs H Q E h => h.1) (fun cdv A outer s H vs Q E hr h => ?_)
 have nd := (vS).nd
 exact ⟨_, aw (bv (i := 2) nd rfl (.inl rfl) (ft af)) (aw (kq PassesOwn.never rfl (cU (pv 0)) (fk rfl (aD (aB (i := 3) nd rfl (.inl rfl)) (aD (aB (i := 4) nd rfl (.inl rfl)) (aD (aB (i := 5) nd rfl (.inl rfl)) dA)))) (aA (kq PassesOwn.never rfl (cU (pv 1)) (fk rfl (aD (aB (i := 6) nd rfl (.inl rfl)) (aD (aB (i := 7) nd rfl (.inl rfl)) (aD (aB (i := 8) nd rfl (.inl rfl)) dA)))) (aA (eM (oO PySem.F.plainAttrs_list PySem.F.slot_list_append PySem.F.type_list_append eF (pv 2) (ab (bd (ab (aZ cF (pv 3) (pv 6)) (ab (aZ cF (pv 4) (pv 7)) (ab (aZ cF (pv 5) (pv 8)) af)))) af))))))) (aA (bT (pv 2)))), BU h⟩
theorem Cj {f : Addr} {fd : FuncData} (F : Fun K "_law_triple" "_law_triple" jw f fd) (T : Txt K mg) : FnOk P w K mg base CX0 1 f fd ["_law_cell", "_law_far"] (lW K) := by
 refine F.ok wR (fun vs H Q E h => h.1) (fun cdv A outer s H vs Q E hr h => ?_)
 have nd := (wR).nd
 exact ⟨_, aw (bv (i := 2) nd rfl (.inl rfl) (aZ jk (aZ fT (aZ Gu (pv 0) ah) ah) ah)) (aw (bv (i := 3) nd rfl (.inl rfl) (aZ tM (aZ fT (aZ jk (pv 2) ah) ah) ah)) (aw (gU (dE (pv 1) (fun _ => rfl)) (aA (bv (i := 3) nd rfl (.inl rfl) (aZ tM (aZ fT (pv 0) (aZ zO ah ah)) (aZ Gu ah (aZ zO ah ah))))) eK) (aA (bT (bd (ab (aZ tM (aZ fT (pv 2) ah) ah) (ab (pv 3) (ab (aZ cF (pv 3) (aZ fT (aZ jk (pv 2) ah) ah)) af)))))))), B9 h⟩
theorem ug {f : Addr} {fd : FuncData} (F : Fun K "parts_of_sum" "parts_of_sum" bM f fd) (T : Txt K mg) : FnOk P w K mg base CX0 1 f fd ["parts"] (fN K) := by
 refine F.ok mj (fun vs H Q E h => h.1) (fun cdv A outer s H vs Q E hr h => ?_)
 have nd := (mj).nd
 exact ⟨_, aw (bv (i := 1) nd rfl (.inr rfl) (fe (show CmpOk ["parts", "single", "together"] (aj bM) _ ["blocks"] [none] from jg) (cU (pv 0)) (fun _ => aB (i := 0) (show List.Nodup (["blocks"] : List Str) from by decide +kernel) rfl (.inl rfl)) bg (fun _ => vi (bX (hW hr.units) (bI jA (by rfl) T.len sU (ab (pv 0) af)) ah (b7 _))) (fun _ => br aO (pv 0) ah (fun _ _ => rfl)))) (aw (bv (i := 2) nd rfl (.inl rfl) (dR bZ (by rfl) T.tuple dD (ab (G2 (show CmpOkC ["parts", "single", "together"] (aj bM) _ ["side", "single"] [none, some 1] "side" from JL) (x4 (by rfl) T.range (ab ah af)) (fun _ => aB (i := 0) (show List.Nodup (["side", "single"] : List Str) from by decide +kernel) rfl (.inr rfl)) bg (fun _ => fi) (fun _ => bI (DW rfl) (by rfl) T.sum Ji (ab (fe (show CmpOk ["side", "single"] ({ kind := .function, names := [(".0", .local), ("side", .cell), ("sum", .globalImplicit), ("single", .cell)], isGenerator := false, isCoroutine := false } : Scope) _ ["block", "side"] [none, some 0] from jg) (cU (pv 1)) (fun _ => aB (i := 0) (show List.Nodup (["block", "side"] : List Str) from by decide +kernel) rfl (.inl rfl)) bg (fun _ => fi) (fun _ => br aO (pv 0) (pv 1) (fun _ _ => rfl))) af))) af))) (aA (bT (aZ cF (bd (ab (bd (ab (pv 2) af)) af)) (dR bZ (by rfl) T.tuple dD (ab (fe (show CmpOk ["parts", "single", "together"] (aj bM) _ ["blocks"] [none] from jg) (cU (pv 0)) (fun _ => aB (i := 0) (show List.Nodup (["blocks"] : List Str) from by decide +kernel) rfl (.inl rfl)) bg (fun _ => vi (bX G4 (bI jA (by rfl) T.len sU (ab (pv 0) af)) ah (b7 _))) (fun _ => pv 0)) af)))))), uB h⟩
theorem zh {f : Addr} {fd : FuncData} (F : Fun K "row_moved" "row_moved" eX f fd) (T : Txt K mg) : FnOk P w K mg base CX0 1 f fd ["row", "by"] (jq K) := by
 refine F.ok qZ (fun vs H Q E h => h.1) (fun cdv A outer s H vs Q E hr h => ?_)
 have nd := (qZ).nd
 exact ⟨_, aA (bT (dR bZ (by rfl) T.tuple dD (ab (fe (show CmpOk ["row", "by"] (aj eX) _ ["a", "b", "by"] [none, none, some 1] from jg) (cU (pv 0)) (fun _ => fk rfl (aD (aB (i := 0) (show List.Nodup (["a", "b", "by"] : List Str) from by decide +kernel) rfl (.inl rfl)) (aD (aB (i := 1) (show List.Nodup (["a", "b", "by"] : List Str) from by decide +kernel) rfl (.inl rfl)) dA))) (lY (bC bg (bC bg jn aS) aS)) (fun _ => fi) (fun _ => bd (ab (aZ cF (pv 0) (pv 2)) (ab (aZ cF (pv 1) (pv 2)) af)))) af))), zS h⟩
theorem EG {f : Addr} {fd : FuncData} (F : Fun K "row_of" "row_of" jE f fd) (T : Txt K mg) : FnOk P w K mg base CX0 1 f fd ["pairs"] (nV K) := by
 refine F.ok yN (fun vs H Q E h => h.1) (fun cdv A outer s H vs Q E hr h => ?_)
 have nd := (yN).nd
 exact ⟨_, aw (bv (i := 1) nd rfl (.inl rfl) (ft af)) (aw (kq PassesOwn.never rfl (cU (bI ji (by rfl) T.sorted nW (ab (fe (show CmpOk ["pairs", "stretches", "a", "b"] (aj jE) _ ["a", "b"] [none, none] from jg) (cU (pv 0)) (fun _ => fk rfl (aD (aB (i := 0) (show List.Nodup (["a", "b"] : List Str) from by decide +kernel) rfl (.inl rfl)) (aD (aB (i := 1) (show List.Nodup (["a", "b"] : List Str) from by decide +kernel) rfl (.inl rfl)) dA))) (lY (bC bg (bC bg jn aS) aS)) (fun _ => vi (bX De (pv 0) (pv 1) (b7 _))) (fun _ => bd (ab (pv 0) (ab (pv 1) af)))) af))) (fk rfl (aD (aB (i := 2) nd rfl (.inl rfl)) (aD (aB (i := 3) nd rfl (.inl rfl)) dA))) (aA (gU (PW.pt (we (dE (pv 1) (fun _ => rfl)) (ve (bX De (pv 2) (aZ cF (br aO (br aO (pv 1) (dY b5 ah) (fun _ _ => rfl)) ah (fun _ _ => rfl)) ah) (b7 _))))) (aA (FK (bd (ab (br aO (br aO (pv 1) (dY b5 ah) (fun _ _ => rfl)) ah (fun _ _ => rfl)) (ab (bI (yE rfl) (by rfl) T.max GI (ab (br aO (br aO (pv 1) (dY b5 ah) (fun _ _ => rfl)) ah (fun _ _ => rfl)) (ab (pv 3) af))) af))) (Fs (pv 1) (dY b5 ah) An))) (aA (eM (oO PySem.F.plainAttrs_list PySem.F.slot_list_append PySem.F.type_list_append eF (pv 1) (ab (bd (ab (pv 2) (ab (pv 3) af))) af))))))) (aA (bT (dR bZ (by rfl) T.tuple dD (ab (pv 1) af))))), E7 h⟩
theorem ul {f : Addr} {fd : FuncData} (F : Fun K "stretches_of" "stretches_of" cR f fd) (T : Txt K mg) : FnOk P w K mg base CX0 1 f fd ["picture"] (c5 K) := by
 refine F.ok ml (fun vs H Q E h => h.1) (fun cdv A outer s H vs Q E hr h => ?_)
 have nd := (ml).nd
 exact ⟨_, aw (bv (i := 1) nd rfl (.inl rfl) (ft af)) (aw (kq PassesOwn.never rfl (cU (pv 0)) (fk rfl (aD (aB (i := 2) nd rfl (.inr rfl)) (aD (aB (i := 3) nd rfl (.inl rfl)) dA))) (aA (eM (oO PySem.F.plainAttrs_list PySem.F.slot_list_extend PySem.F.type_list_extend CY (pv 1) (ab (fe (show CmpOk ["picture", "stretches", "y", "row"] (aj cR) _ ["a", "b", "y"] [none, none, some 2] from jg) (cU (pv 3)) (fun _ => fk rfl (aD (aB (i := 0) (show List.Nodup (["a", "b", "y"] : List Str) from by decide +kernel) rfl (.inl rfl)) (aD (aB (i := 1) (show List.Nodup (["a", "b", "y"] : List Str) from by decide +kernel) rfl (.inl rfl)) dA))) (lY (bC bg (bC bg jn aS) aS)) (fun _ => fi) (fun _ => bd (ab (pv 2) (ab (pv 0) (ab (pv 1) af))))) af))))) (aA (bT (pv 1)))), ud h⟩
theorem ue {f : Addr} {fd : FuncData} (F : Fun K "__init__" "Box.__init__" dG f fd) (T : Txt K mg) {f_Form___init__ : Addr} {aY : FuncData} (aW : FnOk P w K mg base CX0 1 f_Form___init__ aY ["self", "parts"] (cP K)) (aV : Binds K aY ["self", "parts"] []) {c_Form : Addr} (cf_Form : ClsFn K c_Form "__init__" f_Form___init__) (g_Form : mg "Form" = some (.ref c_Form)) : FnOk P w K mg base CX0 2 f fd ["self", "left", "up", "right", "down"] (ja K) := by
 refine F.ok uX (fun vs H Q E h => h.1) (fun cdv A outer s H vs Q E hr h => ?_)
 exact ⟨_, aw (gU (bX Dt (bI (DH rfl) (by rfl) T.min G9 (ab (pv 1) (ab (pv 2) (ab (pv 3) (ab (pv 4) af))))) ah (b7 _)) sE eK) (aA (eM (lH cf_Form (by rfl) g_Form aW (hr.mono (by decide)) aV bh (ab (pv 0) (ab (bd (ab (bd (ab (bd (ab (dY b5 (pv 1)) (ab (dY b5 (pv 2)) (ab (pv 3) (ab (pv 4) af))))) af)) af)) af))))), vZ (di (SE.p (aH Ig ((jr Ka (aM (ak 1) (aM (ak 2) (aM (ak 3) (aM (ak 4) bL))))).p) ((s_c rfl).p)))) (bQ (ae (bQ (ae (bQ (ae (iT d6 (ak 1)) (ae (iT d6 (ak 2)) (ae (av 3) (ae (av 4) aq))))) aq)) aq)) rfl h⟩
theorem r9 {f : Addr} {fd : FuncData} (F : Fun K "__init__" "Cross.__init__" cO f fd) (T : Txt K mg) {f_Form___init__ : Addr} {aY : FuncData} (aW : FnOk P w K mg base CX0 1 f_Form___init__ aY ["self", "parts"] (cP K)) (aV : Binds K aY ["self", "parts"] []) {c_Form : Addr} (cf_Form : ClsFn K c_Form "__init__" f_Form___init__) (g_Form : mg "Form" = some (.ref c_Form)) : FnOk P w K mg base CX0 2 f fd ["self", "arm"] (gR K) := by
 refine F.ok rG (fun vs H Q E h => h.1) (fun cdv A outer s H vs Q E hr h => ?_)
 exact ⟨_, aw (gU (bX Dt (pv 1) ah (b7 _)) sE eK) (aA (eM (lH cf_Form (by rfl) g_Form aW (hr.mono (by decide)) aV bh (ab (pv 0) (ab (bd (ab (bd (ab (bd (ab (dY b5 (pv 1)) (ab ah (ab (pv 1) (ab ah af))))) (ab (bd (ab ah (ab (dY b5 (pv 1)) (ab ah (ab (pv 1) af))))) af))) af)) af))))), vZ (di (SE.p (aH Ig (ak 1) ((s_c rfl).p)))) (bQ (ae (bQ (ae (bQ (ae (iT d6 (ak 1)) (ae (s_c rfl) (ae (av 1) (ae (s_c rfl) aq))))) (ae (bQ (ae (s_c rfl) (ae (iT d6 (ak 1)) (ae (s_c rfl) (ae (av 1) aq))))) aq))) aq)) rfl h⟩
theorem uR {f : Addr} {fd : FuncData} (F : Fun K "__init__" "Sum.__init__" dJ f fd) (T : Txt K mg) {ci : Addr} {me : FuncData} (jU : FnOk P w K mg base CX0 1 ci me ["parts"] (fN K)) (b8 : mg "parts_of_sum" = some (.ref ci)) (dQ : W.keepIn K (.ref ci) = true) (jR : Binds K me ["parts"] []) {f_Form___init__ : Addr} {aY : FuncData} (aW : FnOk P w K mg base CX0 1 f_Form___init__ aY ["self", "parts"] (cP K)) (aV : Binds K aY ["self", "parts"] []) {c_Form : Addr} (cf_Form : ClsFn K c_Form "__init__" f_Form___init__) (g_Form : mg "Form" = some (.ref c_Form)) : FnOk P w K mg base CX0 2 f fd ["self", "one", "other"] (i7 K) := by
 refine F.ok uh (fun vs H Q E h => h.1) (fun cdv A outer s H vs Q E hr h => ?_)
 exact ⟨_, aA (eM (lH cf_Form (by rfl) g_Form aW (hr.mono (by decide)) aV bh (ab (pv 0) (ab (aQ jU (hr.mono (by decide)) (by rfl) b8 dQ jR .nil bh (ab (aZ cF (zm T.cN (pv 1) rfl) (zm T.cN (pv 2) rfl)) af)) af)))), ET (bo (E := E0) (ae (aH gN ((GK (av 1)).p) ((GK (av 2)).p)) aq) (ai (fun _ _ h => aG h))) rfl h⟩
theorem zQ {f : Addr} {fd : FuncData} (F : Fun K "blocks_of" "blocks_of" eU f fd) (T : Txt K mg) {aL : Addr} {bP : FuncData} (bn : FnOk P w K mg base CX0 1 aL bP ["picture"] (c5 K)) (aF : mg "stretches_of" = some (.ref aL)) (aR : W.keepIn K (.ref aL) = true) (bp : Binds K bP ["picture"] []) : FnOk P w K mg base CX0 2 f fd ["picture"] (jl K) := by
 refine F.ok rY (fun vs H Q E h => h.1) (fun cdv A outer s H vs Q E hr h => ?_)
 have nd := (rY).nd
 exact ⟨_, aw (bv (i := 1) nd rfl (.inl rfl) (ft af)) (aw (kq PassesOwn.never rfl (cU (bI ji (by rfl) T.sorted nW (ab (fe (show CmpOk ["picture", "blocks", "a", "b", "y"] (aj eU) _ ["y", "a", "b"] [none, none, none] from jg) (cU (aQ bn (hr.mono (by decide)) (by rfl) aF aR bp .nil bh (ab (pv 0) af))) (fun _ => fk rfl (aD (aB (i := 0) (show List.Nodup (["y", "a", "b"] : List Str) from by decide +kernel) rfl (.inl rfl)) (aD (aB (i := 1) (show List.Nodup (["y", "a", "b"] : List Str) from by decide +kernel) rfl (.inl rfl)) (aD (aB (i := 2) (show List.Nodup (["y", "a", "b"] : List Str) from by decide +kernel) rfl (.inl rfl)) dA)))) (lY (bC bg (bC bg (bC bg jn aS) aS) aS)) (fun _ => fi) (fun _ => bd (ab (pv 1) (ab (pv 2) (ab (pv 0) af))))) af))) (fk rfl (aD (aB (i := 2) nd rfl (.inl rfl)) (aD (aB (i := 3) nd rfl (.inl rfl)) (aD (aB (i := 4) nd rfl (.inl rfl)) dA)))) (aA (gU (PW.pt (we (dE (pv 1) (fun _ => rfl)) (ve (bX (hW hr.units) (br aO (pv 1) (dY b5 ah) (fun _ _ => rfl)) (bd (ab (pv 2) (ab (br aO (br aO (pv 1) (dY b5 ah) (fun _ _ => rfl)) ah (fun _ _ => rfl)) (ab (pv 3) (ab (aZ tM (pv 4) ah) af))))) (b7 _))))) (aA (FK (bd (ab (pv 2) (ab (br aO (br aO (pv 1) (dY b5 ah) (fun _ _ => rfl)) ah (fun _ _ => rfl)) (ab (pv 3) (ab (pv 4) af))))) (Fs (pv 1) (dY b5 ah) An))) (aA (eM (oO PySem.F.plainAttrs_list PySem.F.slot_list_append PySem.F.type_list_append eF (pv 1) (ab (bd (ab (pv 2) (ab (pv 4) (ab (pv 3) (ab (pv 4) af))))) af))))))) (aA (bT (dR bZ (by rfl) T.tuple dD (ab (pv 1) af))))), zG h⟩
theorem Hi {f : Addr} {fd : FuncData} (F : Fun K "moved" "moved" lK f fd) (T : Txt K mg) {d7 : Addr} {re : FuncData} (mU : FnOk P w K mg base CX0 1 d7 re ["row", "by"] (jq K)) (dX : mg "row_moved" = some (.ref d7)) (gh : W.keepIn K (.ref d7) = true) (nq : Binds K re ["row", "by"] []) : FnOk P w K mg base CX0 2 f fd ["picture", "dx", "dy"] (qE K) := by
 refine F.ok Bi (fun vs H Q E h => h.1) (fun cdv A outer s H vs Q E hr h => ?_)
 have nd := (Bi).nd
 exact ⟨_, aA (bT (dR bZ (by rfl) T.tuple dD (ab (fe (show CmpOk ["picture", "dx", "dy"] (aj lK) _ ["y", "row", "dy", "dx"] [none, none, some 2, some 1] from jg) (cU (pv 0)) (fun _ => fk rfl (aD (aB (i := 0) (show List.Nodup (["y", "row", "dy", "dx"] : List Str) from by decide +kernel) rfl (.inl rfl)) (aD (aB (i := 1) (show List.Nodup (["y", "row", "dy", "dx"] : List Str) from by decide +kernel) rfl (.inl rfl)) dA))) (lY (bC bg (bC bg jn aS) aS)) (fun _ => fi) (fun _ => bd (ab (aZ cF (pv 0) (pv 2)) (ab (aQ mU (hr.mono (by decide)) (by rfl) dX gh nq .nil bh (ab (pv 1) (ab (pv 3) af))) af)))) af))), Gv h⟩
theorem xc {f : Addr} {fd : FuncData} (F : Fun K "picture_of" "picture_of" c9 f fd) (T : Txt K mg) {iK : Addr} {xP : FuncData} (wJ : FnOk P w K mg base CX0 1 iK xP ["pairs"] (nV K)) (iI : mg "row_of" = some (.ref iK)) (kY : W.keepIn K (.ref iK) = true) (wa : Binds K xP ["pairs"] []) : FnOk P w K mg base CX0 2 f fd ["stretches"] (eD K) := by
 refine F.ok pb (fun vs H Q E h => h.1) (fun cdv A outer s H vs Q E hr h => ?_)
 have nd := (pb).nd
 exact ⟨_, aw (bv (i := 1) nd rfl (.inl rfl) (ft af)) (aw (kq PassesOwn.never rfl (cU (bI ji (by rfl) T.sorted nW (ab (fe (show CmpOk ["stretches", "pairs_by_row", "y", "a", "b"] (aj c9) _ ["y", "a", "b"] [none, none, none] from jg) (cU (pv 0)) (fun _ => fk rfl (aD (aB (i := 0) (show List.Nodup (["y", "a", "b"] : List Str) from by decide +kernel) rfl (.inl rfl)) (aD (aB (i := 1) (show List.Nodup (["y", "a", "b"] : List Str) from by decide +kernel) rfl (.inl rfl)) (aD (aB (i := 2) (show List.Nodup (["y", "a", "b"] : List Str) from by decide +kernel) rfl (.inl rfl)) dA)))) (lY (bC bg (bC bg (bC bg jn aS) aS) aS)) (fun _ => vi (bX De (pv 1) (pv 2) (b7 _))) (fun _ => bd (ab (pv 0) (ab (pv 1) (ab (pv 2) af))))) af))) (fk rfl (aD (aB (i := 2) nd rfl (.inl rfl)) (aD (aB (i := 3) nd rfl (.inl rfl)) (aD (aB (i := 4) nd rfl (.inl rfl)) dA)))) (aw (gU (PW.pt (xR (kT (dE (pv 1) (fun _ => rfl))) (zc (bX (G8 hr.units) (br aO (br aO (pv 1) (dY b5 ah) (fun _ _ => rfl)) ah (fun _ _ => rfl)) (pv 2) (b7 _))))) (aA (eM (oO PySem.F.plainAttrs_list PySem.F.slot_list_append PySem.F.type_list_append eF (pv 1) (ab (bd (ab (pv 2) (ab (ft af) af))) af)))) eK) (aA (eM (oO PySem.F.plainAttrs_list PySem.F.slot_list_append PySem.F.type_list_append eF (br aO (br aO (pv 1) (dY b5 ah) (fun _ _ => rfl)) ah (fun _ _ => rfl)) (ab (bd (ab (pv 3) (ab (pv 4) af))) af)))))) (aA (bT (dR bZ (by rfl) T.tuple dD (ab (fe (show CmpOk ["stretches", "pairs_by_row", "y", "a", "b"] (aj c9) _ ["y", "pairs"] [none, none] from jg) (cU (pv 1)) (fun _ => fk rfl (aD (aB (i := 0) (show List.Nodup (["y", "pairs"] : List Str) from by decide +kernel) rfl (.inl rfl)) (aD (aB (i := 1) (show List.Nodup (["y", "pairs"] : List Str) from by decide +kernel) rfl (.inl rfl)) dA))) (lY (bC bg (bC bg jn aS) aS)) (fun _ => fi) (fun _ => bd (ab (pv 0) (ab (aQ wJ (hr.mono (by decide)) (by rfl) iI kY wa .nil bh (ab (pv 1) af)) af)))) af))))), xz h⟩
theorem rR {f : Addr} {fd : FuncData} (F : Fun K "__init__" "Shape.__init__" cQ f fd) (T : Txt K mg) {dU : Addr} {qV : FuncData} (nc : FnOk P w K mg base CX0 2 dU qV ["picture"] (jl K)) (eT : mg "blocks_of" = some (.ref dU)) (gk : W.keepIn K (.ref dU) = true) (m5 : Binds K qV ["picture"] []) {f_Form___init__ : Addr} {aY : FuncData} (aW : FnOk P w K mg base CX0 1 f_Form___init__ aY ["self", "parts"] (cP K)) (aV : Binds K aY ["self", "parts"] []) {c_Form : Addr} (cf_Form : ClsFn K c_Form "__init__" f_Form___init__) (g_Form : mg "Form" = some (.ref c_Form)) : FnOk P w K mg base CX0 3 f fd ["self", "picture"] (gH K) := by
 refine F.ok qW (fun vs H Q E h => h.1) (fun cdv A outer s H vs Q E hr h => ?_)
 exact ⟨_, aw (gU (bX (hW hr.units) (pv 1) (bd af) (b7 _)) sE eK) (aA (eM (lH cf_Form (by rfl) g_Form aW (hr.mono (by decide)) aV bh (ab (pv 0) (ab (bd (ab (aQ nc (hr.mono (by decide)) (by rfl) eT gk m5 .nil bh (ab (pv 1) af)) af)) af))))), vZ (di (SE.p (aH (pA false) (ak 1) ((bQ aq).p)))) (bQ (ae (bo (E := E0) (ae (av 1) aq) (ai (fun _ _ h => aG h))) aq)) rfl h⟩
theorem IB {f : Addr} {fd : FuncData} (F : Fun K "join" "join" sJ f fd) (T : Txt K mg) {aU : Addr} {cJ : FuncData} (cG : FnOk P w K mg base CX0 2 aU cJ ["stretches"] (eD K)) (bf : mg "picture_of" = some (.ref aU)) (bE : W.keepIn K (.ref aU) = true) (cE : Binds K cJ ["stretches"] []) {aL : Addr} {bP : FuncData} (bn : FnOk P w K mg base CX0 1 aL bP ["picture"] (c5 K)) (aF : mg "stretches_of" = some (.ref aL)) (aR : W.keepIn K (.ref aL) = true) (bp : Binds K bP ["picture"] []) : FnOk P w K mg base CX0 3 f fd ["one", "other"] (vh K) := by
 refine F.ok CW (fun vs H Q E h => h.1) (fun cdv A outer s H vs Q E hr h => ?_)
 have nd := (CW).nd
 exact ⟨_, aA (bT (aQ cG (hr.mono (by decide)) (by rfl) bf bE cE .nil bh (ab (aZ cF (aQ bn (hr.mono (by decide)) (by rfl) aF aR bp .nil bh (ab (pv 0) af)) (aQ bn (hr.mono (by decide)) (by rfl) aF aR bp .nil bh (ab (pv 1) af))) af))), HA h⟩
theorem wd {f : Addr} {fd : FuncData} (F : Fun K "spread_down" "spread_down" eE f fd) (T : Txt K mg) {ni : Addr} {CZ : FuncData} (Cm : FnOk P w K mg base CX0 3 ni CZ ["one", "other"] (vh K)) (pR : mg "join" = some (.ref ni)) (tI : W.keepIn K (.ref ni) = true) (BQ : Binds K CZ ["one", "other"] []) {kD : Addr} {Bs : FuncData} (zB : FnOk P w K mg base CX0 2 kD Bs ["picture", "dx", "dy"] (qE K)) (lR : mg "moved" = some (.ref kD)) (oe : W.keepIn K (.ref kD) = true) (zp : Binds K Bs ["picture", "dx", "dy"] []) : FnOk P w K mg base CX0 4 f fd ["picture", "by"] (gP K) := by
 refine F.ok m7 (fun vs H Q E h => h.1) (fun cdv A outer s H vs Q E hr h => ?_)
 have nd := (m7).nd
 exact ⟨_, aw (bv (i := 2) nd rfl (.inl rfl) ah) (aw (G1 PassesOwn.never (bX Dt (pv 2) (pv 1) (b7 _)) (aw (bv (i := 3) nd rfl (.inl rfl) (bI (EZ rfl) (by rfl) T.min G9 (ab (aZ cF (pv 2) ah) (ab (aZ tM (pv 1) (pv 2)) af)))) (aw (bv (i := 0) nd rfl (.inl rfl) (aQ Cm (hr.mono (by decide)) (by rfl) pR tI BQ .nil bh (ab (pv 0) (ab (aQ zB (hr.mono (by decide)) (by rfl) lR oe zp .nil bh (ab (pv 0) (ab ah (ab (pv 3) af)))) af)))) (aA (J9 (i := 2) nd rfl (.inl rfl) (pv 3) Kh))))) (aA (bT (pv 0)))), vn h⟩
theorem oH {f : Addr} {fd : FuncData} (F : Fun K "greater_by_block" "greater_by_block" bF f fd) (T : Txt K mg) {aL : Addr} {bP : FuncData} (bn : FnOk P w K mg base CX0 1 aL bP ["picture"] (c5 K)) (aF : mg "stretches_of" = some (.ref aL)) (aR : W.keepIn K (.ref aL) = true) (bp : Binds K bP ["picture"] []) {cK : Addr} {nN : FuncData} (kS : FnOk P w K mg base CX0 4 cK nN ["picture", "by"] (gP K)) (cH : mg "spread_down" = some (.ref cK)) (eG : W.keepIn K (.ref cK) = true) (kQ : Binds K nN ["picture", "by"] []) {aU : Addr} {cJ : FuncData} (cG : FnOk P w K mg base CX0 2 aU cJ ["stretches"] (eD K)) (bf : mg "picture_of" = some (.ref aU)) (bE : W.keepIn K (.ref aU) = true) (cE : Binds K cJ ["stretches"] []) : FnOk P w K mg base CX0 5 f fd ["picture", "block"] (dw K) := by
 refine F.ok jb (fun vs H Q E h => h.1) (fun cdv A outer s H vs Q E hr h => ?_)
 have nd := (jb).nd
 exact ⟨_, aw (zK (i := 2) (hN := nd) (hi0 := rfl) (hx := Or.inl rfl) (ck := (show CmpOk ["picture", "block", "wide"] (aj bF) _ ["y", "a", "b", "block"] [none, none, none, some 1] from jg)) (hi := cU (aQ bn (hr.mono (by decide)) (by rfl) aF aR bp .nil bh (ab (pv 0) af))) (hg := fun _ => fk rfl (aD (aB (i := 0) (show List.Nodup (["y", "a", "b", "block"] : List Str) from by decide +kernel) rfl (.inl rfl)) (aD (aB (i := 1) (show List.Nodup (["y", "a", "b", "block"] : List Str) from by decide +kernel) rfl (.inl rfl)) (aD (aB (i := 2) (show List.Nodup (["y", "a", "b", "block"] : List Str) from by decide +kernel) rfl (.inl rfl)) dA)))) (hs := lY (bC bg (bC bg (bC bg jn aS) aS) aS)) (ht := fun _ => fi) (he := fun _ => bd (ab (aZ cF (pv 0) (br aO (pv 3) ah (fun _ _ => rfl))) (ab (aZ cF (pv 1) (br aO (pv 3) ah (fun _ _ => rfl))) (ab (aZ cF (pv 2) (br aO (pv 3) ah (fun _ _ => rfl))) af))))) (aw (gU (bX (hW hr.units) (br aO (pv 1) ah (fun _ _ => rfl)) (br aO (pv 1) ah (fun _ _ => rfl)) (b7 _)) (aA (bT (pv 2))) eK) (aA (bT (aQ bn (hr.mono (by decide)) (by rfl) aF aR bp .nil bh (ab (aQ kS (hr.mono (by decide)) (by rfl) cH eG kQ .nil bh (ab (aQ cG (hr.mono (by decide)) (by rfl) bf bE cE .nil bh (ab (pv 2) af)) (ab (aZ tM (br aO (pv 1) ah (fun _ _ => rfl)) (br aO (pv 1) ah (fun _ _ => rfl))) af))) af))))), ox h⟩
theorem qw {f : Addr} {fd : FuncData} (F : Fun K "greater_by_part" "greater_by_part" cv f fd) (T : Txt K mg) {bi : Addr} {jc : FuncData} (f8 : FnOk P w K mg base CX0 5 bi jc ["picture", "block"] (dw K)) (bm : mg "greater_by_block" = some (.ref bi)) (bS : W.keepIn K (.ref bi) = true) (fV : Binds K jc ["picture", "block"] []) {aU : Addr} {cJ : FuncData} (cG : FnOk P w K mg base CX0 2 aU cJ ["stretches"] (eD K)) (bf : mg "picture_of" = some (.ref aU)) (bE : W.keepIn K (.ref aU) = true) (cE : Binds K cJ ["stretches"] []) : FnOk P w K mg base CX0 6 f fd ["picture", "blocks"] (eg K) := by
 refine F.ok jS (fun vs H Q E h => h.1) (fun cdv A outer s H vs Q E hr h => ?_)
 have nd := (jS).nd
 exact ⟨_, aw (bv (i := 2) nd rfl (.inl rfl) (ft af)) (aw (kq PassesOwn.never rfl (cU (pv 1)) (aB (i := 3) nd rfl (.inl rfl)) (aA (eM (oO PySem.F.plainAttrs_list PySem.F.slot_list_extend PySem.F.type_list_extend CY (pv 2) (ab (aQ f8 (hr.mono (by decide)) (by rfl) bm bS fV .nil bh (ab (pv 0) (ab (pv 3) af))) af))))) (aA (bT (aQ cG (hr.mono (by decide)) (by rfl) bf bE cE .nil bh (ab (pv 2) af))))), pL h⟩
theorem uU {f : Addr} {fd : FuncData} (F : Fun K "greater" "Form.greater" dP f fd) (T : Txt K mg) {bz : Addr} {j7 : FuncData} (gO : FnOk P w K mg base CX0 6 bz j7 ["picture", "blocks"] (eg K)) (bO : mg "greater_by_part" = some (.ref bz)) (cu : W.keepIn K (.ref bz) = true) (gw : Binds K j7 ["picture", "blocks"] []) : FnOk P w K mg base CX0 7 f fd ["self", "picture"] (fQ K) := by
 refine F.ok my (fun vs H Q E h => h.1) (fun cdv A outer s H vs Q E hr h => ?_)
 have nd := (my).nd
 exact ⟨_, aw (kq PassesOwn.never rfl (Jj (by rfl) T.reversed (ab (zm T.cN (pv 0) rfl) af)) (aB (i := 2) nd rfl (.inl rfl)) (aA (bv (i := 1) nd rfl (.inl rfl) (aQ gO (hr.mono (by decide)) (by rfl) bO cu gw .nil bh (ab (pv 1) (ab (pv 2) af)))))) (aA (bT (pv 1))), u2 h⟩
theorem w9 {f : Addr} {fd : FuncData} (F : Fun K "cells" "Form.cells" fh f fd) (T : Txt K mg) {f_Form_greater : Addr} {mH : FuncData} (jY : FnOk P w K mg base CX0 7 f_Form_greater mH ["self", "picture"] (fQ K)) (jT : Binds K mH ["self", "picture"] []) (i9 : xw K NS fun C => Cls K C /\ Meth K C "greater" f_Form_greater) : FnOk P w K mg base CX0 8 f fd ["self"] (iC K) := by
 refine F.ok pf (fun vs H Q E h => h.1) (fun cdv A outer s H vs Q E hr h => ?_)
 have nd := (pf).nd
 exact ⟨_, aA (bT (Gb i9 jY (hr.mono (by decide)) jT bh (pv 0) (ab (Fq (by rfl) T.ONE_CELL.choose_spec.choose_spec.1 T.ONE_CELL.choose_spec.choose_spec.2.1 T.ONE_CELL.choose_spec.choose_spec.2.2) af))), xo h⟩
theorem E1 {f : Addr} {fd : FuncData} (F : Fun K "_law_cells" "_law_cells" k7 f fd) (T : Txt K mg) {cD : Addr} {iQ : FuncData} (hJ : FnOk P w K mg base CX0 1 cD iQ ["_law_triples"] (iM K)) (bG : mg "_law_picture" = some (.ref cD)) (eo : W.keepIn K (.ref cD) = true) (hG : Binds K iQ ["_law_triples"] []) {iL : Addr} {xX : FuncData} (wT : FnOk P w K mg base CX0 1 iL xX ["_law_form", "_law_due"] (n8 K)) (kb : mg "_law_kinds" = some (.ref iL)) (k9 : W.keepIn K (.ref iL) = true) (wx : Binds K xX ["_law_form", "_law_due"] []) {f_Form_cells : Addr} {oM : FuncData} (lV : FnOk P w K mg base CX0 8 f_Form_cells oM ["self"] (iC K)) (lL : Binds K oM ["self"] []) (kU : xw K NS fun C => Cls K C /\ Meth K C "cells" f_Form_cells) : FnOk P w K mg base CX0 9 f fd ["_law_form", "_law_kind", "_law_triples"] (nR K) := by
 refine F.ok yi (fun vs H Q E h => h.1) (fun cdv A outer s H vs Q E hr h => ?_)
 have nd := (yi).nd
 exact ⟨_, aw (bv (i := 3) nd rfl (.inl rfl) (aQ hJ (hr.mono (by decide)) (by rfl) bG eo hG .nil bh (ab (pv 2) af))) (aw (kq PassesOwn.never rfl (cU (ft (ab ah (ab ah af)))) (aB (i := 4) nd rfl (.inl rfl)) (aw (bv (i := 5) nd rfl (.inl rfl) (EM kU lV (hr.mono (by decide)) lL bh (pv 0))) (aw (gU (PW.pt (xR (kT (dE (bI nT (by rfl) T.isinstance fA (ab (pv 5) (ab (u6 (v := .ty "tuple") (by rfl) T.tuple dD rfl) af))) (fun _ => rfl))) (zc (bX (G8 hr.units) (pv 5) (pv 3) (b7 _))))) (aA (bT Bv)) eK) (aA (kq PassesOwn.never rfl (cU (pv 5)) (aB (i := 6) nd rfl (.inl rfl)) (aA (gU (PW.pt (xR (kT (dE (bI nT (by rfl) T.isinstance fA (ab (pv 6) (ab (u6 (v := .ty "tuple") (by rfl) T.tuple dD rfl) af))) (fun _ => rfl))) (xR (kT (dE (bI nT (by rfl) T.isinstance fA (ab (br aO (pv 6) ah (fun _ _ => rfl)) (ab (u6 (v := .ty "tuple") (by rfl) T.tuple dD rfl) af))) (fun _ => rfl))) (zc (kT (dE (bI nT (by rfl) T.isinstance fA (ab (br aO (br aO (pv 6) ah (fun _ _ => rfl)) ah (fun _ _ => rfl)) (ab (u6 (v := .ty "tuple") (by rfl) T.tuple dD rfl) af))) (fun _ => rfl))))))) (aA (bT Bv)) eK))))))) (aA (bT (aQ wT (hr.mono (by decide)) (by rfl) kb k9 wx .nil bh (ab (pv 0) (ab (pv 1) af)))))), En h⟩
theorem JY {f : Addr} {fd : FuncData} (F : Fun K "law" "law" mh f fd) (T : Txt K mg) {eW : Addr} {t7 : FuncData} (g8 : FnOk P w K mg base CX0 1 eW t7 ["_law_script", "_law_k"] (kI K)) (bq : mg "_law_cell_at" = some (.ref eW)) (d8 : W.keepIn K (.ref eW) = true) (iu : Binds K t7 ["_law_script", "_law_k"] []) {gd : Addr} {wz : FuncData} (tJ : FnOk P w K mg base CX0 1 gd wz ["_law_cell", "_law_far"] (lW K)) (eI : mg "_law_triple" = some (.ref gd)) (ju : W.keepIn K (.ref gd) = true) (sO : Binds K wz ["_law_cell", "_law_far"] []) {cD : Addr} {iQ : FuncData} (hJ : FnOk P w K mg base CX0 1 cD iQ ["_law_triples"] (iM K)) (bG : mg "_law_picture" = some (.ref cD)) (eo : W.keepIn K (.ref cD) = true) (hG : Binds K iQ ["_law_triples"] []) {iH : Addr} {x8 : FuncData} (iP : FnOk P w K mg base CX0 9 iH x8 ["_law_form", "_law_kind", "_law_triples"] (nR K)) (aN : mg "_law_cells" = some (.ref iH)) (eV : W.keepIn K (.ref iH) = true) (iG : Binds K x8 ["_law_form", "_law_kind", "_law_triples"] []) {gb : Addr} {wL : FuncData} (jy : FnOk P w K mg base CX0 1 gb wL ["_law_ones", "_law_others"] (lO K)) (aX : mg "_law_summed" = some (.ref gb)) (fc : W.keepIn K (.ref gb) = true) (jv : Binds K wL ["_law_ones", "_law_others"] []) {bK : Addr} {mt : FuncData} (gA : FnOk P w K mg base CX0 2 bK mt ["self", "left", "up", "right", "down"] (ja K)) (gv : Binds K mt ["self", "left", "up", "right", "down"] []) {c_Box : Addr} (n_Box : W.nsIn K mainGlobals "Box" = some (some (.ref c_Box))) (M_Box : Mk K c_Box bK) (g_Box : mg "Box" = some (.ref c_Box)) {bw : Addr} {kB : FuncData} (ie : FnOk P w K mg base CX0 2 bw kB ["self", "arm"] (gR K)) (hE : Binds K kB ["self", "arm"] []) {c_Cross : Addr} (n_Cross : W.nsIn K mainGlobals "Cross" = some (some (.ref c_Cross))) (M_Cross : Mk K c_Cross bw) (g_Cross : mg "Cross" = some (.ref c_Cross)) {bu : Addr} {kH : FuncData} (ii : FnOk P w K mg base CX0 3 bu kH ["self", "picture"] (gH K)) (iw : Binds K kH ["self", "picture"] []) {c_Shape : Addr} (n_Shape : W.nsIn K mainGlobals "Shape" = some (some (.ref c_Shape))) (M_Shape : Mk K c_Shape bu) (g_Shape : mg "Shape" = some (.ref c_Shape)) {bJ : Addr} {mm : FuncData} (eY : FnOk P w K mg base CX0 2 bJ mm ["self", "one", "other"] (i7 K)) (eN : Binds K mm ["self", "one", "other"] []) {c_Sum : Addr} (n_Sum : W.nsIn K mainGlobals "Sum" = some (some (.ref c_Sum))) (M_Sum : Mk K c_Sum bJ) (g_Sum : mg "Sum" = some (.ref c_Sum)) : FnOk P w K mg base CX0 10 f fd ["_law_script"] (vw K) := by
 refine F.ok FI (fun vs H Q E h => h.1) (fun cdv A outer s H vs Q E hr h => ?_)
 have nd := (FI).nd
 exact ⟨_, aw (bv (i := 1) nd rfl (.inr rfl) (aQ g8 (hr.mono (by decide)) (by rfl) bq d8 iu .nil bh (ab (pv 0) (ab ah af)))) (aw (bv (i := 2) nd rfl (.inr rfl) (aZ fT (pv 1) ah)) (aw (gU (bX (hW hr.units) (aZ fT (aZ jk (pv 1) ah) ah) ah (b7 _)) (aA (bv (i := 2) nd rfl (.inr rfl) (aZ fT (pv 1) (aZ zO ah ah)))) eK) (aw (bv (i := 3) nd rfl (.inl rfl) (aZ fT (aZ jk (pv 1) ah) ah)) (aw (bv (i := 4) nd rfl (.inr rfl) (aZ fT (aQ g8 (hr.mono (by decide)) (by rfl) bq d8 iu .nil bh (ab (pv 0) (ab ah af))) (br aO (ft (ab ah (ab (aZ zO ah ah) af))) (dR yc (by rfl) T.int Gm (ab (rF (hW hr.units) (aZ fT (aZ jk (pv 1) ah) ah) ah (b7 _)) af)) (fun _ _ => rfl)))) (aw (bv (i := 5) nd rfl (.inl rfl) (aZ fT (aZ jk (pv 1) ah) ah)) (aw (bv (i := 6) nd rfl (.inl rfl) (br aO (ft (ab (aZ fT (aQ g8 (hr.mono (by decide)) (by rfl) bq d8 iu .nil bh (ab (pv 0) (ab ah af))) ah) (ab ah af))) (dR yc (by rfl) T.int Gm (ab (rF (hW hr.units) (aZ fT (aZ jk (aQ g8 (hr.mono (by decide)) (by rfl) bq d8 iu .nil bh (ab (pv 0) (ab ah af))) ah) ah) ah (b7 _)) af)) (fun _ _ => rfl))) (aw (zK (i := 7) (hN := nd) (hi0 := rfl) (hx := Or.inl rfl) (ck := (show CmpOk ["_law_script", "_law_first", "_law_left", "_law_up", "_law_right", "_law_down", "_law_arm", "_law_shape", "_law_box_cells", "_law_cross_cells", "_law_box", "_law_cross", "_law_other", "_law_both", "_law_due"] (aj mh) _ ["_law_cell", "_law_first"] [none, some 1] from jg)) (hi := cU (Gz LW (pv 0) (DB ah) (DB ah))) (hg := fun _ => aB (i := 0) (show List.Nodup (["_law_cell", "_law_first"] : List Str) from by decide +kernel) rfl (.inl rfl)) (hs := bg) (ht := fun _ => fi) (he := fun _ => aQ tJ (hr.mono (by decide)) (by rfl) eI ju sO .nil bh (ab (pv 0) (ab (rF (hW hr.units) (aZ fT (aZ jk (pv 1) ah) ah) ah (b7 _)) af)))) (aw (gU (bX (hW hr.units) (bI jA (by rfl) T.len sU (ab (pv 7) af)) ah (b7 _)) (aA (bv (i := 7) nd rfl (.inl rfl) (ft (ab (bd (ab ah (ab ah (ab ah af)))) af)))) eK) (aw (zK (i := 8) (hN := nd) (hi0 := rfl) (hx := Or.inl rfl) (ck := (show CmpOk ["_law_script", "_law_first", "_law_left", "_law_up", "_law_right", "_law_down", "_law_arm", "_law_shape", "_law_box_cells", "_law_cross_cells", "_law_box", "_law_cross", "_law_other", "_law_both", "_law_due"] (aj mh) _ ["_law_dy", "_law_right", "_law_left"] [none, some 4, some 2] from jg)) (hi := yv (by rfl) T.range (ab (dY b5 (pv 3)) (ab (aZ cF (pv 5) ah) af))) (hg := fun _ => aB (i := 0) (show List.Nodup (["_law_dy", "_law_right", "_law_left"] : List Str) from by decide +kernel) rfl (.inl rfl)) (hs := bg) (ht := fun _ => fi) (he := fun _ => bd (ab (pv 0) (ab (dY b5 (pv 2)) (ab (pv 1) af))))) (aw (bv (i := 9) nd rfl (.inl rfl) (aZ cF (fe (show CmpOk ["_law_script", "_law_first", "_law_left", "_law_up", "_law_right", "_law_down", "_law_arm", "_law_shape", "_law_box_cells", "_law_cross_cells", "_law_box", "_law_cross", "_law_other", "_law_both", "_law_due"] (aj mh) _ ["_law_dy"] [none] from jg) (yv (by rfl) T.range (ab (dY b5 (pv 6)) (ab (aZ cF (pv 6) ah) af))) (fun _ => aB (i := 0) (show List.Nodup (["_law_dy"] : List Str) from by decide +kernel) rfl (.inl rfl)) bg (fun _ => fi) (fun _ => bd (ab (pv 0) (ab ah (ab ah af))))) (ft (ab (bd (ab ah (ab (dY b5 (pv 6)) (ab (pv 6) af)))) af)))) (aw (bv (i := 10) nd rfl (.inl rfl) (kd n_Box M_Box gA (hr.mono (by decide)) (by rfl) g_Box gv bh (ab (pv 2) (ab (pv 3) (ab (pv 4) (ab (pv 5) af)))))) (aw (bv (i := 11) nd rfl (.inl rfl) (kd n_Cross M_Cross ie (hr.mono (by decide)) (by rfl) g_Cross hE bh (ab (pv 6) af))) (aw (bv (i := 12) nd rfl (.inl rfl) (kd n_Shape M_Shape ii (hr.mono (by decide)) (by rfl) g_Shape iw bh (ab (aQ hJ (hr.mono (by decide)) (by rfl) bG eo hG .nil bh (ab (pv 7) af)) af))) (aw (gU (PW.pt (xR (kT (dE (aQ iP (hr.mono (by decide)) (by rfl) aN eV iG .nil bh (ab (pv 10) (ab ah (ab (pv 8) af)))) (fun _ => rfl))) (xR (kT (dE (aQ iP (hr.mono (by decide)) (by rfl) aN eV iG .nil bh (ab (pv 11) (ab ah (ab (pv 9) af)))) (fun _ => rfl))) (zc (kT (dE (aQ iP (hr.mono (by decide)) (by rfl) aN eV iG .nil bh (ab (pv 12) (ab ah (ab (pv 7) af)))) (fun _ => rfl))))))) (aA (bT Bv)) eK) (aw (bv (i := 13) nd rfl (.inl rfl) (kd n_Sum M_Sum eY (hr.mono (by decide)) (by rfl) g_Sum eN bh (ab (pv 10) (ab (pv 12) af)))) (aw (gU (kT (dE (aQ iP (hr.mono (by decide)) (by rfl) aN eV iG .nil bh (ab (pv 13) (ab ah (ab (aQ jy (hr.mono (by decide)) (by rfl) aX fc jv .nil bh (ab (pv 8) (ab (pv 7) af))) af)))) (fun _ => rfl))) (aA (bT Bv)) eK) (aw (gU (kT (dE (aQ iP (hr.mono (by decide)) (by rfl) aN eV iG .nil bh (ab (kd n_Sum M_Sum eY (hr.mono (by decide)) (by rfl) g_Sum eN bh (ab (pv 12) (ab (pv 11) af))) (ab ah (ab (aQ jy (hr.mono (by decide)) (by rfl) aX fc jv .nil bh (ab (pv 7) (ab (pv 9) af))) af)))) (fun _ => rfl))) (aA (bT Bv)) eK) (aw (bv (i := 14) nd rfl (.inl rfl) (aQ jy (hr.mono (by decide)) (by rfl) aX fc jv .nil bh (ab (aQ jy (hr.mono (by decide)) (by rfl) aX fc jv .nil bh (ab (pv 8) (ab (pv 7) af))) (ab (ft (ab (bd (ab (dY b5 ah) (ab ah (ab ah af)))) (ab (bd (ab ah (ab ah (ab ah af)))) af))) af)))) (aA (bT (aQ iP (hr.mono (by decide)) (by rfl) aN eV iG .nil bh (ab (kd n_Sum M_Sum eY (hr.mono (by decide)) (by rfl) g_Sum eN bh (ab (pv 13) (ab (kd n_Box M_Box gA (hr.mono (by decide)) (by rfl) g_Box gv bh (ab ah (ab ah (ab ah (ab ah af))))) af))) (ab ah (ab (pv 14) af)))))))))))))))))))))))), Kr h⟩
end
theorem usS {us : List Value} {n : Nat} (h : us.length = n + 1) : ∃ a v, us = a :: v /\ v.length = n := by
 cases us with
 | nil => cases h
 | cons a v => exact ⟨a, v, rfl, Nat.succ.inj h⟩
theorem us1 {us : List Value} (h : us.length = 1) : ∃ a0, us = [a0] := by
 obtain ⟨a0, v0, rfl, h0⟩ := usS h
 cases v0 with
 | nil => exact ⟨a0, rfl⟩
 | cons a v => cases h0
theorem us2 {us : List Value} (h : us.length = 2) : ∃ a0 a1, us = [a0, a1] := by
 obtain ⟨a0, v0, rfl, h0⟩ := usS h
 obtain ⟨a1, v1, rfl, h1⟩ := usS h0
 cases v1 with
 | nil => exact ⟨a0, a1, rfl⟩
 | cons a v => cases h1
theorem us3 {us : List Value} (h : us.length = 3) : ∃ a0 a1 a2, us = [a0, a1, a2] := by
 obtain ⟨a0, v0, rfl, h0⟩ := usS h
 obtain ⟨a1, v1, rfl, h1⟩ := usS h0
 obtain ⟨a2, v2, rfl, h2⟩ := usS h1
 cases v2 with
 | nil => exact ⟨a0, a1, a2, rfl⟩
 | cons a v => cases h2
theorem us5 {us : List Value} (h : us.length = 5) : ∃ a0 a1 a2 a3 a4, us = [a0, a1, a2, a3, a4] := by
 obtain ⟨a0, v0, rfl, h0⟩ := usS h
 obtain ⟨a1, v1, rfl, h1⟩ := usS h0
 obtain ⟨a2, v2, rfl, h2⟩ := usS h1
 obtain ⟨a3, v3, rfl, h3⟩ := usS h2
 obtain ⟨a4, v4, rfl, h4⟩ := usS h3
 cases v4 with
 | nil => exact ⟨a0, a1, a2, a3, a4, rfl⟩
 | cons a v => cases h4
theorem Jv {l : W.OpenLaw} {w : World} {K : W.Frag} {h : Heap} {mg : Str -> Option Value} {fa : Addr} (X : K.In h) (G : h.Ns mainGlobals mg) (hfa : mg "law" = some (.ref fa))
  {c_Box : Addr}
  {c_Cross : Addr}
  {c_Shape : Addr}
  {c_Sum : Addr}
  {c_Form : Addr}
  {iK : Addr} {E3 Et : Option Addr} {El : Array (Option Value)} {DL D2 Ec DJ yb DG : Value}
  {d7 : Addr} {y7 yZ : Option Addr} {zC : Array (Option Value)} {zF zf zk zq rg zE : Value}
  {aU : Addr} {xg xk : Option Addr} {xF : Array (Option Value)} {xx xh xq w8 oQ xD : Value}
  {aL : Addr} {ui ua : Option Addr} {u4 : Array (Option Value)} {uK uP uL uT mG uW : Value}
  {ni : Addr} {Ir HN : Option Addr} {Il : Array (Option Value)} {Ix HJ HI Hr C0 HZ : Value}
  {kD : Addr} {FJ Hf : Option Addr} {Hl : Array (Option Value)} {Fw F5 FM Fv Bh Fp : Value}
  {dU : Addr} {yU y6 : Option Addr} {zb : Array (Option Value)} {y9 yY zu yR qN ze : Value}
  {ci : Addr} {t9 uG : Option Addr} {uw : Array (Option Value)} {uy ur uO uV mE uQ : Value}
  {cK : Addr} {vo wv : Option Addr} {wZ : Array (Option Value)} {vI vq vX wF nw vp : Value}
  {bi : Addr} {oK oi : Option Addr} {oo : Array (Option Value)} {oE oI oG oJ jf oh : Value}
  {bz : Addr} {qf pO : Option Addr} {qv : Array (Option Value)} {pP pF p7 pU jM qq : Value}
  {eW : Addr} {A3 Bq : Option Addr} {AE : Array (Option Value)} {Ad AF Ap zX tR Au : Value}
  {gd : Addr} {Ca Ct : Option Addr} {CA : Array (Option Value)} {Cy BR CG B1 wm Cs : Value}
  {cD : Addr} {Bj Aa : Option Addr} {AN : Array (Option Value)} {Ag Am Bn Aj t8 Be : Value}
  {gb : Addr} {CF Cr : Option Addr} {B8 : Array (Option Value)} {BF CH Ce Cz wQ B6 : Value}
  {iL : Addr} {EX EE : Option Addr} {E6 : Array (Option Value)} {EF Eg Ef DP yu Eu : Value}
  {iH : Addr} {E4 DZ : Option Addr} {ER : Array (Option Value)} {DF Ej Ek D8 x0 D6 : Value}
  {FF : Addr} {JX G0 : Option Addr} {JO : Array (Option Value)} {Jk Fi G6 Ha Bz FN : Value}
  {f_Form___init__ : Addr} {sS sw : Option Addr} {sK : Array (Option Value)} {sv sj si tN k8 sH : Value}
  {f_Form_cells : Addr} {xu xf : Option Addr} {xE : Array (Option Value)} {xl xm xi xA oT xn : Value}
  {f_Form_greater : Addr} {ux uI : Option Addr} {uE : Array (Option Value)} {uu uj uM u1 mz um : Value}
  {bK : Addr} {uz uc : Option Addr} {uJ : Array (Option Value)} {uF uo uA uq mI u3 : Value}
  {bw : Addr} {qU qC : Option Addr} {qK : Array (Option Value)} {rc rK rV rD kK qJ : Value}
  {bu : Addr} {se qD : Option Addr} {rQ : Array (Option Value)} {qH r8 rO qX kN rB : Value}
  {bJ : Addr} {uH uk : Option Addr} {uC : Array (Option Value)} {uD uf uv u0 mx uN : Value}
  {g_ONE_CELL_0 : Addr} {od_ONE_CELL_0 : Option Addr} {n_ONE_CELL_0 : Nat} {sl_ONE_CELL_0 : Array (Option Value)}
  {g_ONE_CELL_1 : Addr} {od_ONE_CELL_1 : Option Addr} {n_ONE_CELL_1 : Nat} {sl_ONE_CELL_1 : Array (Option Value)}
  {t_ONE_CELL_1_0 : Tok}
  {g_ONE_CELL_2 : Addr} {od_ONE_CELL_2 : Option Addr} {n_ONE_CELL_2 : Nat} {sl_ONE_CELL_2 : Array (Option Value)}
  {g_ONE_CELL_3 : Addr} {od_ONE_CELL_3 : Option Addr} {n_ONE_CELL_3 : Nat} {sl_ONE_CELL_3 : Array (Option Value)}
  {t_ONE_CELL_3_0 : Tok}
  {t_ONE_CELL_3_1 : Tok}
  (n_Box : W.nsIn K mainGlobals "Box" = some (some (.ref c_Box)))
  (n_Cross : W.nsIn K mainGlobals "Cross" = some (some (.ref c_Cross)))
  (n_Shape : W.nsIn K mainGlobals "Shape" = some (some (.ref c_Shape)))
  (n_Sum : W.nsIn K mainGlobals "Sum" = some (some (.ref c_Sum)))
  (n_Form : W.nsIn K mainGlobals "Form" = some (some (.ref c_Form)))
  (v9 : W.nsIn K mainGlobals "row_of" = some (some (.ref iK))) (vA : K.lookup iK = some ⟨DL, E3, .func (W.fnOf "row_of" "row_of" (ba jE) (a5 jE) (aj jE) .none D2 Ec DJ Et yb DG), El⟩) (vR : W.codeIn K yb "row_of" = true) (kY : W.keepIn K (.ref iK) = true)
  (nA : W.nsIn K mainGlobals "row_moved" = some (some (.ref d7))) (nO : K.lookup d7 = some ⟨zF, y7, .func (W.fnOf "row_moved" "row_moved" (ba eX) (a5 eX) (aj eX) .none zf zk zq yZ rg zE), zC⟩) (mR : W.codeIn K rg "row_moved" = true) (gh : W.keepIn K (.ref d7) = true)
  (lF : W.nsIn K mainGlobals "picture_of" = some (some (.ref aU))) (l7 : K.lookup aU = some ⟨xx, xg, .func (W.fnOf "picture_of" "picture_of" (ba c9) (a5 c9) (aj c9) .none xh xq w8 xk oQ xD), xF⟩) (lD : W.codeIn K oQ "picture_of" = true) (bE : W.keepIn K (.ref aU) = true)
  (kl : W.nsIn K mainGlobals "stretches_of" = some (some (.ref aL))) (kf : K.lookup aL = some ⟨uK, ui, .func (W.fnOf "stretches_of" "stretches_of" (ba cR) (a5 cR) (aj cR) .none uP uL uT ua mG uW), u4⟩) (jV : W.codeIn K mG "stretches_of" = true) (aR : W.keepIn K (.ref aL) = true)
  (B7 : W.nsIn K mainGlobals "join" = some (some (.ref ni))) (BH : K.lookup ni = some ⟨Ix, Ir, .func (W.fnOf "join" "join" (ba sJ) (a5 sJ) (aj sJ) .none HJ HI Hr HN C0 HZ), Il⟩) (B0 : W.codeIn K C0 "join" = true) (tI : W.keepIn K (.ref ni) = true)
  (zg : W.nsIn K mainGlobals "moved" = some (some (.ref kD))) (yS : K.lookup kD = some ⟨Fw, FJ, .func (W.fnOf "moved" "moved" (ba lK) (a5 lK) (aj lK) .none F5 FM Fv Hf Bh Fp), Hl⟩) (zH : W.codeIn K Bh "moved" = true) (oe : W.keepIn K (.ref kD) = true)
  (nM : W.nsIn K mainGlobals "blocks_of" = some (some (.ref dU))) (nv : K.lookup dU = some ⟨y9, yU, .func (W.fnOf "blocks_of" "blocks_of" (ba eU) (a5 eU) (aj eU) .none yY zu yR y6 qN ze), zb⟩) (nz : W.codeIn K qN "blocks_of" = true) (gk : W.keepIn K (.ref dU) = true)
  (jZ : W.nsIn K mainGlobals "parts_of_sum" = some (some (.ref ci))) (jB : K.lookup ci = some ⟨uy, t9, .func (W.fnOf "parts_of_sum" "parts_of_sum" (ba bM) (a5 bM) (aj bM) .none ur uO uV uG mE uQ), uw⟩) (jW : W.codeIn K mE "parts_of_sum" = true) (dQ : W.keepIn K (.ref ci) = true)
  (kW : W.nsIn K mainGlobals "spread_down" = some (some (.ref cK))) (kX : K.lookup cK = some ⟨vI, vo, .func (W.fnOf "spread_down" "spread_down" (ba eE) (a5 eE) (aj eE) .none vq vX wF wv nw vp), wZ⟩) (kP : W.codeIn K nw "spread_down" = true) (eG : W.keepIn K (.ref cK) = true)
  (fU : W.nsIn K mainGlobals "greater_by_block" = some (some (.ref bi))) (f6 : K.lookup bi = some ⟨oE, oK, .func (W.fnOf "greater_by_block" "greater_by_block" (ba bF) (a5 bF) (aj bF) .none oI oG oJ oi jf oh), oo⟩) (fW : W.codeIn K jf "greater_by_block" = true) (bS : W.keepIn K (.ref bi) = true)
  (gD : W.nsIn K mainGlobals "greater_by_part" = some (some (.ref bz))) (gG : K.lookup bz = some ⟨pP, qf, .func (W.fnOf "greater_by_part" "greater_by_part" (ba cv) (a5 cv) (aj cv) .none pF p7 pU pO jM qq), qv⟩) (gJ : W.codeIn K jM "greater_by_part" = true) (cu : W.keepIn K (.ref bz) = true)
  (pH : W.nsIn K mainGlobals "_law_cell_at" = some (some (.ref eW))) (pW : K.lookup eW = some ⟨Ad, A3, .func (W.fnOf "_law_cell_at" "_law_cell_at" (ba ik) (a5 ik) (aj ik) .none AF Ap zX Bq tR Au), AE⟩) (qB : W.codeIn K tR "_law_cell_at" = true) (d8 : W.keepIn K (.ref eW) = true)
  (sg : W.nsIn K mainGlobals "_law_triple" = some (some (.ref gd))) (sr : K.lookup gd = some ⟨Cy, Ca, .func (W.fnOf "_law_triple" "_law_triple" (ba jw) (a5 jw) (aj jw) .none BR CG B1 Ct wm Cs), CA⟩) (sG : W.codeIn K wm "_law_triple" = true) (ju : W.keepIn K (.ref gd) = true)
  (pk : W.nsIn K mainGlobals "_law_picture" = some (some (.ref cD))) (pG : K.lookup cD = some ⟨Ag, Bj, .func (W.fnOf "_law_picture" "_law_picture" (ba f7) (a5 f7) (aj f7) .none Am Bn Aj Aa t8 Be), AN⟩) (pD : W.codeIn K t8 "_law_picture" = true) (eo : W.keepIn K (.ref cD) = true)
  (tf : W.nsIn K mainGlobals "_law_summed" = some (some (.ref gb))) (sk : K.lookup gb = some ⟨BF, CF, .func (W.fnOf "_law_summed" "_law_summed" (ba jx) (a5 jx) (aj jx) .none CH Ce Cz Cr wQ B6), B8⟩) (tw : W.codeIn K wQ "_law_summed" = true) (fc : W.keepIn K (.ref gb) = true)
  (vL : W.nsIn K mainGlobals "_law_kinds" = some (some (.ref iL))) (wI : K.lookup iL = some ⟨EF, EX, .func (W.fnOf "_law_kinds" "_law_kinds" (ba ka) (a5 ka) (aj ka) .none Eg Ef DP EE yu Eu), E6⟩) (wS : W.codeIn K yu "_law_kinds" = true) (k9 : W.keepIn K (.ref iL) = true)
  (wb : W.nsIn K mainGlobals "_law_cells" = some (some (.ref iH))) (wp : K.lookup iH = some ⟨DF, E4, .func (W.fnOf "_law_cells" "_law_cells" (ba k7) (a5 k7) (aj k7) .none Ej Ek D8 DZ x0 D6), ER⟩) (vO : W.codeIn K x0 "_law_cells" = true) (eV : W.keepIn K (.ref iH) = true)
  (Fy : W.nsIn K mainGlobals "law" = some (some (.ref FF))) (Fo : K.lookup FF = some ⟨Jk, JX, .func (W.fnOf "law" "law" (ba mh) (a5 mh) (aj mh) .none Fi G6 Ha G0 Bz FN), JO⟩) (Hm : W.codeIn K Bz "law" = true) (Fh : W.keepIn K (.ref FF) = true)
  (mn : W.findIn K (.ref c_Form) "__init__" = some (some (.ref f_Form___init__))) (mr : W.isFn K (.ref f_Form___init__) = true) (iX : K.lookup f_Form___init__ = some ⟨sv, sS, .func (W.fnOf "__init__" "Form.__init__" (ba cW) (a5 cW) (aj cW) .none sj si tN sw k8 sH), sK⟩) (iV : W.codeIn K k8 "Form.__init__" = true) (fO : W.keepIn K (.ref f_Form___init__) = true)
  (qY : W.findIn K (.ref c_Box) "cells" = some (some (.ref f_Form_cells))) (fj : W.isFn K (.ref f_Form_cells) = true) (lM : K.lookup f_Form_cells = some ⟨xl, xu, .func (W.fnOf "cells" "Form.cells" (ba fh) (a5 fh) (aj fh) .none xm xi xA xf oT xn), xE⟩) (lQ : W.codeIn K oT "Form.cells" = true) (eh : W.keepIn K (.ref f_Form_cells) = true)
  (nJ : W.findIn K (.ref c_Box) "greater" = some (some (.ref f_Form_greater))) (dF : W.isFn K (.ref f_Form_greater) = true) (kr : K.lookup f_Form_greater = some ⟨uu, ux, .func (W.fnOf "greater" "Form.greater" (ba dP) (a5 dP) (aj dP) .none uj uM u1 uI mz um), uE⟩) (jL : W.codeIn K mz "Form.greater" = true) (cT : W.keepIn K (.ref f_Form_greater) = true)
  (kt : W.findIn K (.ref c_Box) "__init__" = some (some (.ref bK))) (jN : W.isFn K (.ref bK) = true) (jX : K.lookup bK = some ⟨uF, uz, .func (W.fnOf "__init__" "Box.__init__" (ba dG) (a5 dG) (aj dG) .none uo uA uq uc mI u3), uJ⟩) (km : W.codeIn K mI "Box.__init__" = true) (jH : W.keepIn K (.ref bK) = true)
  (ir : W.findIn K (.ref c_Cross) "__init__" = some (some (.ref bw))) (gY : W.isFn K (.ref bw) = true) (hV : K.lookup bw = some ⟨rc, qU, .func (W.fnOf "__init__" "Cross.__init__" (ba cO) (a5 cO) (aj cO) .none rK rV rD qC kK qJ), qK⟩) (iA : W.codeIn K kK "Cross.__init__" = true) (im : W.keepIn K (.ref bw) = true)
  (ip : W.findIn K (.ref c_Shape) "__init__" = some (some (.ref bu))) (g9 : W.isFn K (.ref bu) = true) (il : K.lookup bu = some ⟨qH, se, .func (W.fnOf "__init__" "Shape.__init__" (ba cQ) (a5 cQ) (aj cQ) .none r8 rO qX qD kN rB), rQ⟩) (iB : W.codeIn K kN "Shape.__init__" = true) (g6 : W.keepIn K (.ref bu) = true)
  (jO : W.findIn K (.ref c_Sum) "__init__" = some (some (.ref bJ))) (jC : W.isFn K (.ref bJ) = true) (jI : K.lookup bJ = some ⟨uD, uH, .func (W.fnOf "__init__" "Sum.__init__" (ba dJ) (a5 dJ) (aj dJ) .none uf uv u0 uk mx uN), uC⟩) (kc : W.codeIn K mx "Sum.__init__" = true) (kn : W.keepIn K (.ref bJ) = true)
  (pg_Box : W.plainGet K c_Box Str.empty = true) (hd_Box : W.hasDictIn K c_Box = true) (po_Box : W.plainOver K c_Box = true) (sa_Box : W.findIn K (.ref c_Box) "__setattr__" = some (some (.builtin "object.__setattr__"))) (mk_Box : W.makesIn K c_Box = true) (kc_Box : W.keepIn K (.ref c_Box) = true) (np_Box : W.findIn K (.ref c_Box) "parts" = some none)
  (mm_Box_cells : W.findIn K (.ref c_Box) "cells" = some (some (.ref f_Form_cells)))
  (mm_Box_greater : W.findIn K (.ref c_Box) "greater" = some (some (.ref f_Form_greater)))
  (pg_Cross : W.plainGet K c_Cross Str.empty = true) (hd_Cross : W.hasDictIn K c_Cross = true) (po_Cross : W.plainOver K c_Cross = true) (sa_Cross : W.findIn K (.ref c_Cross) "__setattr__" = some (some (.builtin "object.__setattr__"))) (mk_Cross : W.makesIn K c_Cross = true) (kc_Cross : W.keepIn K (.ref c_Cross) = true) (np_Cross : W.findIn K (.ref c_Cross) "parts" = some none)
  (mm_Cross_cells : W.findIn K (.ref c_Cross) "cells" = some (some (.ref f_Form_cells)))
  (mm_Cross_greater : W.findIn K (.ref c_Cross) "greater" = some (some (.ref f_Form_greater)))
  (pg_Shape : W.plainGet K c_Shape Str.empty = true) (hd_Shape : W.hasDictIn K c_Shape = true) (po_Shape : W.plainOver K c_Shape = true) (sa_Shape : W.findIn K (.ref c_Shape) "__setattr__" = some (some (.builtin "object.__setattr__"))) (mk_Shape : W.makesIn K c_Shape = true) (kc_Shape : W.keepIn K (.ref c_Shape) = true) (np_Shape : W.findIn K (.ref c_Shape) "parts" = some none)
  (mm_Shape_cells : W.findIn K (.ref c_Shape) "cells" = some (some (.ref f_Form_cells)))
  (mm_Shape_greater : W.findIn K (.ref c_Shape) "greater" = some (some (.ref f_Form_greater)))
  (pg_Sum : W.plainGet K c_Sum Str.empty = true) (hd_Sum : W.hasDictIn K c_Sum = true) (po_Sum : W.plainOver K c_Sum = true) (sa_Sum : W.findIn K (.ref c_Sum) "__setattr__" = some (some (.builtin "object.__setattr__"))) (mk_Sum : W.makesIn K c_Sum = true) (kc_Sum : W.keepIn K (.ref c_Sum) = true) (np_Sum : W.findIn K (.ref c_Sum) "parts" = some none)
  (mm_Sum_cells : W.findIn K (.ref c_Sum) "cells" = some (some (.ref f_Form_cells)))
  (mm_Sum_greater : W.findIn K (.ref c_Sum) "greater" = some (some (.ref f_Form_greater)))
  (ig : W.specialIn K (.builtin "object.__class__") "__get__" = some (some (.builtin "getset_descriptor.__get__"))) (it : W.takesIn K (.builtin "object.__class__") = some true)
  (ia_Box : W.findIn K (.ref c_Box) "__class__" = some (some (.builtin "object.__class__"))) (im_Box : W.mroIn K c_Box (.type "object") = some true)
  (io_Box_Box : W.kitOne K (.ref c_Box) (.ref c_Box) = some true)
  (io_Box_Cross : W.kitOne K (.ref c_Box) (.ref c_Cross) = some false)
  (io_Box_Form : W.kitOne K (.ref c_Box) (.ref c_Form) = some true)
  (io_Box_Shape : W.kitOne K (.ref c_Box) (.ref c_Shape) = some false)
  (io_Box_Sum : W.kitOne K (.ref c_Box) (.ref c_Sum) = some false)
  (ia_Cross : W.findIn K (.ref c_Cross) "__class__" = some (some (.builtin "object.__class__"))) (im_Cross : W.mroIn K c_Cross (.type "object") = some true)
  (io_Cross_Box : W.kitOne K (.ref c_Cross) (.ref c_Box) = some false)
  (io_Cross_Cross : W.kitOne K (.ref c_Cross) (.ref c_Cross) = some true)
  (io_Cross_Form : W.kitOne K (.ref c_Cross) (.ref c_Form) = some true)
  (io_Cross_Shape : W.kitOne K (.ref c_Cross) (.ref c_Shape) = some false)
  (io_Cross_Sum : W.kitOne K (.ref c_Cross) (.ref c_Sum) = some false)
  (ia_Shape : W.findIn K (.ref c_Shape) "__class__" = some (some (.builtin "object.__class__"))) (im_Shape : W.mroIn K c_Shape (.type "object") = some true)
  (io_Shape_Box : W.kitOne K (.ref c_Shape) (.ref c_Box) = some false)
  (io_Shape_Cross : W.kitOne K (.ref c_Shape) (.ref c_Cross) = some false)
  (io_Shape_Form : W.kitOne K (.ref c_Shape) (.ref c_Form) = some true)
  (io_Shape_Shape : W.kitOne K (.ref c_Shape) (.ref c_Shape) = some true)
  (io_Shape_Sum : W.kitOne K (.ref c_Shape) (.ref c_Sum) = some false)
  (ia_Sum : W.findIn K (.ref c_Sum) "__class__" = some (some (.builtin "object.__class__"))) (im_Sum : W.mroIn K c_Sum (.type "object") = some true)
  (io_Sum_Box : W.kitOne K (.ref c_Sum) (.ref c_Box) = some false)
  (io_Sum_Cross : W.kitOne K (.ref c_Sum) (.ref c_Cross) = some false)
  (io_Sum_Form : W.kitOne K (.ref c_Sum) (.ref c_Form) = some true)
  (io_Sum_Shape : W.kitOne K (.ref c_Sum) (.ref c_Shape) = some false)
  (io_Sum_Sum : W.kitOne K (.ref c_Sum) (.ref c_Sum) = some true)
  (bs_Form : W.specialIn K (.ref c_Form) "__getattribute__" = some (some (.builtin "type.__getattribute__"))) (br_Form : W.readsIn K c_Form (.type "type") = true) (bf_Form : W.findCls K (.ref c_Form) (.type "type") "__init__" = some (.val (.ref f_Form___init__)))
  (z_int : W.nsIn K mainGlobals "int" = some none)
  (z_isinstance : W.nsIn K mainGlobals "isinstance" = some none)
  (z_len : W.nsIn K mainGlobals "len" = some none)
  (z_max : W.nsIn K mainGlobals "max" = some none)
  (z_min : W.nsIn K mainGlobals "min" = some none)
  (z_range : W.nsIn K mainGlobals "range" = some none)
  (z_reversed : W.nsIn K mainGlobals "reversed" = some none)
  (z_sorted : W.nsIn K mainGlobals "sorted" = some none)
  (z_sum : W.nsIn K mainGlobals "sum" = some none)
  (z_tuple : W.nsIn K mainGlobals "tuple" = some none)
  (y_ONE_CELL : W.nsIn K mainGlobals "ONE_CELL" = some (some (.ref g_ONE_CELL_0)))
  (v_ONE_CELL_0 : K.lookup g_ONE_CELL_0 = some ⟨.type "tuple", od_ONE_CELL_0, .seq #[.ref g_ONE_CELL_1] n_ONE_CELL_0, sl_ONE_CELL_0⟩)
  (v_ONE_CELL_1 : K.lookup g_ONE_CELL_1 = some ⟨.type "tuple", od_ONE_CELL_1, .seq #[.int (0) t_ONE_CELL_1_0, .ref g_ONE_CELL_2] n_ONE_CELL_1, sl_ONE_CELL_1⟩)
  (v_ONE_CELL_2 : K.lookup g_ONE_CELL_2 = some ⟨.type "tuple", od_ONE_CELL_2, .seq #[.ref g_ONE_CELL_3] n_ONE_CELL_2, sl_ONE_CELL_2⟩)
  (v_ONE_CELL_3 : K.lookup g_ONE_CELL_3 = some ⟨.type "tuple", od_ONE_CELL_3, .seq #[.int (0) t_ONE_CELL_3_0, .int (0) t_ONE_CELL_3_1] n_ONE_CELL_3, sl_ONE_CELL_3⟩)
  : ∃ fd : FuncData, (∀ (s : Shared) (v : Value), BindsTo s fd ⟨[v], []⟩ [("_law_script", v)]) /\ ∀ base : Heap, K.In base -> base.Ns mainGlobals mg -> FnOk l.prog w K mg base CX0 10 fa fd ["_law_script"] (vw K) := by
 have e := hfa.symm.trans (W.mg_of X G Fy)
 cases e
 have cN : xw K NS fun C => Cls K C /\ NoAttr K C "parts" := by
  intro N hN C hC
  simp only [NQ, List.not_mem_nil, or_false] at hN
  rcases hN with rfl | rfl | rfl | rfl
  ·rw [n_Box] at hC; cases hC; exact ⟨⟨pg_Box, hd_Box, po_Box, sa_Box⟩, np_Box⟩
  ·rw [n_Cross] at hC; cases hC; exact ⟨⟨pg_Cross, hd_Cross, po_Cross, sa_Cross⟩, np_Cross⟩
  ·rw [n_Shape] at hC; cases hC; exact ⟨⟨pg_Shape, hd_Shape, po_Shape, sa_Shape⟩, np_Shape⟩
  ·rw [n_Sum] at hC; cases hC; exact ⟨⟨pg_Sum, hd_Sum, po_Sum, sa_Sum⟩, np_Sum⟩
 have kU : xw K NS fun C => Cls K C /\ Meth K C "cells" f_Form_cells := by
  intro N hN C hC
  simp only [NQ, List.not_mem_nil, or_false] at hN
  rcases hN with rfl | rfl | rfl | rfl
  ·rw [n_Box] at hC; cases hC; exact ⟨⟨pg_Box, hd_Box, po_Box, sa_Box⟩, ⟨mm_Box_cells, fj, eh⟩⟩
  ·rw [n_Cross] at hC; cases hC; exact ⟨⟨pg_Cross, hd_Cross, po_Cross, sa_Cross⟩, ⟨mm_Cross_cells, fj, eh⟩⟩
  ·rw [n_Shape] at hC; cases hC; exact ⟨⟨pg_Shape, hd_Shape, po_Shape, sa_Shape⟩, ⟨mm_Shape_cells, fj, eh⟩⟩
  ·rw [n_Sum] at hC; cases hC; exact ⟨⟨pg_Sum, hd_Sum, po_Sum, sa_Sum⟩, ⟨mm_Sum_cells, fj, eh⟩⟩
 have i9 : xw K NS fun C => Cls K C /\ Meth K C "greater" f_Form_greater := by
  intro N hN C hC
  simp only [NQ, List.not_mem_nil, or_false] at hN
  rcases hN with rfl | rfl | rfl | rfl
  ·rw [n_Box] at hC; cases hC; exact ⟨⟨pg_Box, hd_Box, po_Box, sa_Box⟩, ⟨mm_Box_greater, dF, cT⟩⟩
  ·rw [n_Cross] at hC; cases hC; exact ⟨⟨pg_Cross, hd_Cross, po_Cross, sa_Cross⟩, ⟨mm_Cross_greater, dF, cT⟩⟩
  ·rw [n_Shape] at hC; cases hC; exact ⟨⟨pg_Shape, hd_Shape, po_Shape, sa_Shape⟩, ⟨mm_Shape_greater, dF, cT⟩⟩
  ·rw [n_Sum] at hC; cases hC; exact ⟨⟨pg_Sum, hd_Sum, po_Sum, sa_Sum⟩, ⟨mm_Sum_greater, dF, cT⟩⟩
 have is_Box : ∃ T : Addr, W.nsIn K mainGlobals "Box" = some (some (.ref T)) /\ mg "Box" = some (.ref T) /\ oj K zU T := ⟨c_Box, n_Box, W.mg_of X G n_Box, bH (fun C hC => by rw [n_Box] at hC; cases hC; exact ⟨⟨⟨pg_Box, hd_Box, po_Box, sa_Box⟩, ia_Box, ig, it, im_Box⟩, io_Box_Box⟩) (bH (fun C hC => by rw [n_Cross] at hC; cases hC; exact ⟨⟨⟨pg_Cross, hd_Cross, po_Cross, sa_Cross⟩, ia_Cross, ig, it, im_Cross⟩, io_Cross_Box⟩) (bH (fun C hC => by rw [n_Shape] at hC; cases hC; exact ⟨⟨⟨pg_Shape, hd_Shape, po_Shape, sa_Shape⟩, ia_Shape, ig, it, im_Shape⟩, io_Shape_Box⟩) (bH (fun C hC => by rw [n_Sum] at hC; cases hC; exact ⟨⟨⟨pg_Sum, hd_Sum, po_Sum, sa_Sum⟩, ia_Sum, ig, it, im_Sum⟩, io_Sum_Box⟩) (rC))))⟩
 have is_Cross : ∃ T : Addr, W.nsIn K mainGlobals "Cross" = some (some (.ref T)) /\ mg "Cross" = some (.ref T) /\ oj K qP T := ⟨c_Cross, n_Cross, W.mg_of X G n_Cross, bH (fun C hC => by rw [n_Box] at hC; cases hC; exact ⟨⟨⟨pg_Box, hd_Box, po_Box, sa_Box⟩, ia_Box, ig, it, im_Box⟩, io_Box_Cross⟩) (bH (fun C hC => by rw [n_Cross] at hC; cases hC; exact ⟨⟨⟨pg_Cross, hd_Cross, po_Cross, sa_Cross⟩, ia_Cross, ig, it, im_Cross⟩, io_Cross_Cross⟩) (bH (fun C hC => by rw [n_Shape] at hC; cases hC; exact ⟨⟨⟨pg_Shape, hd_Shape, po_Shape, sa_Shape⟩, ia_Shape, ig, it, im_Shape⟩, io_Shape_Cross⟩) (bH (fun C hC => by rw [n_Sum] at hC; cases hC; exact ⟨⟨⟨pg_Sum, hd_Sum, po_Sum, sa_Sum⟩, ia_Sum, ig, it, im_Sum⟩, io_Sum_Cross⟩) (rC))))⟩
 have is_Form : ∃ T : Addr, W.nsIn K mainGlobals "Form" = some (some (.ref T)) /\ mg "Form" = some (.ref T) /\ oj K u9 T := ⟨c_Form, n_Form, W.mg_of X G n_Form, bH (fun C hC => by rw [n_Box] at hC; cases hC; exact ⟨⟨⟨pg_Box, hd_Box, po_Box, sa_Box⟩, ia_Box, ig, it, im_Box⟩, io_Box_Form⟩) (bH (fun C hC => by rw [n_Cross] at hC; cases hC; exact ⟨⟨⟨pg_Cross, hd_Cross, po_Cross, sa_Cross⟩, ia_Cross, ig, it, im_Cross⟩, io_Cross_Form⟩) (bH (fun C hC => by rw [n_Shape] at hC; cases hC; exact ⟨⟨⟨pg_Shape, hd_Shape, po_Shape, sa_Shape⟩, ia_Shape, ig, it, im_Shape⟩, io_Shape_Form⟩) (bH (fun C hC => by rw [n_Sum] at hC; cases hC; exact ⟨⟨⟨pg_Sum, hd_Sum, po_Sum, sa_Sum⟩, ia_Sum, ig, it, im_Sum⟩, io_Sum_Form⟩) (rC))))⟩
 have is_Shape : ∃ T : Addr, W.nsIn K mainGlobals "Shape" = some (some (.ref T)) /\ mg "Shape" = some (.ref T) /\ oj K qF T := ⟨c_Shape, n_Shape, W.mg_of X G n_Shape, bH (fun C hC => by rw [n_Box] at hC; cases hC; exact ⟨⟨⟨pg_Box, hd_Box, po_Box, sa_Box⟩, ia_Box, ig, it, im_Box⟩, io_Box_Shape⟩) (bH (fun C hC => by rw [n_Cross] at hC; cases hC; exact ⟨⟨⟨pg_Cross, hd_Cross, po_Cross, sa_Cross⟩, ia_Cross, ig, it, im_Cross⟩, io_Cross_Shape⟩) (bH (fun C hC => by rw [n_Shape] at hC; cases hC; exact ⟨⟨⟨pg_Shape, hd_Shape, po_Shape, sa_Shape⟩, ia_Shape, ig, it, im_Shape⟩, io_Shape_Shape⟩) (bH (fun C hC => by rw [n_Sum] at hC; cases hC; exact ⟨⟨⟨pg_Sum, hd_Sum, po_Sum, sa_Sum⟩, ia_Sum, ig, it, im_Sum⟩, io_Sum_Shape⟩) (rC))))⟩
 have is_Sum : ∃ T : Addr, W.nsIn K mainGlobals "Sum" = some (some (.ref T)) /\ mg "Sum" = some (.ref T) /\ oj K zr T := ⟨c_Sum, n_Sum, W.mg_of X G n_Sum, bH (fun C hC => by rw [n_Box] at hC; cases hC; exact ⟨⟨⟨pg_Box, hd_Box, po_Box, sa_Box⟩, ia_Box, ig, it, im_Box⟩, io_Box_Sum⟩) (bH (fun C hC => by rw [n_Cross] at hC; cases hC; exact ⟨⟨⟨pg_Cross, hd_Cross, po_Cross, sa_Cross⟩, ia_Cross, ig, it, im_Cross⟩, io_Cross_Sum⟩) (bH (fun C hC => by rw [n_Shape] at hC; cases hC; exact ⟨⟨⟨pg_Shape, hd_Shape, po_Shape, sa_Shape⟩, ia_Shape, ig, it, im_Shape⟩, io_Shape_Sum⟩) (bH (fun C hC => by rw [n_Sum] at hC; cases hC; exact ⟨⟨⟨pg_Sum, hd_Sum, po_Sum, sa_Sum⟩, ia_Sum, ig, it, im_Sum⟩, io_Sum_Sum⟩) (rC))))⟩
 have T : Txt K mg := ⟨W.mg_none_of X G z_int, W.mg_none_of X G z_isinstance, W.mg_none_of X G z_len, W.mg_none_of X G z_max, W.mg_none_of X G z_min, W.mg_none_of X G z_range, W.mg_none_of X G z_reversed, W.mg_none_of X G z_sorted, W.mg_none_of X G z_sum, W.mg_none_of X G z_tuple, ⟨_, .ref _, W.mg_of X G y_ONE_CELL, rfl, fun S => rN (xs := [.ref g_ONE_CELL_1]) v_ONE_CELL_0 rfl rfl (N6 (show 1 <= 1000 by decide) (by rw [sizeLine_eq]; decide)) (.cons rfl (.nil)) (fun S => Dens.cons (rN (xs := [.int (0), .ref g_ONE_CELL_2]) v_ONE_CELL_1 rfl rfl (N6 (show 2 <= 1000 by decide) (by rw [sizeLine_eq]; decide)) (.cons ⟨_, rfl⟩ (.cons rfl (.nil))) (fun S => Dens.cons (den_int.mpr rfl) (Dens.cons (rN (xs := [.ref g_ONE_CELL_3]) v_ONE_CELL_2 rfl rfl (N6 (show 1 <= 1000 by decide) (by rw [sizeLine_eq]; decide)) (.cons rfl (.nil)) (fun S => Dens.cons (rN (xs := [.int (0), .int (0)]) v_ONE_CELL_3 rfl rfl (N6 (show 2 <= 1000 by decide) (by rw [sizeLine_eq]; decide)) (.cons ⟨_, rfl⟩ (.cons ⟨_, rfl⟩ (.nil))) (fun S => Dens.cons (den_int.mpr rfl) (Dens.cons (den_int.mpr rfl) (Dens.nil))) S) (Dens.nil)) S) (Dens.nil))) S) (Dens.nil)) S⟩, cN, is_Box, is_Cross, is_Form, is_Shape, is_Sum⟩
 have Bd := cA (st := jE) vA vR kY
 have wa := (Bd).binds (ps := ["pairs"]) fun _ _ _ _ _ _ us hl => by obtain ⟨a0, rfl⟩ := us1 hl; rfl
 have iI := W.mg_of X G v9
 have tZ := cA (st := eX) nO mR gh
 have nq := (tZ).binds (ps := ["row", "by"]) fun _ _ _ _ _ _ us hl => by obtain ⟨a0, a1, rfl⟩ := us2 hl; rfl
 have dX := W.mg_of X G nA
 have m6 := cA (st := cR) kf jV aR
 have bp := (m6).binds (ps := ["picture"]) fun _ _ _ _ _ _ us hl => by obtain ⟨a0, rfl⟩ := us1 hl; rfl
 have aF := W.mg_of X G kl
 have m8 := cA (st := bM) jB jW dQ
 have jR := (m8).binds (ps := ["parts"]) fun _ _ _ _ _ _ us hl => by obtain ⟨a0, rfl⟩ := us1 hl; rfl
 have b8 := W.mg_of X G jZ
 have wo := cA (st := ik) pW qB d8
 have iu := (wo).binds (ps := ["_law_script", "_law_k"]) fun _ _ _ _ _ _ us hl => by obtain ⟨a0, a1, rfl⟩ := us2 hl; rfl
 have bq := W.mg_of X G pH
 have xJ := cA (st := jw) sr sG ju
 have sO := (xJ).binds (ps := ["_law_cell", "_law_far"]) fun _ _ _ _ _ _ us hl => by obtain ⟨a0, a1, rfl⟩ := us2 hl; rfl
 have eI := W.mg_of X G sg
 have wX := cA (st := f7) pG pD eo
 have hG := (wX).binds (ps := ["_law_triples"]) fun _ _ _ _ _ _ us hl => by obtain ⟨a0, rfl⟩ := us1 hl; rfl
 have bG := W.mg_of X G pk
 have xZ := cA (st := jx) sk tw fc
 have jv := (xZ).binds (ps := ["_law_ones", "_law_others"]) fun _ _ _ _ _ _ us hl => by obtain ⟨a0, a1, rfl⟩ := us2 hl; rfl
 have aX := W.mg_of X G tf
 have Bm := cA (st := ka) wI wS k9
 have wx := (Bm).binds (ps := ["_law_form", "_law_due"]) fun _ _ _ _ _ _ us hl => by obtain ⟨a0, a1, rfl⟩ := us2 hl; rfl
 have kb := W.mg_of X G vL
 have mf := cA (st := cW) iX iV fO
 have aV := (mf).binds (ps := ["self", "parts"]) fun _ _ _ _ _ _ us hl => by obtain ⟨a0, a1, rfl⟩ := us2 hl; rfl
 have qR := cA (st := c9) l7 lD bE
 have cE := (qR).binds (ps := ["stretches"]) fun _ _ _ _ _ _ us hl => by obtain ⟨a0, rfl⟩ := us1 hl; rfl
 have bf := W.mg_of X G lF
 have Dk := cA (st := lK) yS zH oe
 have zp := (Dk).binds (ps := ["picture", "dx", "dy"]) fun _ _ _ _ _ _ us hl => by obtain ⟨a0, a1, a2, rfl⟩ := us3 hl; rfl
 have lR := W.mg_of X G zg
 have tY := cA (st := eU) nv nz gk
 have m5 := (tY).binds (ps := ["picture"]) fun _ _ _ _ _ _ us hl => by obtain ⟨a0, rfl⟩ := us1 hl; rfl
 have eT := W.mg_of X G nM
 have nH := cA (st := dG) jX km jH
 have gv := (nH).binds (ps := ["self", "left", "up", "right", "down"]) fun _ _ _ _ _ _ us hl => by obtain ⟨a0, a1, a2, a3, a4, rfl⟩ := us5 hl; rfl
 have ln := cA (st := cO) hV iA im
 have hE := (ln).binds (ps := ["self", "arm"]) fun _ _ _ _ _ _ us hl => by obtain ⟨a0, a1, rfl⟩ := us2 hl; rfl
 have nj := cA (st := dJ) jI kc kn
 have eN := (nj).binds (ps := ["self", "one", "other"]) fun _ _ _ _ _ _ us hl => by obtain ⟨a0, a1, a2, rfl⟩ := us3 hl; rfl
 have Gg := cA (st := sJ) BH B0 tI
 have BQ := (Gg).binds (ps := ["one", "other"]) fun _ _ _ _ _ _ us hl => by obtain ⟨a0, a1, rfl⟩ := us2 hl; rfl
 have pR := W.mg_of X G B7
 have lg := cA (st := cQ) il iB g6
 have iw := (lg).binds (ps := ["self", "picture"]) fun _ _ _ _ _ _ us hl => by obtain ⟨a0, a1, rfl⟩ := us2 hl; rfl
 have oV := cA (st := eE) kX kP eG
 have kQ := (oV).binds (ps := ["picture", "by"]) fun _ _ _ _ _ _ us hl => by obtain ⟨a0, a1, rfl⟩ := us2 hl; rfl
 have cH := W.mg_of X G kW
 have j5 := cA (st := bF) f6 fW bS
 have fV := (j5).binds (ps := ["picture", "block"]) fun _ _ _ _ _ _ us hl => by obtain ⟨a0, a1, rfl⟩ := us2 hl; rfl
 have bm := W.mg_of X G fU
 have kG := cA (st := cv) gG gJ cu
 have gw := (kG).binds (ps := ["picture", "blocks"]) fun _ _ _ _ _ _ us hl => by obtain ⟨a0, a1, rfl⟩ := us2 hl; rfl
 have bO := W.mg_of X G gD
 have mW := cA (st := dP) kr jL cT
 have jT := (mW).binds (ps := ["self", "picture"]) fun _ _ _ _ _ _ us hl => by obtain ⟨a0, a1, rfl⟩ := us2 hl; rfl
 have qO := cA (st := fh) lM lQ eh
 have lL := (qO).binds (ps := ["self"]) fun _ _ _ _ _ _ us hl => by obtain ⟨a0, rfl⟩ := us1 hl; rfl
 have A1 := cA (st := k7) wp vO eV
 have iG := (A1).binds (ps := ["_law_form", "_law_kind", "_law_triples"]) fun _ _ _ _ _ _ us hl => by obtain ⟨a0, a1, a2, rfl⟩ := us3 hl; rfl
 have aN := W.mg_of X G wb
 have Lo := cA (st := mh) Fo Hm Fh
 have g_Box := W.mg_of X G n_Box
 have g_Cross := W.mg_of X G n_Cross
 have g_Shape := W.mg_of X G n_Shape
 have g_Sum := W.mg_of X G n_Sum
 have g_Form := W.mg_of X G n_Form
 have M_Box : Mk K c_Box bK := ⟨mk_Box, kt, jN, kc_Box⟩
 have M_Cross : Mk K c_Cross bw := ⟨mk_Cross, ir, gY, kc_Cross⟩
 have M_Shape : Mk K c_Shape bu := ⟨mk_Shape, ip, g9, kc_Shape⟩
 have M_Sum : Mk K c_Sum bJ := ⟨mk_Sum, jO, jC, kc_Sum⟩
 have cf_Form : ClsFn K c_Form "__init__" f_Form___init__ := ⟨bs_Form, br_Form, bf_Form, fO⟩
 refine ⟨W.fnOf "law" "law" (ba mh) (a5 mh) (aj mh) .none Fi G6 Ha G0 Bz FN, fun s v => .of_eq rfl, fun base _ _ => ?_⟩
 have aW : FnOk l.prog w K mg base CX0 1 f_Form___init__ _ ["self", "parts"] (cP K) := tO mf T
 have g8 : FnOk l.prog w K mg base CX0 1 eW _ ["_law_script", "_law_k"] (kI K) := A4 wo T
 have wT : FnOk l.prog w K mg base CX0 1 iL _ ["_law_form", "_law_due"] (n8 K) := Er Bm T
 have hJ : FnOk l.prog w K mg base CX0 1 cD _ ["_law_triples"] (iM K) := zY wX T
 have jy : FnOk l.prog w K mg base CX0 1 gb _ ["_law_ones", "_law_others"] (lO K) := Cu xZ T
 have tJ : FnOk l.prog w K mg base CX0 1 gd _ ["_law_cell", "_law_far"] (lW K) := Cj xJ T
 have jU : FnOk l.prog w K mg base CX0 1 ci _ ["parts"] (fN K) := ug m8 T
 have mU : FnOk l.prog w K mg base CX0 1 d7 _ ["row", "by"] (jq K) := zh tZ T
 have wJ : FnOk l.prog w K mg base CX0 1 iK _ ["pairs"] (nV K) := EG Bd T
 have bn : FnOk l.prog w K mg base CX0 1 aL _ ["picture"] (c5 K) := ul m6 T
 have gA : FnOk l.prog w K mg base CX0 2 bK _ ["self", "left", "up", "right", "down"] (ja K) := ue nH T aW aV cf_Form g_Form
 have ie : FnOk l.prog w K mg base CX0 2 bw _ ["self", "arm"] (gR K) := r9 ln T aW aV cf_Form g_Form
 have eY : FnOk l.prog w K mg base CX0 2 bJ _ ["self", "one", "other"] (i7 K) := uR nj T jU b8 dQ jR aW aV cf_Form g_Form
 have nc : FnOk l.prog w K mg base CX0 2 dU _ ["picture"] (jl K) := zQ tY T bn aF aR bp
 have zB : FnOk l.prog w K mg base CX0 2 kD _ ["picture", "dx", "dy"] (qE K) := Hi Dk T mU dX gh nq
 have cG : FnOk l.prog w K mg base CX0 2 aU _ ["stretches"] (eD K) := xc qR T wJ iI kY wa
 have ii : FnOk l.prog w K mg base CX0 3 bu _ ["self", "picture"] (gH K) := rR lg T nc eT gk m5 aW aV cf_Form g_Form
 have Cm : FnOk l.prog w K mg base CX0 3 ni _ ["one", "other"] (vh K) := IB Gg T cG bf bE cE bn aF aR bp
 have kS : FnOk l.prog w K mg base CX0 4 cK _ ["picture", "by"] (gP K) := wd oV T Cm pR tI BQ zB lR oe zp
 have f8 : FnOk l.prog w K mg base CX0 5 bi _ ["picture", "block"] (dw K) := oH j5 T bn aF aR bp kS cH eG kQ cG bf bE cE
 have gO : FnOk l.prog w K mg base CX0 6 bz _ ["picture", "blocks"] (eg K) := qw kG T f8 bm bS fV cG bf bE cE
 have jY : FnOk l.prog w K mg base CX0 7 f_Form_greater _ ["self", "picture"] (fQ K) := uU mW T gO bO cu gw
 have lV : FnOk l.prog w K mg base CX0 8 f_Form_cells _ ["self"] (iC K) := w9 qO T jY jT i9
 have iP : FnOk l.prog w K mg base CX0 9 iH _ ["_law_form", "_law_kind", "_law_triples"] (nR K) := E1 A1 T hJ bG eo hG wT kb k9 wx lV lL kU
 exact JY Lo T g8 bq d8 iu tJ eI ju sO hJ bG eo hG iP aN eV iG jy aX fc jv gA gv n_Box M_Box g_Box ie hE n_Cross M_Cross g_Cross ii iw n_Shape M_Shape g_Shape eY eN n_Sum M_Sum g_Sum
theorem LK {l : W.OpenLaw} {q : Program} {loose : List Str} {XP : (Str -> Option Value) -> Heap -> Prop} {YP : World -> Heap -> Prop} {d : DefRec} {K : Params -> W.Frag} (hn : l.most = some 63) (hdf : d.params.defaults = [])
  (hY : ∀ (w : World) (h : Heap), YP w h -> (K w.params).In h)
  (F : ∀ (w : World) (mg : Str -> Option Value) (fa : Addr) (h : Heap), (K w.params).In h -> h.Ns mainGlobals mg -> mg d.name = some (.ref fa) ->
   ∃ fd : FuncData, (∀ (s : Shared) (u : Value), BindsTo s fd ⟨[u], []⟩ [("_law_script", u)]) /\ ∀ base : Heap, (K w.params).In base -> base.Ns mainGlobals mg -> FnOk l.prog w (K w.params) mg base CX0 10 fa fd ["_law_script"] (vw (K w.params))) :
  W.WalkO q loose XP YP l.row.toRowW d [] (fun f vs => PySem.call f vs) :=
 L2.HF (n := 63) (k := 10) (x := "_law_script") (CX := fun _ => CX0) (sp := fun w => vw (K w.params)) hn (by decide) hdf ⟨rfl, by decide, by decide⟩ hY F (fun _ H a ns hl _ hS => M.D9 hS (GD ns hl)) fun _ _ _ _ _ z => z
end Lw
open PySem PySem.W PyProof.Rows
noncomputable def Hd.q : Program := view PySem.Challenge.pw_shapethin_k31_forms_and_their_cells [0, 2, 3, 5, 6, 8, 9, 10, 11, 13, 14, 15, 16, 17, 18, 19, 20, 21, 22, 23, 25, 26, 27, 28, 29, 30, 31]
local macro_rules | `(tactic| o_head $H) => `(tactic| (refine holds_open (q := Hd.q) (loose := []) (Xt := fun s => xlAt Hd.q [] s && recOk (RowW.records (OpenRow.toRowW (OpenLaw.row PySem.Challenge.rw_shapethin_k31_forms_and_their_cells))) s) (XP := XL Hd.q []) (Yf := Hook.obs $H) (Ya := Hook.val $H) (YP := Hook.says $H) (N := 100000) ?hl (Hook.of $H) (Hook.keeps $H) (fun s e => xl_of s (Bool.and_eq_true_iff.mp e).1) XL.keeps (by rfl) (by rfl) (by rfl) (fun s e => recFacts_of (Bool.and_eq_true_iff.mp e).2) (by rfl) (by assumption) (by decide +kernel) ⟨rfl, rfl, rfl, rfl, rfl, by decide +kernel⟩ ?hw ?hc; (case hl => exact Hd.Iw (boot_open (by rfl) rfl (fun s => rfl)) (by intro w; kernel_rfl)); (case hw => w_witness2)))
set_option maxRecDepth 100000 in
set_option maxHeartbeats 0 in
theorem PySem.Challenge.cw_shapethin_k31_forms_and_their_cells_holds : PySem.Challenge.rw_shapethin_k31_forms_and_their_cells.Holds := by
 w_on; refine holds_law (Hd.Hq (by kernel_rfl)) fun said => ?_; k_head
 k_fill
 refine Lw.LK (l := PySem.Challenge.rw_shapethin_k31_forms_and_their_cells) rfl rfl (fun w h Y => W.kIn_of Y) ?F
 case F =>
  intro w mg fa h KX G hmg
  refine' Lw.Jv KX G hmg ?n_Box ?n_Cross ?n_Shape ?n_Sum ?n_Form ?v9 ?vA ?vR ?kY ?nA ?nO ?mR ?gh ?lF ?l7 ?lD ?bE ?kl ?kf ?jV ?aR ?B7 ?BH ?B0 ?tI ?zg ?yS ?zH ?oe ?nM ?nv ?nz ?gk ?jZ ?jB ?jW ?dQ ?kW ?kX ?kP ?eG ?fU ?f6 ?fW ?bS ?gD ?gG ?gJ ?cu ?pH ?pW ?qB ?d8 ?sg ?sr ?sG ?ju ?pk ?pG ?pD ?eo ?tf ?sk ?tw ?fc ?vL ?wI ?wS ?k9 ?wb ?wp ?vO ?eV ?Fy ?Fo ?Hm ?Fh ?mn ?mr ?iX ?iV ?fO ?qY ?fj ?lM ?lQ ?eh ?nJ ?dF ?kr ?jL ?cT ?kt ?jN ?jX ?km ?jH ?ir ?gY ?hV ?iA ?im ?ip ?g9 ?il ?iB ?g6 ?jO ?jC ?jI ?kc ?kn ?pg_Box ?hd_Box ?po_Box ?sa_Box ?mk_Box ?kc_Box ?np_Box ?mm_Box_cells ?mm_Box_greater ?pg_Cross ?hd_Cross ?po_Cross ?sa_Cross ?mk_Cross ?kc_Cross ?np_Cross ?mm_Cross_cells ?mm_Cross_greater ?pg_Shape ?hd_Shape ?po_Shape ?sa_Shape ?mk_Shape ?kc_Shape ?np_Shape ?mm_Shape_cells ?mm_Shape_greater ?pg_Sum ?hd_Sum ?po_Sum ?sa_Sum ?mk_Sum ?kc_Sum ?np_Sum ?mm_Sum_cells ?mm_Sum_greater ?ig ?it ?ia_Box ?im_Box ?io_Box_Box ?io_Box_Cross ?io_Box_Form ?io_Box_Shape ?io_Box_Sum ?ia_Cross ?im_Cross ?io_Cross_Box ?io_Cross_Cross ?io_Cross_Form ?io_Cross_Shape ?io_Cross_Sum ?ia_Shape ?im_Shape ?io_Shape_Box ?io_Shape_Cross ?io_Shape_Form ?io_Shape_Shape ?io_Shape_Sum ?ia_Sum ?im_Sum ?io_Sum_Box ?io_Sum_Cross ?io_Sum_Form ?io_Sum_Shape ?io_Sum_Sum ?bs_Form ?br_Form ?bf_Form ?z_int ?z_isinstance ?z_len ?z_max ?z_min ?z_range ?z_reversed ?z_sorted ?z_sum ?z_tuple ?y_ONE_CELL ?v_ONE_CELL_0 ?v_ONE_CELL_1 ?v_ONE_CELL_2 ?v_ONE_CELL_3
  (case n_Box => k_is)
  (case n_Cross => k_is)
  (case n_Shape => k_is)
  (case n_Sum => k_is)
  (case n_Form => k_is)
  (case v9 => k_is)
  (case vA => k_is)
  (case vR => k_is)
  (case kY => k_is)
  (case nA => k_is)
  (case nO => k_is)
  (case mR => k_is)
  (case gh => k_is)
  (case lF => k_is)
  (case l7 => k_is)
  (case lD => k_is)
  (case bE => k_is)
  (case kl => k_is)
  (case kf => k_is)
  (case jV => k_is)
  (case aR => k_is)
  (case B7 => k_is)
  (case BH => k_is)
  (case B0 => k_is)
  (case tI => k_is)
  (case zg => k_is)
  (case yS => k_is)
  (case zH => k_is)
  (case oe => k_is)
  (case nM => k_is)
  (case nv => k_is)
  (case nz => k_is)
  (case gk => k_is)
  (case jZ => k_is)
  (case jB => k_is)
  (case jW => k_is)
  (case dQ => k_is)
  (case kW => k_is)
  (case kX => k_is)
  (case kP => k_is)
  (case eG => k_is)
  (case fU => k_is)
  (case f6 => k_is)
  (case fW => k_is)
  (case bS => k_is)
  (case gD => k_is)
  (case gG => k_is)
  (case gJ => k_is)
  (case cu => k_is)
  (case pH => k_is)
  (case pW => k_is)
  (case qB => k_is)
  (case d8 => k_is)
  (case sg => k_is)
  (case sr => k_is)
  (case sG => k_is)
  (case ju => k_is)
  (case pk => k_is)
  (case pG => k_is)
  (case pD => k_is)
  (case eo => k_is)
  (case tf => k_is)
  (case sk => k_is)
  (case tw => k_is)
  (case fc => k_is)
  (case vL => k_is)
  (case wI => k_is)
  (case wS => k_is)
  (case k9 => k_is)
  (case wb => k_is)
  (case wp => k_is)
  (case vO => k_is)
  (case eV => k_is)
  (case Fy => k_is)
  (case Fo => k_is)
  (case Hm => k_is)
  (case Fh => k_is)
  (case mn => k_is)
  (case mr => k_is)
  (case iX => k_is)
  (case iV => k_is)
  (case fO => k_is)
  (case qY => k_is)
  (case fj => k_is)
  (case lM => k_is)
  (case lQ => k_is)
  (case eh => k_is)
  (case nJ => k_is)
  (case dF => k_is)
  (case kr => k_is)
  (case jL => k_is)
  (case cT => k_is)
  (case kt => k_is)
  (case jN => k_is)
  (case jX => k_is)
  (case km => k_is)
  (case jH => k_is)
  (case ir => k_is)
  (case gY => k_is)
  (case hV => k_is)
  (case iA => k_is)
  (case im => k_is)
  (case ip => k_is)
  (case g9 => k_is)
  (case il => k_is)
  (case iB => k_is)
  (case g6 => k_is)
  (case jO => k_is)
  (case jC => k_is)
  (case jI => k_is)
  (case kc => k_is)
  (case kn => k_is)
  (case pg_Box => k_is)
  (case hd_Box => k_is)
  (case po_Box => k_is)
  (case sa_Box => k_is)
  (case mk_Box => k_is)
  (case kc_Box => k_is)
  (case np_Box => k_is)
  (case mm_Box_cells => k_is)
  (case mm_Box_greater => k_is)
  (case pg_Cross => k_is)
  (case hd_Cross => k_is)
  (case po_Cross => k_is)
  (case sa_Cross => k_is)
  (case mk_Cross => k_is)
  (case kc_Cross => k_is)
  (case np_Cross => k_is)
  (case mm_Cross_cells => k_is)
  (case mm_Cross_greater => k_is)
  (case pg_Shape => k_is)
  (case hd_Shape => k_is)
  (case po_Shape => k_is)
  (case sa_Shape => k_is)
  (case mk_Shape => k_is)
  (case kc_Shape => k_is)
  (case np_Shape => k_is)
  (case mm_Shape_cells => k_is)
  (case mm_Shape_greater => k_is)
  (case pg_Sum => k_is)
  (case hd_Sum => k_is)
  (case po_Sum => k_is)
  (case sa_Sum => k_is)
  (case mk_Sum => k_is)
  (case kc_Sum => k_is)
  (case np_Sum => k_is)
  (case mm_Sum_cells => k_is)
  (case mm_Sum_greater => k_is)
  (case ig => k_is)
  (case it => k_is)
  (case ia_Box => k_is)
  (case im_Box => k_is)
  (case io_Box_Box => kit_is)
  (case io_Box_Cross => kit_is)
  (case io_Box_Form => kit_is)
  (case io_Box_Shape => kit_is)
  (case io_Box_Sum => kit_is)
  (case ia_Cross => k_is)
  (case im_Cross => k_is)
  (case io_Cross_Box => kit_is)
  (case io_Cross_Cross => kit_is)
  (case io_Cross_Form => kit_is)
  (case io_Cross_Shape => kit_is)
  (case io_Cross_Sum => kit_is)
  (case ia_Shape => k_is)
  (case im_Shape => k_is)
  (case io_Shape_Box => kit_is)
  (case io_Shape_Cross => kit_is)
  (case io_Shape_Form => kit_is)
  (case io_Shape_Shape => kit_is)
  (case io_Shape_Sum => kit_is)
  (case ia_Sum => k_is)
  (case im_Sum => k_is)
  (case io_Sum_Box => kit_is)
  (case io_Sum_Cross => kit_is)
  (case io_Sum_Form => kit_is)
  (case io_Sum_Shape => kit_is)
  (case io_Sum_Sum => kit_is)
  (case bs_Form => k_is)
  (case br_Form => k_is)
  (case bf_Form => k_is)
  (case z_int => k_is)
  (case z_isinstance => k_is)
  (case z_len => k_is)
  (case z_max => k_is)
  (case z_min => k_is)
  (case z_range => k_is)
  (case z_reversed => k_is)
  (case z_sorted => k_is)
  (case z_sum => k_is)
  (case z_tuple => k_is)
  (case y_ONE_CELL => k_is)
  (case v_ONE_CELL_0 => k_is)
  (case v_ONE_CELL_1 => k_is)
  (case v_ONE_CELL_2 => k_is)
  (case v_ONE_CELL_3 => k_is)

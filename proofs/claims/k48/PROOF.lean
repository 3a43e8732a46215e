import PyProof.Rows.All
import Wide.All
import OpenK.AllK
import Wide.FinOn
import Lean
import PyProof.EqAt
import PyProof.EqKinds
import PyProof.TupleCall
import PySem.Challenge.RW_shapethin_k48_corners_and_edges
set_option Elab.async false
set_option genSizeOf false
set_option bootstrap.genMatcherCode false
set_option compiler.extract_closed false
set_option Elab.async false
set_option linter.all false
set_option maxRecDepth 100000
noncomputable section
namespace L2
open PySem PySem.Spec PyProof.Rows
abbrev Key := Sum Int Str
def keyIs : Key -> Value -> Bool
 | .inl k, v => Value.isInt k v
 | .inr x, v => Value.isStrOf x v
def keyH (w : World) : Key -> Int
 | .inl k => hashInt k
 | .inr x => hashStr w x
theorem keyIs_shape : ∀ {k : Key} {v : Value}, keyIs k v = true -> (∃ i t, k = Sum.inl i /\ v = Value.int i t) \/ (∃ x t, k = Sum.inr x /\ v = Value.str x t)
 | .inl i, v, h => by
  obtain ⟨t, e⟩ := Value.isInt_shape (k := i) (v := v) h
  exact .inl ⟨i, t, rfl, e⟩
 | .inr x, v, h => by
  obtain ⟨t, e⟩ := Value.isStrOf_shape (x := x) (v := v) h
  exact .inr ⟨x, t, rfl, e⟩
theorem keyIs_int (i : Int) (t : Tok) : keyIs (.inl i) (.int i t) = true := by simp [keyIs, Value.isInt]
theorem keyIs_str (x : Str) (t : Tok) : keyIs (.inr x) (.str x t) = true := by simp [keyIs, Value.isStrOf]
theorem key_ll (a b : Int) : decide ((Sum.inl a : Key) = Sum.inl b) = (a == b) := by
 by_cases e : a = b
 ·subst e; simp
 ·have h : ¬ (Sum.inl a : Key) = Sum.inl b := fun q => e (Sum.inl.inj q)
  rw [decide_eq_false h]
  exact (beq_eq_false_iff_ne.mpr e).symm
theorem key_rr (a b : Str) : decide ((Sum.inr a : Key) = Sum.inr b) = decide (a = b) := by
 by_cases e : a = b
 ·subst e; simp
 ·have h : ¬ (Sum.inr a : Key) = Sum.inr b := fun q => e (Sum.inr.inj q)
  rw [decide_eq_false h, decide_eq_false e]
theorem key_lr (a : Int) (b : Str) : decide ((Sum.inl a : Key) = Sum.inr b) = false := decide_eq_false (fun q => nomatch q)
theorem key_rl (a : Str) (b : Int) : decide ((Sum.inr a : Key) = Sum.inl b) = false := decide_eq_false (fun q => nomatch q)
def mixKind (prog : Program) (w : World) : PySem.KeyKind prog w Key where
 is := keyIs
 hash := keyH w
 inj := fun v a b ha hb => by
  rcases keyIs_shape ha with ⟨i, t, rfl, rfl⟩ | ⟨x, t, rfl, rfl⟩
  ·rcases keyIs_shape hb with ⟨j, u, rfl, e⟩ | ⟨y, u, rfl, e⟩
   ·injection e with e1 _; rw [e1]
   ·exact nomatch e
  ·rcases keyIs_shape hb with ⟨j, u, rfl, e⟩ | ⟨y, u, rfl, e⟩
   ·exact nomatch e
   ·injection e with e1 _; rw [e1]
 byValue := fun k v h => by
  rcases keyIs_shape h with ⟨i, t, rfl, rfl⟩ | ⟨x, t, rfl, rfl⟩ <;> rfl
 pyHash := fun hv h => by
  rcases keyIs_shape hv with ⟨i, t, rfl, rfl⟩ | ⟨x, t, rfl, rfl⟩
  ·exact wpAny_pyHash_int h
  ·exact wpAny_pyHash_str h
 eqBool := fun hu hv h => by
  rcases keyIs_shape hu with ⟨i, t, rfl, rfl⟩ | ⟨x, t, rfl, rfl⟩
  ·rcases keyIs_shape hv with ⟨j, u, rfl, rfl⟩ | ⟨y, u, rfl, rfl⟩
   ·rw [key_ll] at h; exact wpAny_eqBool_int h
   ·rw [key_lr] at h; exact SeqAt.EqAt.int_str i t y u _ _ _ _ h
  ·rcases keyIs_shape hv with ⟨j, u, rfl, rfl⟩ | ⟨y, u, rfl, rfl⟩
   ·rw [key_rl] at h; exact SeqAt.EqAt.str_int x t j u _ _ _ _ h
   ·rw [key_rr] at h; exact wpAny_eqBool_str h
 «strs» := fun k x t v h => by
  rcases keyIs_shape h with ⟨i, u, rfl, e⟩ | ⟨y, u, rfl, e⟩
  ·exact nomatch e
  ·injection e with e1 _
   subst e1
   cases v <;> rfl
theorem mixKind_int (prog : Program) (w : World) (i : Int) (t : Tok) : (mixKind prog w).is (.inl i) (.int i t) = true := keyIs_int i t
theorem mixKind_str (prog : Program) (w : World) (x : Str) (t : Tok) : (mixKind prog w).is (.inr x) (.str x t) = true := keyIs_str x t
inductive V where
 | non | bl (b : Bool) | int (i : Int) | str (x : Str) | byt (b : Array UInt8) | flt (b : UInt64) | ref (a : Addr) | ty (n : String)
 deriving DecidableEq
def RelV : V -> Value -> Prop
 | .non, u => u = Value.none
 | .bl b, u => u = Value.bool b
 | .int i, u => ∃ t, u = Value.int i t
 | .str x, u => ∃ t, u = Value.str x t
 | .byt b, u => ∃ t, u = Value.bytes b t
 | .flt b, u => ∃ t, u = Value.float b t
 | .ref a, u => u = Value.ref a
 | .ty n, u => u = Value.type n
abbrev Vals : List V -> List Value -> Prop := Paired RelV
theorem Vals.length {xs : List V} {us : List Value} (r : Vals xs us) : xs.length = us.length := Paired.length r
theorem Vals.get : ∀ {xs : List V} {us : List Value} {i : Nat} {x : V}, Vals xs us -> xs[i]? = some x -> ∃ u, us[i]? = some u /\ RelV x u
 | _, _, _, _, .nil, e => by simp at e
 | _, _, 0, _, .cons r _, e => by simp at e; subst e; exact ⟨_, rfl, r⟩
 | _, _, i + 1, x, .cons _ t, e => by
  obtain ⟨u, h1, h2⟩ := Vals.get (i := i) (x := x) t (by simpa using e)
  exact ⟨u, by simpa using h1, h2⟩
theorem Vals.set {x : V} {u : Value} (r : RelV x u) : ∀ {xs : List V} {us : List Value} (i : Nat), Vals xs us -> Vals (xs.set i x) (us.set i u)
 | _, _, _, .nil => .nil
 | _, _, 0, .cons _ t => .cons r t
 | _, _, i + 1, .cons q t => .cons q (Vals.set r i t)
theorem Vals.append : ∀ {xs ys : List V} {us ws : List Value}, Vals xs us -> Vals ys ws -> Vals (xs ++ ys) (us ++ ws)
 | _, _, _, _, .nil, s => s
 | _, _, _, _, .cons r t, s => .cons r (Vals.append t s)
def RelO : Option V -> Option Value -> Prop
 | some v, some u => RelV v u
 | none, none => True
 | _, _ => False
def KV {κ : Type} : List (κ × V) -> List (κ × Value) -> Prop := Paired fun (p : κ × V) (q : κ × Value) => p.1 = q.1 /\ RelV p.2 q.2
def kV : Key -> V
 | .inl i => .int i
 | .inr x => .str x
inductive HO where
  | lst (xs : List V)
  | tup (xs : List V)
  | dK (kvs : List (Key × V)) | dT (kvs : List (List Key × V))
  | set (S : Int -> Bool) (n : Nat)
  | ins (C dx : Addr) (fs : List (Str × V))
  | own (x : Addr)
  | xd (fs : List (Str × V))
  | met (f x : Addr)
  | rng (lo hi : Int)
  | frz (o : Obj) (u : HO)
  | tbl (ps : Array Value)
  | ext (φ : Heap -> Prop)
abbrev Hp := Addr -> Option HO
def upd (H : Hp) (a : Addr) (o : HO) : Hp := fun b => if b = a then some o else H b
theorem upd_same {H : Hp} {a : Addr} {o : HO} : upd H a o a = some o := by unfold upd; rw [if_pos rfl]
theorem upd_ne {H : Hp} {a b : Addr} {o : HO} (h : b ≠ a) : upd H a o b = H b := by unfold upd; rw [if_neg h]
theorem ne_of {H : Hp} {a b : Addr} {o u : HO} (h : H a = some o) (h' : H b = some u) (d : o ≠ u) : a ≠ b := by
 intro e; subst e; rw [h] at h'; exact d (Option.some.inj h')
theorem ne_of_none {H : Hp} {a b : Addr} {o : HO} (h : H a = some o) (h' : H b = none) : a ≠ b := by
 intro e; subst e; rw [h] at h'; cases h'
section
variable (P : Program) (w : World)
def ObjOk (H : Hp) (h : Heap) (a : Addr) : HO -> Prop
 | .lst xs => xs.length <= sizeLine /\ ∃ (its : List Value) (n : Nat), Vals xs its /\ h.get? a = some { cls := .type "list", data := .seq its.toArray n }
 | .tup xs => xs.length <= sizeLine /\ ∃ its : List Value, Vals xs its /\ IsTup h a its.toArray
 | .dK kvs => kvs.length <= sizeLine /\ (a == sysModules) = false /\ ∃ vs, KV kvs vs /\ h.DictOf (mixKind P w) a vs
 | .dT kvs => kvs.length <= sizeLine /\ (a == sysModules) = false /\ ∃ xs : List (List Key × Addr × Value),
   Paired (fun (p : List Key × V) (q : List Key × Addr × Value) => p.1 = q.1 /\ H q.2.1 = some (.tup (p.1.map kV)) /\ RelV p.2 q.2.2) kvs xs /\
   ∃ o es ep, h.get? a = some o /\ o.ExactDict /\ o.data = .dict es ep /\ es.toList = xs.map (entryOfKey (tupleKind (mixKind P w))) /\ (xs.map (·.1)).Nodup
 | .set S n => h.SetOf (intKind P w) a S n
 | .ins C dx fs => H dx = some (.own a) /\ fs.length <= 1000 /\ dx ≠ a /\ h.get? a = some (W.instObj C dx) /\
   ∃ mA, h.Ns1 dx mA /\ (∀ f, RelO (fs.lookup f) (mA f)) /\ PySem.Within mA (fs.map (·.1))
 | .own _ => ∃ o, h.get? a = some o
 | .xd fs => ∃ mA, h.Ns1 a mA /\ ∀ f, RelO (fs.lookup f) (mA f)
 | .rng lo hi => ∃ t u v, h.get? a = some { cls := .type "range", data := .fields #[.int lo t, .int hi u, .int 1 v] }
 | .frz o u => h.get? a = some o /\ ObjOk H h a u
 | .tbl ps => h.get? a = some { cls := .none, data := .fields ps }
 | .met f x => h.get? a = some (W.methodObj (.ref f) (.ref x))
 | .ext φ => φ h /\ (∃ o, h.get? a = some o) /\ ∀ h1 h2 : Heap, φ h1 -> (∀ o, h1.get? a = some o -> h2.get? a = some o) -> φ h2
def HOk (H : Hp) (h : Heap) : Prop := ∀ a o, H a = some o -> ObjOk P w H h a o
end
section
variable {P : Program} {w : World} {H H' : Hp} {h h' : Heap} {a : Addr} {o : HO}
theorem ObjOk.lt (x : ObjOk P w H h a o) : a < h.objs.size := by
 cases o with
 | lst xs => obtain ⟨_, _, _, _, e⟩ := x; exact Heap.lt_size e
 | tup xs => obtain ⟨_, _, _, p⟩ := x; exact p.lt
 | dK kvs => obtain ⟨_, _, _, _, o, _, _, e, _⟩ := x; exact Heap.lt_size e
 | dT kvs => obtain ⟨_, _, _, _, o, _, _, e, _⟩ := x; exact Heap.lt_size e
 | set S n => obtain ⟨o, _, _, _, e, _⟩ := x; exact Heap.lt_size e
 | ins C dx fs => obtain ⟨_, _, _, e, _⟩ := x; exact Heap.lt_size e
 | own y => obtain ⟨_, e⟩ := x; exact Heap.lt_size e
 | xd fs => obtain ⟨_, ⟨_, _, _, e, _⟩, _⟩ := x; exact Heap.lt_size e
 | rng lo hi => obtain ⟨_, _, _, e⟩ := x; exact Heap.lt_size e
 | frz ob u => obtain ⟨e, _⟩ := x; exact Heap.lt_size e
 | tbl ps => exact Heap.lt_size (show h.get? a = some _ from x)
 | met f y => exact Heap.lt_size (show h.get? a = some _ from x)
 | ext φ => obtain ⟨_, ⟨_, e⟩, _⟩ := x; exact Heap.lt_size e
theorem Paired.mapP {α β : Type} {F G : α -> β -> Prop} : ∀ {l₁ : List α} {l₂ : List β}, Paired F l₁ l₂ -> (∀ a b, F a b -> G a b) -> Paired G l₁ l₂
 | _, _, .nil, _ => .nil
 | _, _, .cons r t, f => .cons (f _ _ r) (Paired.mapP t f)
theorem ObjOk.stay (x : ObjOk P w H h a o) (k : ∀ b u, (b = a \/ H b = some (.own a)) -> h.get? b = some u -> h'.get? b = some u)
  (ho : ∀ b, H b = some (.own a) -> H' b = some (.own a)) (ht : ∀ b xs, H b = some (.tup xs) -> H' b = some (.tup xs)) : ObjOk P w H' h' a o := by
 induction o with
 | lst xs => obtain ⟨z, its, n, r, e⟩ := x; exact ⟨z, its, n, r, k _ _ (.inl rfl) e⟩
 | tup xs => obtain ⟨z, its, r, ob, e, c⟩ := x; exact ⟨z, its, r, ob, k _ _ (.inl rfl) e, c⟩
 | dK kvs => obtain ⟨z, y, vs, r, ob, es, ep, e, c⟩ := x; exact ⟨z, y, vs, r, ob, es, ep, k _ _ (.inl rfl) e, c⟩
 | dT kvs =>
  obtain ⟨z, y, xs, r, ob, es, ep, e, c⟩ := x
  exact ⟨z, y, xs, Paired.mapP r fun p q z => ⟨z.1, ht _ _ z.2.1, z.2.2⟩, ob, es, ep, k _ _ (.inl rfl) e, c⟩
 | set S n => obtain ⟨ob, es, ep, t, e, c⟩ := x; exact ⟨ob, es, ep, t, k _ _ (.inl rfl) e, c⟩
 | ins C dx fs =>
  obtain ⟨d, z, ne, e, mA, ⟨od, es, ep, e2, c⟩, r⟩ := x
  exact ⟨ho _ d, z, ne, k _ _ (.inl rfl) e, mA, ⟨od, es, ep, k _ _ (.inr d) e2, c⟩, r⟩
 | own y => obtain ⟨ob, e⟩ := x; exact ⟨ob, k _ _ (.inl rfl) e⟩
 | xd fs => obtain ⟨mA, ⟨od, es, ep, e, c⟩, r⟩ := x; exact ⟨mA, ⟨od, es, ep, k _ _ (.inl rfl) e, c⟩, r⟩
 | rng lo hi => obtain ⟨t, u, v, e⟩ := x; exact ⟨t, u, v, k _ _ (.inl rfl) e⟩
 | frz ob u ih => obtain ⟨e, q⟩ := x; exact ⟨k _ _ (.inl rfl) e, ih q⟩
 | tbl ps =>
  have e : h.get? a = some { cls := .none, data := .fields ps } := x
  show h'.get? a = some { cls := .none, data := .fields ps }
  exact k a _ (.inl rfl) e
 | met f y =>
  have e : h.get? a = some (W.methodObj (.ref f) (.ref y)) := x
  show h'.get? a = some (W.methodObj (.ref f) (.ref y))
  exact k a _ (.inl rfl) e
 | ext φ => obtain ⟨p, ⟨o, e⟩, st⟩ := x; exact ⟨st _ _ p fun o q => k _ _ (.inl rfl) q, ⟨o, k _ _ (.inl rfl) e⟩, st⟩
theorem HOk.lt (x : HOk P w H h) (e : H a = some o) : a < h.objs.size := (x a o e).lt
theorem HOk.fresh (x : HOk P w H h) (e : h.objs.size <= a) : H a = none := by
 cases q : H a with
 | none => rfl
 | some u => exact absurd (Nat.lt_of_lt_of_le (x.lt q) e) (Nat.lt_irrefl _)
theorem HOk.kept (x : HOk P w H h) (k : ∀ b u, h.get? b = some u -> h'.get? b = some u) : HOk P w H h' := fun a o e =>
 (x a o e).stay (fun b u _ q => k b u q) (fun _ q => q) fun _ _ q => q
theorem HOk.laid (x : HOk P w H h) (k : ∀ b u, h.get? b = some u -> h'.get? b = some u) (hp : h.objs.size <= a) (new : ObjOk P w (upd H a o) h' a o) : HOk P w (upd H a o) h' := fun b u e => by
 have hn := x.fresh hp
 by_cases hb : b = a
 ·subst hb; rw [upd_same] at e; cases e; exact new
 ·rw [upd_ne hb] at e
  exact (x b u e).stay (fun c v _ q => k c v q) (fun c q => by rw [upd_ne (ne_of_none q hn)]; exact q) fun c xs q => by rw [upd_ne (ne_of_none q hn)]; exact q
end
def Rd (H : Hp) (a : Addr) (u : HO) : Prop := H a = some u \/ ∃ o, H a = some (.frz o u)
theorem Rd.ok {P : Program} {w : World} {H : Hp} {h : Heap} {a : Addr} {u : HO} (r : Rd H a u) (x : HOk P w H h) : ObjOk P w H h a u := by
 rcases r with r | ⟨o, r⟩
 ·exact x a u r
 ·obtain ⟨_, q⟩ := x a _ r
  exact q
def Mut : Option HO -> Prop
 | some (.lst _) => True
 | some (.dK _) => True
 | some (.dT _) => True
 | some (.set _ _) => True
 | some (.ins _ _ _) => True
 | some (.ext _) => True
 | _ => False
section
variable {P : Program} {w : World} {H : Hp} {h h' : Heap} {x e : Addr} {o' : HO}
theorem HOk.write (ok : HOk P w H h) (mu : Mut (H x)) (he : e = x \/ H e = some (.own x)) (k : ∀ b u, b ≠ e -> h.get? b = some u -> h'.get? b = some u) (heo : ∃ u, h'.get? e = some u)
  (new : ObjOk P w (upd H x o') h' x o') : HOk P w (upd H x o') h' := fun b u q => by
 have nown : ∀ c y, H c = some (.own y) -> c ≠ x := fun c y r z => by subst z; rw [r] at mu; exact mu
 have ntup : ∀ c xs, H c = some (.tup xs) -> c ≠ x := fun c xs r z => by subst z; rw [r] at mu; exact mu
 by_cases hb : b = x
 ·subst hb; rw [upd_same] at q; cases q; exact new
 ·rw [upd_ne hb] at q
  by_cases hbe : b = e
  ·have q' : H b = some (.own x) := by
    rcases he with z | z
    ·exact absurd (hbe.trans z) hb
    ·rw [hbe]; exact z
   rw [q] at q'; cases q'
   obtain ⟨v, hv⟩ := heo
   exact ⟨v, by rw [hbe]; exact hv⟩
  ·refine (ok b u q).stay (fun c v hc r => k c v ?_ r) (fun c r => by rw [upd_ne (nown c b r)]; exact r) fun c xs r => by rw [upd_ne (ntup c xs r)]; exact r
   rcases hc with rfl | hc
   ·exact hbe
   ·rintro rfl
    rcases he with z | z
    ·exact nown c b hc z
    ·rw [hc] at z; cases z; exact hb rfl
end
structure Un (fs ex : List Addr) (H H' : Hp) (h h' : Heap) : Prop where
 keep : ∀ b o, h.get? b = some o -> H b = none -> b ∉ fs -> b ∉ ex -> h'.get? b = some o
 slot : ∀ b o, h.get? b = some o -> H b = none -> b ∈ fs -> b ∉ ex -> ∃ sl, h'.get? b = some { o with slots := sl }
 free : ∀ b o, h.get? b = some o -> H b = none -> b ∉ ex -> H' b = none
 there : ∀ b o, h.get? b = some o -> b ∉ ex -> ∃ o', h'.get? b = some o'
 tups : ∀ b xs, H b = some (.tup xs) -> H' b = some (.tup xs)
 frzs : ∀ b o u, H b = some (.frz o u) -> H' b = some (.frz o u)
 tbls : ∀ b ps, H b = some (.tbl ps) -> ∃ more, H' b = some (.tbl (ps ++ more))
section
variable {fs fs' ex ex' : List Addr} {H H1 H2 : Hp} {h h1 h2 h' : Heap} {a x e : Addr} {o : HO}
theorem Un.any (u : Un fs ex H H1 h h1) {b : Addr} {ob : Obj} (q : h.get? b = some ob) (n : H b = none) (hx : b ∉ ex) : ∃ sl, h1.get? b = some { ob with slots := sl } := by
 by_cases hb : b ∈ fs
 ·exact u.slot b ob q n hb hx
 ·exact ⟨ob.slots, u.keep b ob q n hb hx⟩
theorem Un.trans (a : Un fs ex H H1 h h1) (b : Un fs ex H1 H2 h1 h2) : Un fs ex H H2 h h2 where
 keep := fun c ob q n hc hx => b.keep c ob (a.keep c ob q n hc hx) (a.free c ob q n hx) hc hx
 slot := fun c ob q n hc hx => by
  obtain ⟨sl, e1⟩ := a.slot c ob q n hc hx
  obtain ⟨sl', e2⟩ := b.slot c _ e1 (a.free c ob q n hx) hc hx
  exact ⟨sl', e2⟩
 free := fun c ob q n hx => by
  obtain ⟨o', e1⟩ := a.there c ob q hx
  exact b.free c o' e1 (a.free c ob q n hx) hx
 there := fun c ob q hx => by
  obtain ⟨o', e1⟩ := a.there c ob q hx
  exact b.there c o' e1 hx
 tups := fun c xs q => b.tups c xs (a.tups c xs q)
 frzs := fun c ob xs q => b.frzs c ob xs (a.frzs c ob xs q)
 tbls := fun c ps q => by
  obtain ⟨m1, e1⟩ := a.tbls c ps q
  obtain ⟨m2, e2⟩ := b.tbls c _ e1
  exact ⟨m1 ++ m2, by rw [e2, Array.append_assoc]⟩
theorem Un.kept (k : ∀ b u, h.get? b = some u -> h'.get? b = some u) : Un fs ex H H h h' :=
 ⟨fun b ob q _ _ _ => k b ob q, fun b ob q _ _ _ => ⟨ob.slots, k b ob q⟩, fun _ _ _ n _ => n, fun b ob q _ => ⟨ob, k b ob q⟩, fun _ _ q => q, fun _ _ _ q => q, fun _ ps q => ⟨#[], by rw [q]; simp⟩⟩
theorem Un.refl : Un fs ex H H h h := Un.kept fun _ _ q => q
theorem Un.laid (k : ∀ b u, h.get? b = some u -> h'.get? b = some u) (hp : h.objs.size <= a) (hn : H a = none) : Un fs ex H (upd H a o) h h' where
 keep := fun b u q _ _ _ => k b u q
 slot := fun b u q _ _ _ => ⟨u.slots, k b u q⟩
 free := fun b u q n _ => by rw [upd_ne (Nat.ne_of_lt (Nat.lt_of_lt_of_le (Heap.lt_size q) hp))]; exact n
 there := fun b u q _ => ⟨u, k b u q⟩
 tups := fun b xs q => by rw [upd_ne (ne_of_none q hn)]; exact q
 frzs := fun b u xs q => by rw [upd_ne (ne_of_none q hn)]; exact q
 tbls := fun b ps q => ⟨#[], by rw [upd_ne (ne_of_none q hn), q]; simp⟩
theorem Un.write (mu : Mut (H x)) (he : e = x \/ H e = some (.own x)) (k : ∀ b u, b ≠ e -> h.get? b = some u -> h'.get? b = some u) (heo : ∃ u, h'.get? e = some u) : Un fs ex H (upd H x o) h h' := by
 have hx : ∀ b, H b = none -> b ≠ x := fun b n z => by subst z; rw [n] at mu; exact mu
 have hb : ∀ b, H b = none -> b ≠ e := fun b n z => by
  subst z
  rcases he with r | r
  ·exact hx b n r
  ·rw [n] at r; cases r
 have hm : ∀ b u, H b = some u -> ¬ Mut (some u) -> b ≠ x := fun b u q nm z => by subst z; rw [q] at mu; exact nm mu
 refine ⟨fun b u q n _ _ => k b u (hb b n) q, fun b u q n _ _ => ⟨u.slots, k b u (hb b n) q⟩, fun b u q n _ => by rw [upd_ne (hx b n)]; exact n, fun b u q _ => ?_,
  fun b xs q => by rw [upd_ne (hm b _ q fun z => z)]; exact q, fun b u xs q => by rw [upd_ne (hm b _ q fun z => z)]; exact q, fun b ps q => ⟨#[], by rw [upd_ne (hm b _ q fun z => z), q]; simp⟩⟩
 by_cases hbe : b = e
 ·subst hbe; exact heo
 ·exact ⟨u, k b u hbe q⟩
end
def trk (h : Heap) (H : Hp) : List Addr := (List.range h.objs.size).filter fun a => (H a).isSome
def hidT (h : Heap) (H : Hp) : Heap := W.hideAll h (trk h H)
theorem hidT_size (h : Heap) (H : Hp) : (hidT h H).objs.size = h.objs.size := W.hideAll_size _ _
theorem hidT_get {h : Heap} {H : Hp} {b : Addr} {o : Obj} (e : h.get? b = some o) (n : H b = none) : (hidT h H).get? b = some o :=
 W.hideAll_get _ e fun hm => by
  have q : (H b).isSome = true := (List.mem_filter.mp hm).2
  rw [n] at q; simp at q
theorem of_hidT {h : Heap} {H : Hp} {b : Addr} {o : Obj} (e : (hidT h H).get? b = some o) : h.get? b = some o /\ H b = none := by
 have e' : h.get? b = some o := W.of_hideAll (trk h H) e
 refine ⟨e', ?_⟩
 cases q : H b with
 | none => rfl
 | some x =>
  have hm : b ∈ trk h H := List.mem_filter.mpr ⟨List.mem_range.mpr (Heap.lt_size e'), by simp [q]⟩
  have z : (hidT h H).get? b = none := W.hideAll_none (trk h H) hm
  rw [z] at e; cases e
def allNews (g h : Heap) (L : Addr) : List (Addr × Obj) := (List.range h.objs.size).filterMap fun a => if a = L \/ (g.get? a).isSome = true then none else (h.get? a).map fun o => (a, o)
def rest (g h : Heap) (L d : Addr) : List (Addr × Obj) := (allNews g h L).filter fun p => decide (p.1 ≠ d)
structure Mod (K : W.Frag) (mg : Str -> Option Value) (base : Heap) : Prop where
 kin : K.In base
 glob : base.Ns mainGlobals mg
 blt : ∃ mb, base.Ns builtinsNs mb /\ ∀ x : Str, x ≠ "__name__" -> mb x = bootBuiltins x
 nolimit : base.NoLimit
structure Cx where
 prog : Program
 w : World
 K : W.Frag
 mg : Str -> Option Value
 base : Heap
 A : Around
 N : List Str
 s₀ : Shared
 H₀ : Hp
 env : Env
 outer : List Env
 stack : List Env
 ex : List Addr
 fn : Str -> Bool
 calm : Bool
 pn : List (Addr × Obj)
 xe : Value -> Shared -> Prop
def frs (l : List Env) : List Addr := l.filterMap (·.frame)
abbrev Cx.fs (X : Cx) : List Addr := frs X.outer
def Vis (sc : Scope) (x : Str) : Prop := sc.names.lookup x = some .local \/ sc.names.lookup x = some .cell \/ sc.names.lookup x = some .free
def Loc (sc : Scope) (x : Str) : Prop := sc.names.lookup x = some .local \/ sc.names.lookup x = some .cell
def Look (env : Env) (h : Heap) (m : Str -> Option Value) (x : Str) (u : Value) : Prop :=
 (env.kindOf x = some .local /\ m x = some u) \/ ((env.kindOf x = some .cell \/ env.kindOf x = some .free) /\ ∃ c, env.cells.lookup x = some c /\ h.IsCell c (some u))
structure Cx.Ok (X : Cx) : Prop where
 mod : Mod X.K X.mg X.base
 kind : X.env.scope.kind = .function
 glob : X.env.globals = mainGlobals
 blt : X.env.builtins = builtinsNs
 above : X.s₀.heap.objs.size <= X.env.locals
 inj : ∀ x y c, X.env.cells.lookup x = some c -> X.env.cells.lookup y = some c -> x = y
 has : ∀ x, (X.env.kindOf x = some .cell \/ X.env.kindOf x = some .free) -> ∃ c, X.env.cells.lookup x = some c
 cab : ∀ x c, X.fn x = true -> X.env.cells.lookup x = some c -> X.s₀.heap.objs.size <= c
 hd : X.calm = true -> X.A.handled = none
 frames : X.A.frames = some X.stack
 stk : X.stack = X.outer \/ (X.stack = X.env :: X.outer /\ X.env.frame = some X.env.locals)
 exf : ∀ b ∈ X.ex, b ≠ X.env.locals /\ ∀ x c, X.env.cells.lookup x = some c -> c ≠ b
 bs : ∀ b o, X.base.get? b = some o -> X.s₀.heap.get? b = some o /\ X.H₀ b = none
 bsz : X.base.objs.size <= X.s₀.heap.objs.size
 noex : ∀ b o, X.base.get? b = some o -> b ∉ X.ex
 exfs : ∀ b ∈ X.ex, b ∉ X.fs
 funs : X.s₀.heap.FunFrames X.base X.outer
 frf : ∀ b ∈ X.fs, X.H₀ b = none
structure Inv (X : Cx) (pins : List (Addr × Obj)) (σ : List (Option V)) (H : Hp) (s : Shared) : Prop where
 ok : X.Ok
 os : s.os = X.s₀.os
 bare : AllBare s.gens
 base : Un X.fs X.ex X.H₀ H X.s₀.heap s.heap
 loc : ∃ m, s.heap.Ns X.env.locals m /\ ∀ (i : Nat) (x : Str) (v : V), X.N[i]? = some x -> σ[i]? = some (some v) -> Vis X.env.scope x -> ∃ u, RelV v u /\ Look X.env s.heap m x u
 cell : ∀ x c, X.env.cells.lookup x = some c -> ∃ v, s.heap.IsCell c v
 free : H X.env.locals = none
 freeC : ∀ x c, X.env.cells.lookup x = some c -> H c = none
 pin : ∀ p ∈ X.pn ++ pins, s.heap.get? p.1 = some p.2 /\ H p.1 = none /\ p.1 ≠ X.env.locals /\ p.1 ∉ X.fs /\ ∀ v, p.2.data ≠ .cell v
 hok : HOk X.prog X.w H s.heap
 len : σ.length = X.N.length
section
variable {X : Cx} {pins : List (Addr × Obj)} {σ : List (Option V)} {H H' : Hp} {s : Shared} {h' : Heap}
theorem Cx.Ok.nofr (ok : X.Ok) {b : Addr} {o : Obj} (e : X.base.get? b = some o) : b ∉ X.fs := fun hb => by
 have := (ok.funs.mem hb).1
 rw [e] at this; cases this
theorem Inv.bs (I : Inv X pins σ H s) : ∀ b o, X.base.get? b = some o -> s.heap.get? b = some o /\ H b = none := fun b o e =>
 ⟨I.base.keep b o (I.ok.bs b o e).1 (I.ok.bs b o e).2 (I.ok.nofr e) (I.ok.noex b o e), I.base.free b o (I.ok.bs b o e).1 (I.ok.bs b o e).2 (I.ok.noex b o e)⟩
theorem Inv.bk (I : Inv X pins σ H s) : ∀ b o, X.base.get? b = some o -> s.heap.get? b = some o := fun b o e => (I.bs b o e).1
theorem Inv.mod (I : Inv X pins σ H s) : Mod X.K X.mg X.base := I.ok.mod
theorem Inv.kIn (I : Inv X pins σ H s) : X.K.In s.heap := I.ok.mod.kin.keeps I.bk
theorem Inv.fr (I : Inv X pins σ H s) : ∃ m, Fr X.base X.env.locals s.heap m :=
 let ⟨m, hn, _⟩ := I.loc
 ⟨m, hn, I.bk, Nat.le_trans I.ok.bsz I.ok.above⟩
theorem Inv.lt (I : Inv X pins σ H s) : X.env.locals < s.heap.objs.size := let ⟨_, hn, _⟩ := I.loc; hn.lt
theorem Inv.sz (I : Inv X pins σ H s) : X.s₀.heap.objs.size <= s.heap.objs.size := Nat.le_trans I.ok.above (Nat.le_of_lt I.lt)
theorem Inv.nofs (I : Inv X pins σ H s) {a : Addr} (h : s.heap.objs.size <= a) : a ∉ X.fs := fun hb => by
 obtain ⟨_, o, ho, _⟩ := I.ok.funs.mem hb
 exact absurd (Nat.lt_of_lt_of_le (Heap.lt_size ho) (Nat.le_trans I.sz h)) (Nat.lt_irrefl _)
theorem Inv.cne (I : Inv X pins σ H s) : ∀ x c, X.env.cells.lookup x = some c -> c ≠ X.env.locals := fun x c e z => by
 obtain ⟨v, o, ho, hd⟩ := I.cell x c e
 obtain ⟨m, ⟨o', es, ep, ho', hd', _⟩, _⟩ := I.loc
 rw [z, ho'] at ho; cases ho; rw [hd'] at hd; cases hd
theorem Inv.funs (I : Inv X pins σ H s) : s.heap.FunFrames X.base X.outer := by
 have all : ∀ (l : List Env), (∀ b ∈ frs l, b ∈ X.fs) -> X.s₀.heap.FunFrames X.base l -> s.heap.FunFrames X.base l := by
  intro l
  induction l with
  | nil => intro _ _; trivial
  | cons env r ih =>
   intro hs hl
   obtain ⟨hk, ⟨L, o, hf, hn, ho, hd⟩, hr⟩ := hl
   have hL : L ∈ X.fs := hs L (by unfold frs; rw [List.filterMap_cons, hf]; exact List.mem_cons_self)
   obtain ⟨sl, e⟩ := I.base.slot L o ho (I.ok.frf L hL) hL fun z => I.ok.exfs L z hL
   exact ⟨hk, ⟨L, _, hf, hn, e, hd⟩, ih (fun b hb => hs b (by unfold frs; rw [List.filterMap_cons, hf]; exact List.mem_cons_of_mem _ hb)) hr⟩
 exact all X.outer (fun _ hb => hb) I.ok.funs
theorem Inv.stack (I : Inv X pins σ H s) : s.heap.FunFrames X.base X.stack := by
 rcases I.ok.stk with e | ⟨e, hf⟩
 ·rw [e]; exact I.funs
 ·rw [e]
  obtain ⟨m, hn, _⟩ := I.loc
  refine .cons (by rw [I.ok.kind]; decide) hf hn ?_ I.funs
  exact Heap.get?_none_of_le (Nat.le_trans I.ok.bsz I.ok.above)
theorem Inv.stkSub (I : Inv X pins σ H s) : ∀ b ∈ frs X.stack, b ∈ X.env.locals :: X.fs := fun b hb => by
 rcases I.ok.stk with e | ⟨e, hf⟩
 ·rw [e] at hb; exact List.mem_cons_of_mem _ hb
 ·rw [e] at hb
  unfold frs at hb
  rw [List.filterMap_cons, hf] at hb
  exact hb
theorem Inv.stkFree (I : Inv X pins σ H s) : ∀ b ∈ frs X.stack, H b = none := fun b hb => by
 rcases List.mem_cons.mp (I.stkSub b hb) with e | hb
 ·rw [e]; exact I.free
 ·obtain ⟨_, o, ho, _⟩ := I.ok.funs.mem hb
  exact I.base.free b o ho (I.ok.frf b hb) fun z => I.ok.exfs b z hb
theorem Inv.step {g' : Array GenState} {t' : Nat} {d' : Drawn} {ch : List Addr} (I : Inv X pins σ H s)
  (hch : ∀ b ∈ ch, (b ∈ X.ex \/ X.s₀.heap.objs.size <= b) /\ b ≠ X.env.locals /\ (∀ x c, X.env.cells.lookup x = some c -> c ≠ b) /\ ∀ p ∈ X.pn ++ pins, p.1 ≠ b)
  (keep : ∀ b o, b ≠ X.env.locals -> b ∉ X.fs -> b ∉ ch -> s.heap.get? b = some o -> H b = none -> h'.get? b = some o)
  (slot : ∀ b o, b ≠ X.env.locals -> b ∈ X.fs -> b ∉ ch -> s.heap.get? b = some o -> H b = none -> ∃ sl, h'.get? b = some { o with slots := sl }) (free : ∀ b o, b ∉ ch -> s.heap.get? b = some o -> H b = none -> H' b = none)
  (there : ∀ b o, b ∉ ch -> s.heap.get? b = some o -> ∃ o', h'.get? b = some o')
  (tups : ∀ b xs, H b = some (.tup xs) -> H' b = some (.tup xs)) (frzs : ∀ b o u, H b = some (.frz o u) -> H' b = some (.frz o u)) (tbls : ∀ b ps, H b = some (.tbl ps) -> ∃ more, H' b = some (.tbl (ps ++ more)))
  (ns : ∀ m, s.heap.Ns X.env.locals m -> h'.Ns X.env.locals m) (hok : HOk X.prog X.w H' h') (hg : AllBare g') :
  Inv X pins σ H' { s with heap := h', gens := g', drawn := d', toks := t' } := by
 have neL : ∀ b o, X.s₀.heap.get? b = some o -> b ≠ X.env.locals := fun b o e => Nat.ne_of_lt (Nat.lt_of_lt_of_le (Heap.lt_size e) I.ok.above)
 have neC : ∀ b o, X.s₀.heap.get? b = some o -> b ∉ X.ex -> b ∉ ch := fun b o e hx hb => by
  rcases (hch b hb).1 with z | z
  ·exact hx z
  ·exact absurd (Nat.lt_of_lt_of_le (Heap.lt_size e) z) (Nat.lt_irrefl _)
 have cellK : ∀ x c, X.env.cells.lookup x = some c -> ∀ v, s.heap.IsCell c v -> h'.IsCell c v := fun x c e v hpt0 => by
  obtain ⟨o, ho, hd⟩ := hpt0
  have nch : c ∉ ch := fun z => (hch c z).2.2.1 x c e rfl
  by_cases hc : c ∈ X.fs
  ·obtain ⟨sl, q⟩ := slot c o (I.cne x c e) hc nch ho (I.freeC x c e)
   exact ⟨_, q, hd⟩
  ·exact ⟨o, keep c o (I.cne x c e) hc nch ho (I.freeC x c e), hd⟩
 refine ⟨I.ok, I.os, hg, ⟨fun b o e n hb hx => ?_, fun b o e n hb hx => ?_, fun b o e n hx => ?_, fun b o e hx => ?_, fun b xs e => tups b xs (I.base.tups b xs e), fun b o xs e => frzs b o xs (I.base.frzs b o xs e), fun b ps e => ?_⟩, ?_, fun x c e => ?_, ?_, fun x c e => ?_, fun p hp => ?_, hok, I.len⟩
 ·exact keep b o (neL b o e) hb (neC b o e hx) (I.base.keep b o e n hb hx) (I.base.free b o e n hx)
 ·obtain ⟨sl, e1⟩ := I.base.slot b o e n hb hx
  obtain ⟨sl', e2⟩ := slot b _ (neL b o e) hb (neC b o e hx) e1 (I.base.free b o e n hx)
  exact ⟨sl', e2⟩
 ·obtain ⟨o', e1⟩ := I.base.there b o e hx
  exact free b o' (neC b o e hx) e1 (I.base.free b o e n hx)
 ·obtain ⟨o', e1⟩ := I.base.there b o e hx
  exact there b o' (neC b o e hx) e1
 ·obtain ⟨m1, e1⟩ := I.base.tbls b ps e
  obtain ⟨m2, e2⟩ := tbls b _ e1
  exact ⟨m1 ++ m2, by rw [e2, Array.append_assoc]⟩
 ·obtain ⟨m, hn, hl⟩ := I.loc
  refine ⟨m, ns m hn, fun i x v e1 e2 e3 => ?_⟩
  obtain ⟨u, r, l⟩ := hl i x v e1 e2 e3
  refine ⟨u, r, ?_⟩
  rcases l with l | ⟨k, c, e, z⟩
  ·exact .inl l
  ·exact .inr ⟨k, c, e, cellK x c e _ z⟩
 ·obtain ⟨v, z⟩ := I.cell x c e
  exact ⟨v, cellK x c e v z⟩
 ·obtain ⟨m, ⟨o, _, _, ho, _⟩, _⟩ := I.loc
  exact free _ o (fun z => (hch _ z).2.1 rfl) ho I.free
 ·obtain ⟨v, o, ho, hd⟩ := I.cell x c e
  exact free c o (fun z => (hch c z).2.2.1 x c e rfl) ho (I.freeC x c e)
 ·obtain ⟨e, n, ne, nf, d⟩ := I.pin p hp
  have nch : p.1 ∉ ch := fun z => (hch p.1 z).2.2.2 p hp rfl
  exact ⟨keep p.1 p.2 ne nf nch e n, free p.1 p.2 nch e n, ne, nf, d⟩
theorem Inv.un {t' : Nat} (I : Inv X pins σ H s) (u : Un X.fs [] H H' s.heap h') (hok : HOk X.prog X.w H' h') : Inv X pins σ H' { s with heap := h', toks := t' } := by
 obtain ⟨m, ⟨o, es, ep, ho, r⟩, _⟩ := id I.loc
 obtain ⟨sl, hL⟩ := u.any ho I.free (by simp)
 exact I.step (g' := s.gens) (d' := s.drawn) (ch := []) (fun _ z => nomatch z) (fun b o _ hb _ e n => u.keep b o e n hb (by simp)) (fun b o _ hb _ e n => u.slot b o e n hb (by simp)) (fun b o _ e n => u.free b o e n (by simp)) (fun b o _ e => u.there b o e (by simp)) u.tups u.frzs u.tbls (fun m' hm => by
  obtain ⟨o', es', ep', ho', r'⟩ := hm
  rw [ho] at ho'; cases ho'
  exact ⟨_, es', ep', hL, r'⟩) hok I.bare
theorem Inv.call {g' : Array GenState} {t' : Nat} {d' : Drawn} {ch : List Addr} (I : Inv X pins σ H s) (u : Un (frs X.stack) ch H H' s.heap h') (hok : HOk X.prog X.w H' h') (hg : AllBare g')
  (hch : ∀ b ∈ ch, (b ∈ X.ex \/ X.s₀.heap.objs.size <= b) /\ b ≠ X.env.locals /\ (∀ x c, X.env.cells.lookup x = some c -> c ≠ b) /\ ∀ p ∈ X.pn ++ pins, p.1 ≠ b) :
  Inv X pins σ H' { s with heap := h', gens := g', drawn := d', toks := t' } := by
 obtain ⟨m, ⟨o, es, ep, ho, r⟩, _⟩ := id I.loc
 obtain ⟨sl, hL⟩ := u.any ho I.free fun z => (hch _ z).2.1 rfl
 exact I.step (ch := ch) hch (fun b o hL hb hc e n => u.keep b o e n (fun z => (List.mem_cons.mp (I.stkSub b z)).elim hL hb) hc) (fun b o _ _ hc e n => u.any e n hc) (fun b o hc e n => u.free b o e n hc) (fun b o hc e => u.there b o e hc) u.tups u.frzs u.tbls (fun m' hm => by
  obtain ⟨o', es', ep', ho', r'⟩ := hm
  rw [ho] at ho'; cases ho'
  exact ⟨_, es', ep', hL, r'⟩) hok hg
theorem Inv.turned {t' : Nat} {it : Addr} (I : Inv X pins σ H s) (k : ∀ b o, b ≠ it -> s.heap.get? b = some o -> h'.get? b = some o) (hn : H it = none) (hL : it ≠ X.env.locals)
  (h1 : it ∈ X.ex \/ X.s₀.heap.objs.size <= it) (h2 : ∀ x c, X.env.cells.lookup x = some c -> c ≠ it) (h3 : ∀ p ∈ X.pn ++ pins, p.1 ≠ it) : Inv X pins σ H { s with heap := h', toks := t' } := by
 have nit : ∀ b u, H b = some u -> b ≠ it := fun b u e z => by rw [z, hn] at e; cases e
 refine I.step (g' := s.gens) (d' := s.drawn) (ch := [it]) (fun b hb => ?_) (fun b o _ _ hc e _ => k b o (fun z => hc (by simp [z])) e) (fun b o _ _ hc e _ => ⟨o.slots, k b o (fun z => hc (by simp [z])) e⟩) (fun _ _ _ _ n => n)
  (fun b o hc e => ⟨o, k b o (fun z => hc (by simp [z])) e⟩) (fun _ _ e => e) (fun _ _ _ e => e) (fun b ps e => ⟨#[], by rw [e]; simp⟩) (fun m hm => ?_) (fun b u e => ?_) I.bare
 ·have e : b = it := by simpa using hb
  subst e
  exact ⟨h1, hL, h2, h3⟩
 ·obtain ⟨o, es, ep, ho, r⟩ := hm
  exact ⟨o, es, ep, k _ o (Ne.symm hL) ho, r⟩
 ·refine (I.hok b u e).stay (fun c v hc q => k c v ?_ q) (fun _ q => q) fun _ _ q => q
  rcases hc with z | z
  ·rw [z]; exact nit b u e
  ·exact nit c _ z
theorem Inv.tok (I : Inv X pins σ H s) (t : Nat) : Inv X pins σ H { s with toks := t } := I.un (h' := s.heap) (t' := t) Un.refl I.hok
theorem Inv.kept {t' : Nat} (I : Inv X pins σ H s) (k : ∀ b u, s.heap.get? b = some u -> h'.get? b = some u) : Inv X pins σ H { s with heap := h', toks := t' } := I.un (Un.kept k) (I.hok.kept k)
theorem Inv.laid {a : Addr} {o : HO} {t' : Nat} (I : Inv X pins σ H s) (k : ∀ b u, s.heap.get? b = some u -> h'.get? b = some u) (hp : s.heap.objs.size <= a) (new : ObjOk X.prog X.w (upd H a o) h' a o) :
  Inv X pins σ (upd H a o) { s with heap := h', toks := t' } := I.un (Un.laid k hp (I.hok.fresh hp)) (I.hok.laid k hp new)
theorem Inv.write {x e : Addr} {o : HO} {t' : Nat} (I : Inv X pins σ H s) (mu : Mut (H x)) (he : e = x \/ H e = some (.own x)) (k : ∀ b u, b ≠ e -> s.heap.get? b = some u -> h'.get? b = some u) (heo : ∃ u, h'.get? e = some u)
  (new : ObjOk X.prog X.w (upd H x o) h' x o) : Inv X pins σ (upd H x o) { s with heap := h', toks := t' } := I.un (Un.write mu he k heo) (I.hok.write mu he k heo new)
theorem Inv.weak {σ' : List (Option V)} (I : Inv X pins σ H s) (hl : σ'.length = σ.length) (w : ∀ (i : Nat) v, σ'[i]? = some (some v) -> σ[i]? = some (some v)) : Inv X pins σ' H s :=
 ⟨I.ok, I.os, I.bare, I.base, let ⟨m, hn, hl'⟩ := I.loc; ⟨m, hn, fun i x v e1 e2 e3 => hl' i x v e1 (w i v e2) e3⟩, I.cell, I.free, I.freeC, I.pin, I.hok, hl.trans I.len⟩
theorem Inv.pins_of {pins' : List (Addr × Obj)} (I : Inv X pins σ H s) (h : ∀ p ∈ pins', s.heap.get? p.1 = some p.2 /\ H p.1 = none /\ p.1 ≠ X.env.locals /\ p.1 ∉ X.fs /\ ∀ v, p.2.data ≠ .cell v) : Inv X pins' σ H s :=
 ⟨I.ok, I.os, I.bare, I.base, I.loc, I.cell, I.free, I.freeC, fun p hp => (List.mem_append.mp hp).elim (fun z => I.pin p (List.mem_append_left _ z)) (h p), I.hok, I.len⟩
theorem nodup_ix {N : List Str} (hN : N.Nodup) {i j : Nat} {x : Str} (a : N[i]? = some x) (b : N[j]? = some x) : i = j := by
 obtain ⟨h1, e1⟩ := List.getElem?_eq_some_iff.mp a
 obtain ⟨h2, e2⟩ := List.getElem?_eq_some_iff.mp b
 exact (List.getElem_inj hN).mp (e1.trans e2.symm)
theorem store_ok2 {M : Model} {A : Around} {E : Value -> Shared -> Prop} {i : Nat} {x : Str} {v : V} {u : Value} {Q : Unit -> Shared -> Prop} (I : Inv X pins σ H s) (hN : X.N.Nodup) (hi : X.N[i]? = some x) (hx : Loc X.env.scope x) (r : RelV v u)
  (h : ∀ s', Inv X pins (σ.set i (some v)) H s' -> (∃ a, Heap.SameBut a s.heap s'.heap /\ (a = X.env.locals \/ X.env.cells.lookup x = some a)) -> Q () s') (hf : X.fn x = true \/ X.env.scope.names.lookup x = some .local := by first | exact .inl rfl | exact .inr rfl | assumption) : wpAny M A (storeName X.env x u) Q E s := by
 obtain ⟨m, hn, hl⟩ := id I.loc
 have hcls : (X.env.scope.kind == .class || (X.env.scope.kind == .module && X.env.locals != X.env.globals)) = false := by rw [I.ok.kind]; rfl
 have hiσ : i < σ.length := by rw [I.len]; exact (List.getElem?_eq_some_iff.mp hi).1
 have cne := I.cne
 have tracked : ∀ {a : Addr} {h' : Heap}, (∃ o, s.heap.get? a = some o /\ H a = none) -> Heap.SameBut a s.heap h' -> HOk X.prog X.w H h' := fun {a h'} ha hs b ob e => by
  obtain ⟨_, _, hfree⟩ := ha
  refine (I.hok b ob e).stay (fun c w' hc q => (hs.2 c ?_).trans q) (fun _ q => q) fun _ _ q => q
  rintro rfl
  rcases hc with rfl | hc
  ·rw [hfree] at e; cases e
  ·rw [hfree] at hc; cases hc
 rcases hx with hk | hk
 ·refine wpAny_storeName_local hk hn (fun h' hn' hs => ?_) hcls
  obtain ⟨oL, _, _, hoL, _⟩ := id hn
  refine h _ ⟨I.ok, I.os, I.bare, ⟨fun b o e n hb hx => ?_, fun b o e n hb hx => ?_, I.base.free, fun b o e hx => ?_, I.base.tups, I.base.frzs, I.base.tbls⟩, ⟨_, hn', fun j y v' e1 e2 e3 => ?_⟩, fun y c e => ?_, I.free, I.freeC, fun p hp => ?_, tracked ⟨oL, hoL, I.free⟩ hs, by simpa using I.len⟩ ⟨_, hs, .inl rfl⟩
  ·exact (hs.2 b (Nat.ne_of_lt (Nat.lt_of_lt_of_le (Heap.lt_size e) I.ok.above))).trans (I.base.keep b o e n hb hx)
  ·obtain ⟨sl, e1⟩ := I.base.slot b o e n hb hx
   exact ⟨sl, (hs.2 b (Nat.ne_of_lt (Nat.lt_of_lt_of_le (Heap.lt_size e) I.ok.above))).trans e1⟩
  ·obtain ⟨o', e1⟩ := I.base.there b o e hx
   exact ⟨o', (hs.2 b (Nat.ne_of_lt (Nat.lt_of_lt_of_le (Heap.lt_size e) I.ok.above))).trans e1⟩
  ·by_cases hj : j = i
   ·subst hj
    rw [hi] at e1; cases e1
    rw [List.getElem?_set_self hiσ] at e2
    cases e2
    exact ⟨u, r, .inl ⟨hk, by simp⟩⟩
   ·rw [List.getElem?_set_ne (Ne.symm hj)] at e2
    obtain ⟨u', r', q⟩ := hl j y v' e1 e2 e3
    refine ⟨u', r', ?_⟩
    rcases q with ⟨k, e⟩ | ⟨k, c, e, z⟩
    ·refine .inl ⟨k, ?_⟩
     have : y ≠ x := fun e => hj (nodup_ix hN e1 (e ▸ hi))
     simp [this, e]
    ·exact .inr ⟨k, c, e, z.sameBut hs (cne y c e)⟩
  ·obtain ⟨w', z⟩ := I.cell y c e
   exact ⟨w', z.sameBut hs (cne y c e)⟩
  ·obtain ⟨e, n, ne, nf, d⟩ := I.pin p hp
   exact ⟨(hs.2 p.1 ne).trans e, n, ne, nf, d⟩
 ·have hfn : X.fn x = true := by
   rcases hf with z | z
   ·exact z
   ·rw [z] at hk; cases hk
  obtain ⟨c, hc⟩ := I.ok.has x (.inl hk)
  obtain ⟨w', z⟩ := I.cell x c hc
  refine wpAny_storeName_cell I.ok.kind hk hc z (fun h' hc' hs => ?_)
  obtain ⟨oc, hoc, hocd⟩ := id z
  refine h { s with heap := h' } ⟨I.ok, I.os, I.bare, ⟨fun b o e n hb hx => ?_, fun b o e n hb hx => ?_, I.base.free, fun b o e hx => ?_, I.base.tups, I.base.frzs, I.base.tbls⟩, ⟨m, hn.sameBut hs (Ne.symm (cne x c hc)), fun j y v' e1 e2 e3 => ?_⟩, fun y c' e => ?_, I.free, I.freeC, fun p hp => ?_, tracked ⟨oc, hoc, I.freeC x c hc⟩ hs, by simpa using I.len⟩ ⟨c, hs, .inr hc⟩
  ·exact (hs.2 b (Nat.ne_of_lt (Nat.lt_of_lt_of_le (Heap.lt_size e) (I.ok.cab x c hfn hc)))).trans (I.base.keep b o e n hb hx)
  ·obtain ⟨sl, e1⟩ := I.base.slot b o e n hb hx
   exact ⟨sl, (hs.2 b (Nat.ne_of_lt (Nat.lt_of_lt_of_le (Heap.lt_size e) (I.ok.cab x c hfn hc)))).trans e1⟩
  ·obtain ⟨o', e1⟩ := I.base.there b o e hx
   exact ⟨o', (hs.2 b (Nat.ne_of_lt (Nat.lt_of_lt_of_le (Heap.lt_size e) (I.ok.cab x c hfn hc)))).trans e1⟩
  ·by_cases hj : j = i
   ·subst hj
    rw [hi] at e1; cases e1
    rw [List.getElem?_set_self hiσ] at e2
    cases e2
    exact ⟨u, r, .inr ⟨.inl hk, c, hc, hc'⟩⟩
   ·rw [List.getElem?_set_ne (Ne.symm hj)] at e2
    obtain ⟨u', r', q⟩ := hl j y v' e1 e2 e3
    refine ⟨u', r', ?_⟩
    rcases q with q | ⟨k, c', e, z'⟩
    ·exact .inl q
    ·refine .inr ⟨k, c', e, z'.sameBut hs ?_⟩
     rintro rfl
     exact hj (nodup_ix hN e1 (I.ok.inj _ _ _ e hc ▸ hi))
  ·by_cases hcc : c' = c
   ·subst hcc; exact ⟨_, hc'⟩
   ·obtain ⟨w2, z2⟩ := I.cell y c' e
    exact ⟨w2, z2.sameBut hs hcc⟩
  ·obtain ⟨e, n, ne, nf, d⟩ := I.pin p hp
   refine ⟨(hs.2 p.1 ?_).trans e, n, ne, nf, d⟩
   intro q
   rw [q, hoc] at e
   have q' : oc = p.2 := Option.some.inj e
   exact d w' (by rw [<- q']; exact hocd)
theorem store_ok {M : Model} {A : Around} {E : Value -> Shared -> Prop} {i : Nat} {x : Str} {v : V} {u : Value} {Q : Unit -> Shared -> Prop} (I : Inv X pins σ H s) (hN : X.N.Nodup) (hi : X.N[i]? = some x) (hx : Loc X.env.scope x) (r : RelV v u)
  (h : ∀ s', Inv X pins (σ.set i (some v)) H s' -> Q () s') (hf : X.fn x = true \/ X.env.scope.names.lookup x = some .local := by first | exact .inl rfl | exact .inr rfl | assumption) : wpAny M A (storeName X.env x u) Q E s :=
 store_ok2 I hN hi hx r (fun s' I' _ => h s' I') hf
theorem Inv.call' {s' : Shared} {ch : List Addr} (I : Inv X pins σ H s) (ho : s'.os = s.os) (u : Un (frs X.stack) ch H H' s.heap s'.heap) (hok : HOk X.prog X.w H' s'.heap) (hg : AllBare s'.gens)
  (hch : ∀ b ∈ ch, (b ∈ X.ex \/ X.s₀.heap.objs.size <= b) /\ b ≠ X.env.locals /\ (∀ x c, X.env.cells.lookup x = some c -> c ≠ b) /\ ∀ p ∈ X.pn ++ pins, p.1 ≠ b) : Inv X pins σ H' s' := by
 obtain ⟨h', g', d', t', o'⟩ := s'
 have e : o' = s.os := ho
 subst e
 exact I.call (g' := g') (t' := t') (d' := d') u hok hg hch
end
abbrev XK := Value -> Option Addr -> Hp -> Prop
abbrev St := List (Option V)
abbrev VK := V -> Hp -> Prop
abbrev TE := St -> Hp -> VK -> Prop
abbrev TT := St -> Hp -> (Bool -> Hp -> Prop) -> Prop
abbrev TA := St -> Hp -> (List V -> Hp -> Prop) -> Prop
structure Ends where
 nx : St -> Hp -> Prop
 rt : VK
 bk : St -> Hp -> Prop := fun _ _ => False
 ct : St -> Hp -> Prop := fun _ _ => False
abbrev TS := Ends -> St -> Hp -> Prop
def EP (X : Cx) (pins : List (Addr × Obj)) (σ : St) (Q : VK) (u : Value) (s' : Shared) : Prop := ∃ v H', Inv X pins σ H' s' /\ RelV v u /\ Q v H'
def TP (X : Cx) (pins : List (Addr × Obj)) (σ : St) (Q : Bool -> Hp -> Prop) (b : Bool) (s' : Shared) : Prop := ∃ H', Inv X pins σ H' s' /\ Q b H'
def AP (X : Cx) (pins : List (Addr × Obj)) (σ : St) (Q : List V -> Hp -> Prop) (us : List Value) (s' : Shared) : Prop := ∃ vs H', Inv X pins σ H' s' /\ Vals vs us /\ Q vs H'
def SP (X : Cx) (pins : List (Addr × Obj)) (D : Ends) (f : Flow) (s' : Shared) : Prop :=
 match f with
 | .next => ∃ σ' H', Inv X pins σ' H' s' /\ D.nx σ' H'
 | .brk => ∃ σ' H', Inv X pins σ' H' s' /\ D.bk σ' H'
 | .cont => ∃ σ' H', Inv X pins σ' H' s' /\ D.ct σ' H'
 | .ret u => ∃ v σ' H', Inv X pins σ' H' s' /\ RelV v u /\ D.rt v H'
def PE (X : Cx) (e : Expr) (t : TE) : Prop :=
 ∀ (pins : List (Addr × Obj)) (s : Shared) (σ : St) (H : Hp) (Q : VK), Inv X pins σ H s -> t σ H Q -> wpAny (model X.prog X.w) X.A (eval e X.env) (EP X pins σ Q) X.xe s
def PT (X : Cx) (e : Expr) (t : TT) : Prop :=
 ∀ (pins : List (Addr × Obj)) (s : Shared) (σ : St) (H : Hp) (Q : Bool -> Hp -> Prop), Inv X pins σ H s -> t σ H Q -> wpAny (model X.prog X.w) X.A (isTrue e X.env (eval e X.env)) (TP X pins σ Q) X.xe s
def PW (X : Cx) (e : Expr) (t : TT) : Prop :=
 ∀ (whole : Sem Value) (pins : List (Addr × Obj)) (s : Shared) (σ : St) (H : Hp) (Q : Bool -> Hp -> Prop), Inv X pins σ H s -> t σ H Q -> wpAny (model X.prog X.w) X.A (isTrue e X.env whole) (TP X pins σ Q) X.xe s
theorem PW.pt {X : Cx} {e : Expr} {t : TT} (h : PW X e t) : PT X e t := h _
def PA (X : Cx) (es : List Expr) (t : TA) : Prop :=
 ∀ (pos : Pos) (pins : List (Addr × Obj)) (s : Shared) (σ : St) (H : Hp) (Q : List V -> Hp -> Prop), Inv X pins σ H s -> t σ H Q -> wpAny (model X.prog X.w) X.A (spliced (backTo pos (starEach es X.env))) (AP X pins σ Q) X.xe s
def PS (X : Cx) (st : Stmt) (t : TS) : Prop :=
 ∀ (pins : List (Addr × Obj)) (s : Shared) (σ : St) (H : Hp) (D : Ends), Inv X pins σ H s -> t D σ H -> wpAny (model X.prog X.w) X.A (exec st X.env) (SP X pins D) X.xe s
def PSs (X : Cx) (st : List Stmt) (t : TS) : Prop :=
 ∀ (pins : List (Addr × Obj)) (s : Shared) (σ : St) (H : Hp) (D : Ends), Inv X pins σ H s -> t D σ H -> wpAny (model X.prog X.w) X.A (execs st X.env) (SP X pins D) X.xe s
theorem thn {α : Type} {t : Sem α} {Q Q' : α -> Shared -> Prop} {M : Model} {A : Around} {E : Value -> Shared -> Prop} {s : Shared} (h : wpAny M A t Q E s) (hQ : ∀ a s, Q a s -> Q' a s) : wpAny M A t Q' E s := wpAny_mono h hQ fun _ _ x => x
section
variable {X : Cx}
def tVar (i : Nat) : TE := fun σ H Q => ∃ v, σ[i]? = some (some v) /\ Q v H
def tC (v : V) : TE := fun _ H Q => Q v H
theorem pe_var {i : Nat} {x : Str} {pos : Pos} (hN : X.N[i]? = some x) (hv : Vis X.env.scope x) (hd : (x == ("__debug__" : Str)) = false := by decide) (hcd : (x == ("__classdict__" : Str)) = false := by decide) : PE X (.Name x pos) (tVar i) := by
 intro pins s σ H Q I h
 obtain ⟨v, e, h⟩ := h
 obtain ⟨m, hn, hl⟩ := I.loc
 obtain ⟨u, r, l⟩ := hl i x v hN e hv
 have fin : EP X pins σ Q u s := ⟨v, H, I, r, h⟩
 rcases l with ⟨hk, hm⟩ | ⟨hk, c, hc, hcell⟩
 ·exact wpAny_Name (wpAny_loadName_local I.ok.kind hk hn hm fin) hd
 ·rcases hk with hk | hk
  ·exact wpAny_Name (wpAny_loadName_cell I.ok.kind hk hc hcell fin) hd
  ·exact wpAny_Name (wpAny_loadName_free I.ok.kind hk hc hcell fin hcd) hd
theorem pe_int {i j pos} : PE X (.Constant (.int i) j pos) (tC (.int i)) := fun _ _ _ H _ I h => wpAny_Constant_int ⟨.int i, H, I.tok _, ⟨_, rfl⟩, h⟩
theorem pe_bl {b j pos} : PE X (.Constant (.bool b) j pos) (tC (.bl b)) := fun _ _ _ H _ I h => Constant_bool ⟨.bl b, H, I, rfl, h⟩
theorem pe_non {j pos} : PE X (.Constant .none j pos) (tC .non) := fun _ _ _ H _ I h => Constant_none ⟨.non, H, I, rfl, h⟩
def Gl (X : Cx) (x : Str) : Prop := X.env.kindOf x = some .globalImplicit
theorem ld_glob {E : Value -> Shared -> Prop} {pins : List (Addr × Obj)} {s : Shared} {σ : St} {H : Hp} {x : Str} {u : Value} {pos : Pos} {Q : Value -> Shared -> Prop} (I : Inv X pins σ H s) (hg : Gl X x) (hm : X.mg x = some u) (h : Q u s)
  (hd : (x == ("__debug__" : Str)) = false := by decide) : wpAny (model X.prog X.w) X.A (eval (.Name x pos) X.env) Q E s :=
 Calls.Name_function_global I.ok.kind hg (Calls.loadGlobal_global (by rw [I.ok.glob]; exact I.mod.glob.keeps I.bk) hm h) hd
theorem ld_blt {E : Value -> Shared -> Prop} {pins : List (Addr × Obj)} {s : Shared} {σ : St} {H : Hp} {x : Str} {u : Value} {pos : Pos} {Q : Value -> Shared -> Prop} (I : Inv X pins σ H s) (hg : Gl X x) (hm : X.mg x = none) (hv : bootBuiltins x = some u) (h : Q u s)
  (hn : x ≠ "__name__" := by decide) (hd : (x == ("__debug__" : Str)) = false := by decide) : wpAny (model X.prog X.w) X.A (eval (.Name x pos) X.env) Q E s := by
 obtain ⟨mb, h1, h2⟩ := I.mod.blt
 exact Calls.Name_function_global I.ok.kind hg (Calls.loadGlobal_builtin (by rw [I.ok.glob]; exact I.mod.glob.keeps I.bk) hm (by rw [I.ok.blt]; exact h1.keeps I.bk) ((h2 x hn).trans hv) h) hd
theorem pe_glob {x : Str} {v : V} {u : Value} {pos : Pos} (hg : Gl X x) (hm : X.mg x = some u) (r : RelV v u) (hd : (x == ("__debug__" : Str)) = false := by decide) : PE X (.Name x pos) (tC v) :=
 fun _ _ _ H _ I h => ld_glob I hg hm ⟨v, H, I, r, h⟩ hd
theorem pe_bltn {x : Str} {v : V} {u : Value} {pos : Pos} (hg : Gl X x) (hm : X.mg x = none) (hv : bootBuiltins x = some u) (r : RelV v u) (hn : x ≠ "__name__" := by decide) (hd : (x == ("__debug__" : Str)) = false := by decide) : PE X (.Name x pos) (tC v) :=
 fun _ _ _ H _ I h => ld_blt I hg hm hv ⟨v, H, I, r, h⟩ hn hd
variable {a b : Expr} {ta tb : TE} {pos : Pos}
def tB (t : TE) : TT := fun σ H Q => t σ H fun x H1 => ∃ c, x = .bl c /\ Q c H1
variable {tA tB' : TT} {rest : List Expr}
def tAnd (t u : TT) : TT := fun σ H Q => t σ H fun c H1 => if c = true then u σ H1 Q else Q false H1
def tOr (t u : TT) : TT := fun σ H Q => t σ H fun c H1 => if c = true then Q true H1 else u σ H1 Q
def tNot (t : TT) : TT := fun σ H Q => t σ H fun c H1 => Q (!c) H1
theorem pw_and1 (ha : PT X a tA) : PW X (.BoolOp .And [a] pos) tA := by
 intro wh pins s σ H Q I h
 refine isTrue_and (thn (ha pins s σ H Q I h) fun c s1 e => ?_)
 cases c with
 | true => exact isTrue_and_nil e
 | false => exact e
theorem pw_or1 (ha : PT X a tA) : PW X (.BoolOp .Or [a] pos) tA := by
 intro wh pins s σ H Q I h
 refine isTrue_or (thn (ha pins s σ H Q I h) fun c s1 e => ?_)
 cases c with
 | false => exact isTrue_or_nil e
 | true => exact e
theorem pw_and (ha : PT X a tA) (hb : PW X (.BoolOp .And (b :: rest) pos) tB') : PW X (.BoolOp .And (a :: b :: rest) pos) (tAnd tA tB') := by
 intro wh pins s σ H Q I h
 refine isTrue_and (thn (ha pins s σ H _ I h) fun c s1 hpt9 => ?_)
 obtain ⟨H1, I1, q1⟩ := hpt9
 cases c with
 | true => exact hb wh pins s1 σ H1 Q I1 q1
 | false => exact ⟨H1, I1, q1⟩
theorem pw_or (ha : PT X a tA) (hb : PW X (.BoolOp .Or (b :: rest) pos) tB') : PW X (.BoolOp .Or (a :: b :: rest) pos) (tOr tA tB') := by
 intro wh pins s σ H Q I h
 refine isTrue_or (thn (ha pins s σ H _ I h) fun c s1 hpt9 => ?_)
 obtain ⟨H1, I1, q1⟩ := hpt9
 cases c with
 | true => exact ⟨H1, I1, q1⟩
 | false => exact hb wh pins s1 σ H1 Q I1 q1
theorem pt_not (ha : PT X a tA) : PT X (.UnaryOp .Not a pos) (tNot tA) := by
 intro pins s σ H Q I h
 exact isTrue_not (ha pins s σ H (fun c H1 => Q (!c) H1) I h)
def tAndV (ta tb : TE) : TE := fun σ H Q => ta σ H fun x H1 => ∃ c, x = .bl c /\ if c = true then tb σ H1 Q else Q (.bl false) H1
def tNotV (ta : TE) : TE := fun σ H Q => ta σ H fun x H1 => ∃ c, x = .bl c /\ Q (.bl (!c)) H1
theorem pe_one {op} {t : TE} (h : PE X a t) : PE X (.BoolOp op [a] pos) t := fun pins s σ H Q I hw => BoolOp_one (h pins s σ H Q I hw)
theorem pe_and (ha : PE X a ta) (hb : PE X (.BoolOp .And (b :: rest) pos) tb) : PE X (.BoolOp .And (a :: b :: rest) pos) (tAndV ta tb) := by
 intro pins s σ H Q I h
 refine BoolOp_and (thn (ha pins s σ H _ I h) fun v s1 hpt9 => ?_)
 obtain ⟨x, H1, I1, r1, q1⟩ := hpt9
 obtain ⟨c, rfl, q1⟩ := q1
 cases r1
 refine wpAny_truthy_bool ?_
 cases c with
 | true => exact hb pins s1 σ H1 Q I1 q1
 | false => exact ⟨.bl false, H1, I1, rfl, q1⟩
theorem pe_not (ha : PE X a ta) : PE X (.UnaryOp .Not a pos) (tNotV ta) := by
 intro pins s σ H Q I h
 refine UnaryOp_ (thn (ha pins s σ H _ I h) fun v s1 hpt9 => ?_)
 obtain ⟨x, H1, I1, r1, q1⟩ := hpt9
 obtain ⟨c, rfl, q1⟩ := q1
 cases r1
 exact not_of (wpAny_truthy_bool ⟨.bl (!c), H1, I1, rfl, q1⟩)
end
def SqL (K : W.Frag) (H : Hp) (a : Addr) (xs : List V) : Prop :=
 Rd H a (.lst xs) \/
  ∃ (o : Obj) (its : Array Value) (n : Nat), K.lookup a = some o /\ o.cls = .type "list" /\ o.dict = none /\ o.data = .seq its n /\ its.size <= sizeLine /\ Vals xs its.toList
def SqT (K : W.Frag) (H : Hp) (a : Addr) (xs : List V) : Prop :=
 Rd H a (.tup xs) \/
  ∃ (o : Obj) (its : Array Value) (n : Nat), K.lookup a = some o /\ o.cls = .type "tuple" /\ o.data = .seq its n /\ its.size <= sizeLine /\ Vals xs its.toList
def absV : Value -> Option V
 | .none => some .non
 | .bool b => some (.bl b)
 | .int i _ => some (.int i)
 | .str x _ => some (.str x)
 | .bytes b _ => some (.byt b)
 | .float b _ => some (.flt b)
 | .ref a => some (.ref a)
 | .type n => some (.ty n)
 | _ => none
theorem RelV.abs {x : V} {u : Value} (r : RelV x u) : absV u = some x := by
 cases x with
 | non => cases r; rfl
 | bl _ => cases r; rfl
 | int _ => obtain ⟨t, rfl⟩ := r; rfl
 | str _ => obtain ⟨t, rfl⟩ := r; rfl
 | byt _ => obtain ⟨t, rfl⟩ := r; rfl
 | flt _ => obtain ⟨t, rfl⟩ := r; rfl
 | ref _ => cases r; rfl
 | ty _ => cases r; rfl
theorem RelV.inj {x y : V} {u : Value} (r : RelV x u) (q : RelV y u) : x = y := Option.some.inj (r.abs.symm.trans q.abs)
theorem Vals.inj {xs ys : List V} {us : List Value} (h : Vals xs us) (k : Vals ys us) : xs = ys := by
 induction h generalizing ys with
 | nil => cases k; rfl
 | cons r t ih =>
  cases k with
  | cons r' t' => rw [r.inj r', ih t']
section
variable {X : Cx} {pins : List (Addr × Obj)} {σ : St} {H : Hp} {s : Shared} {a : Addr} {xs ys : List V}
theorem SqL.of {K : W.Frag} (h : H a = some (.lst xs)) : SqL K H a xs := .inl (.inl h)
theorem SqT.of {K : W.Frag} (h : H a = some (.tup xs)) : SqT K H a xs := .inl (.inl h)
theorem Inv.list (I : Inv X pins σ H s) (h : SqL X.K H a xs) : ∃ its : List Value, Vals xs its /\ PlainL s.heap a its.toArray /\ xs.length <= sizeLine := by
 rcases h with h | ⟨o, its, n, hk, hc, hd, hs, hz, r⟩
 ·obtain ⟨z, its, n, r, e⟩ := h.ok I.hok
  exact ⟨its, r, ⟨_, n, e, rfl, rfl, rfl⟩, z⟩
 ·refine ⟨its.toList, r, ⟨o, n, I.kIn a o hk, hc, hd, by simpa using hs⟩, ?_⟩
  have e := r.length
  simp only [Array.length_toList] at e
  lia
theorem Inv.tuple (I : Inv X pins σ H s) (h : SqT X.K H a xs) : ∃ its : List Value, Vals xs its /\ IsTup s.heap a its.toArray /\ xs.length <= sizeLine := by
 rcases h with h | ⟨o, its, n, hk, hc, hs, hz, r⟩
 ·obtain ⟨z, its, r, p⟩ := h.ok I.hok
  exact ⟨its, r, p, z⟩
 ·refine ⟨its.toList, r, ⟨o, I.kIn a o hk, hc, n, by simpa using hs⟩, ?_⟩
  have e := r.length
  simp only [Array.length_toList] at e
  lia
theorem Inv.list_inj (I : Inv X pins σ H s) (h : SqL X.K H a xs) (h' : SqL X.K H a ys) : xs = ys := by
 obtain ⟨its, r, ⟨o, n, e, _, _, d⟩, _⟩ := I.list h
 obtain ⟨its', r', ⟨o', n', e', _, _, d'⟩, _⟩ := I.list h'
 rw [e] at e'; cases e'
 rw [d] at d'
 injection d' with d1 _
 have : its = its' := by simpa using congrArg Array.toList d1
 subst this
 exact r.inj r'
theorem Inv.tuple_inj (I : Inv X pins σ H s) (h : SqT X.K H a xs) (h' : SqT X.K H a ys) : xs = ys := by
 obtain ⟨its, r, ⟨o, e, _, n, d⟩, _⟩ := I.tuple h
 obtain ⟨its', r', ⟨o', e', _, n', d'⟩, _⟩ := I.tuple h'
 rw [e] at e'; cases e'
 rw [d] at d'
 injection d' with d1 _
 have : its = its' := by simpa using congrArg Array.toList d1
 subst this
 exact r.inj r'
end
abbrev Cx.wish (X : Cx) (E : Value -> Shared -> Prop) : Cx := { X with xe := E }
abbrev Cx.nox (X : Cx) : Cx := X.wish fun _ _ => False
theorem Cx.Ok.wish {X : Cx} (ok : X.Ok) (E : Value -> Shared -> Prop) : (X.wish E).Ok :=
 ⟨ok.mod, ok.kind, ok.glob, ok.blt, ok.above, ok.inj, ok.has, ok.cab, ok.hd, ok.frames, ok.stk, ok.exf, ok.bs, ok.bsz, ok.noex, ok.exfs, ok.funs, ok.frf⟩
theorem Cx.Ok.unwish {X : Cx} {E : Value -> Shared -> Prop} (ok : (X.wish E).Ok) : X.Ok :=
 ⟨ok.mod, ok.kind, ok.glob, ok.blt, ok.above, ok.inj, ok.has, ok.cab, ok.hd, ok.frames, ok.stk, ok.exf, ok.bs, ok.bsz, ok.noex, ok.exfs, ok.funs, ok.frf⟩
section
variable {X : Cx} {pins : List (Addr × Obj)} {σ : St} {H : Hp} {s : Shared} {E : Value -> Shared -> Prop}
theorem Inv.wish (I : Inv X pins σ H s) (E : Value -> Shared -> Prop) : Inv (X.wish E) pins σ H s := ⟨I.ok.wish E, I.os, I.bare, I.base, I.loc, I.cell, I.free, I.freeC, I.pin, I.hok, I.len⟩
theorem Inv.unwish (I : Inv (X.wish E) pins σ H s) : Inv X pins σ H s := ⟨I.ok.unwish, I.os, I.bare, I.base, I.loc, I.cell, I.free, I.freeC, I.pin, I.hok, I.len⟩
theorem SP.unwish {D : Ends} {f : Flow} {s' : Shared} (h : SP (X.wish E) pins D f s') : SP X pins D f s' := by
 cases f with
 | next => obtain ⟨σ', H', I, q⟩ := h; exact ⟨σ', H', I.unwish, q⟩
 | brk => obtain ⟨σ', H', I, q⟩ := h; exact ⟨σ', H', I.unwish, q⟩
 | cont => obtain ⟨σ', H', I, q⟩ := h; exact ⟨σ', H', I.unwish, q⟩
 | ret u => obtain ⟨v, σ', H', I, r, q⟩ := h; exact ⟨v, σ', H', I.unwish, r, q⟩
theorem PSs.nox {st : List Stmt} {t : TS} (h : PSs X.nox st t) : PSs X st t := fun pins s σ H D I hw =>
 wpAny_mono (h pins s σ H D (I.wish _) hw) (fun _ _ q => q.unwish) fun _ _ z => False.elim z
end
section
variable {X : Cx} {st : Stmt} {rest : List Stmt} {t u : TS} {e : Expr} {te : TE} {pos : Pos}
def tNext : TS := fun D σ H => D.nx σ H
def tSeq (t u : TS) : TS := fun D σ H => t { D with nx := u D } σ H
theorem pss_nil : PSs X [] tNext := fun _ _ σ H _ I h => wpAny_execs_nil ⟨σ, H, I, h⟩
theorem pss_cons (h1 : PS X st t) (h2 : PSs X rest u) : PSs X (st :: rest) (tSeq t u) := by
 intro pins s σ H D I h
 refine wpAny_execs_cons (thn (h1 pins s σ H { D with nx := u D } I h) fun f s1 q => ?_)
 cases f with
 | next =>
  obtain ⟨σ', H', I', q⟩ := q
  exact h2 pins s1 σ' H' D I' q
 | ret v => exact q
 | brk => exact q
 | cont => exact q
theorem pss_one (h1 : PS X st t) : PSs X [st] t := by
 intro pins s σ H D I h
 refine wpAny_execs_cons (thn (h1 pins s σ H D I h) fun f s1 q => ?_)
 cases f with
 | next => exact wpAny_execs_nil q
 | ret v => exact q
 | brk => exact q
 | cont => exact q
theorem Inv.quiet {pins : List (Addr × Obj)} {σ : St} {H : Hp} {s : Shared} (I : Inv X pins σ H s) : interactive X.env = false := by simp [interactive, I.ok.kind]
def tDrop (te : TE) : TS := fun D σ H => te σ H fun _ H1 => D.nx σ H1
theorem ps_expr (he : PE X e te) (hs : swapsWith e none pos.line X.env = pure false := by rfl) : PS X (.Expr e pos) (tDrop te) := by
 intro pins s σ H D I h
 exact wpAny_Expr_any (thn (he pins s σ H _ I h) fun v s1 ⟨x, H1, I1, r1, q1⟩ => ⟨σ, H1, I1, q1⟩) I.quiet hs
def tRet (te : TE) : TS := fun D σ H => te σ H D.rt
theorem ps_ret (he : PE X e te) : PS X (.Return (some e) pos) (tRet te) := by
 intro pins s σ H D I h
 exact wpAny_Return_some (thn (he pins s σ H _ I h) fun v s1 ⟨x, H1, I1, r1, q1⟩ => ⟨x, σ, H1, I1, r1, q1⟩)
def tIfS (c : TT) (t u : TS) : TS := fun D σ H => c σ H fun b H1 => if b = true then t D σ H1 else u D σ H1
theorem ps_if {c : Expr} {a b : List Stmt} {tc : TT} (hc : PT X c tc) (ha : PSs X a t) (hb : PSs X b u) : PS X (.If c a b pos) (tIfS tc t u) := by
 intro pins s σ H D I h
 refine wpAny_If (thn (hc pins s σ H _ I h) fun d s1 hpt9 => ?_)
 obtain ⟨H1, I1, q1⟩ := hpt9
 cases d with
 | true => exact ha pins s1 σ H1 D I1 q1
 | false => exact hb pins s1 σ H1 D I1 q1
def tNever : TS := fun _ _ _ => False
theorem pss_never {sts : List Stmt} : PSs X sts tNever := fun _ _ _ _ _ _ h => h.elim
end
abbrev TG := V -> St -> Hp -> (St -> Hp -> Prop) -> Prop
abbrev TGs := List V -> St -> Hp -> (St -> Hp -> Prop) -> Prop
def PG (X : Cx) (target : Expr) (t : TG) : Prop :=
 ∀ (pins : List (Addr × Obj)) (s : Shared) (σ : St) (H : Hp) (v : V) (u : Value) (Q : St -> Hp -> Prop), Inv X pins σ H s -> RelV v u -> t v σ H Q ->
  wpAny (model X.prog X.w) X.A (assign target X.env u) (fun _ s' => ∃ σ' H', Inv X pins σ' H' s' /\ Q σ' H') X.xe s
def PGs (X : Cx) (ts : List Expr) (t : TGs) : Prop :=
 ∀ (pins : List (Addr × Obj)) (s : Shared) (σ : St) (H : Hp) (vs : List V) (us : List Value) (Q : St -> Hp -> Prop), Inv X pins σ H s -> Vals vs us -> t vs σ H Q ->
  wpAny (model X.prog X.w) X.A (assignInOrder ((assignEach ts X.env).map (·.2)) us) (fun _ s' => ∃ σ' H', Inv X pins σ' H' s' /\ Q σ' H') X.xe s
abbrev TSet := V -> V -> V -> Hp -> (Hp -> Prop) -> Prop
def PSet (X : Cx) (t : TSet) : Prop :=
 ∀ (pins : List (Addr × Obj)) (s : Shared) (σ : St) (H : Hp) (o i v : V) (ov iv u : Value) (Q : Hp -> Prop), Inv X pins σ H s -> RelV o ov -> RelV i iv -> RelV v u -> t o i v H Q ->
  wpAny (model X.prog X.w) X.A (setItem ov iv u) (fun _ s' => ∃ H', Inv X pins σ H' s' /\ Q H') X.xe s
abbrev TIp := V -> V -> Hp -> VK -> Prop
def PIp (X : Cx) (op : Operator) (t : TIp) : Prop :=
 ∀ (pins : List (Addr × Obj)) (s : Shared) (σ : St) (H : Hp) (x y : V) (v u : Value) (Q : VK), Inv X pins σ H s -> RelV x v -> RelV y u -> t x y H Q ->
  wpAny (model X.prog X.w) X.A (inplaceOp op v u) (EP X pins σ Q) X.xe s
section
variable {X : Cx} {pos : Pos}
def gName (i : Nat) : TG := fun v σ H Q => Q (σ.set i (some v)) H
theorem pg_name {i : Nat} {x : Str} (hN : X.N.Nodup) (hi : X.N[i]? = some x) (hx : Loc X.env.scope x) (hf : X.fn x = true \/ X.env.scope.names.lookup x = some .local := by first | exact .inl rfl | exact .inr rfl | assumption) : PG X (.Name x pos) (gName i) := by
 intro pins s σ H v u Q I r h
 exact wpAny_assign_Name (store_ok I hN hi hx r (fun s' I' => ⟨_, H, I', h⟩) hf)
def gNil : TGs := fun vs σ H Q => vs = [] /\ Q σ H
def gCons (t : TG) (u : TGs) : TGs := fun vs σ H Q => ∃ v r, vs = v :: r /\ t v σ H fun σ' H' => u r σ' H' Q
theorem pgs_nil : PGs X [] gNil := by
 intro pins s σ H vs us Q I r h
 obtain ⟨e, h⟩ := h
 subst e
 cases r
 exact assignInOrder_nil ⟨σ, H, I, h⟩
theorem pgs_cons {e : Expr} {es : List Expr} {t : TG} {u : TGs} (h1 : PG X e t) (h2 : PGs X es u)
  (hs : (assignEach (e :: es) X.env).map (·.2) = assign e X.env :: (assignEach es X.env).map (·.2) := by rfl) : PGs X (e :: es) (gCons t u) := by
 intro pins s σ H vs us Q I r h
 obtain ⟨v, vr, e1, h⟩ := h
 subst e1
 cases r with
 | cons r rr =>
  rw [hs]
  refine assignInOrder_cons (thn (h1 pins s σ H _ _ _ I r h) fun _ s1 hpt9 => ?_)
  obtain ⟨σ1, H1, I1, q1⟩ := hpt9
  exact h2 pins s1 σ1 H1 _ _ Q I1 rr q1
def gTup (K : W.Frag) (n : Nat) (t : TGs) : TG := fun v σ H Q => ∃ a xs, v = .ref a /\ SqT K H a xs /\ xs.length = n /\ t xs σ H Q
theorem pg_tup {es : List Expr} {k : Nat} {t : TGs} {n : Nat} (hc : X.calm = true) (h : PGs X es t)
  (hn : (assignEach es X.env).length = n := by rfl) (hst : (assignEach es X.env).findIdx? (·.1) = none := by rfl) : PG X (.Tuple es k pos) (gTup X.K n t) := by
 intro pins s σ H v u Q I r hw
 obtain ⟨a, xs, e1, hq, hl, hw⟩ := hw
 subst e1
 cases r
 obtain ⟨its, rv, ht, hz⟩ := I.tuple hq
 refine assign_Tuple_tuple (I.ok.hd hc) ht (by simp [hn, <- hl, rv.length]) hst fun h' hx => ?_
 have I1 : Inv X pins σ H { s with heap := h' } := I.kept (t' := s.toks) fun b o e => hx b o (Nat.ne_of_lt (Heap.lt_size e)) e
 exact h pins _ σ H xs _ Q I1 (by simpa using rv) hw
def gSub (to ti : TE) (t : TSet) : TG := fun v σ H Q => to σ H fun o H1 => ti σ H1 fun i H2 => t o i v H2 fun H3 => Q σ H3
theorem pg_sub {o i : Expr} {to ti : TE} {t : TSet} (ho : PE X o to) (hi : PE X i ti) (hs : PSet X t)
  (ha : ∀ v, assign (.Subscript o i pos) X.env v = (do
   let ov ← holding [v] (eval o X.env)
   let iv ← holding [v, ov] (eval i X.env)
   standAt pos
   holding [v, ov, iv] (setItem ov iv v)
   release [v, ov, iv] []) := by intro _; rfl) : PG X (.Subscript o i pos) (gSub to ti t) := by
 intro pins s σ H v u Q I r h
 rw [ha]
 refine wpAny_bind (wpAny_holding (thn (ho pins s σ H _ I h) fun ov s1 hpt9 => ?_))
 obtain ⟨x, H1, I1, r1, q1⟩ := hpt9
 refine wpAny_bind (wpAny_holding (thn (hi pins s1 σ H1 _ I1 q1) fun iv s2 hpt9 => ?_))
 obtain ⟨y, H2, I2, r2, q2⟩ := hpt9
 refine wpAny_bind (wpAny_standAt (wpAny_bind (wpAny_holding (thn (hs pins s2 σ H2 x y v ov iv u _ I2 r1 r2 r q2) fun _ s3 hpt9 => ?_))))
 obtain ⟨H3, I3, q3⟩ := hpt9
 exact wpAny_release ⟨σ, H3, I3, q3⟩
def tAsg (te : TE) (g : TG) : TS := fun D σ H => te σ H fun x H1 => g x σ H1 D.nx
theorem ps_asg {tg e : Expr} {te : TE} {g : TG} (he : PE X e te) (hg : PG X tg g) (hs : swapsWithSole [tg] e pos.line X.env = pure false := by rfl) (hw : swappedStores [tg] e X.env = pure none := by rfl)
  (h1 : (assignEach [tg] X.env).map (·.2) = [assign tg X.env] := by rfl) : PS X (.Assign [tg] e pos) (tAsg te g) := by
 intro pins s σ H D I h
 refine wpAny_Assign_stores (thn (he pins s σ H _ I h) fun v s1 hpt9 => ?_) hs hw
 obtain ⟨x, H1, I1, r1, q1⟩ := hpt9
 rw [h1]
 exact thn (hg pins s1 σ H1 x v _ I1 r1 q1) fun _ s2 q => q
theorem ps_set {i : Nat} {x : Str} {e : Expr} {te : TE} {pos' : Pos} (hN : X.N.Nodup) (hi : X.N[i]? = some x) (hx : Loc X.env.scope x) (he : PE X e te) (hs : swapsWith e (some (.Name x pos')) pos.line X.env = pure false := by rfl) (hf : X.fn x = true \/ X.env.scope.names.lookup x = some .local := by first | exact .inl rfl | exact .inr rfl | assumption) :
  PS X (.Assign [.Name x pos'] e pos) (tAsg te (gName i)) := by
 intro pins s σ H D I h
 refine wpAny_Assign_Name (thn (he pins s σ H _ I h) fun v s1 hpt9 => ?_) hs
 obtain ⟨y, H1, I1, r1, q1⟩ := hpt9
 exact store_ok I1 hN hi hx r1 (fun s2 I2 => ⟨_, H1, I2, q1⟩) hf
def tAug (i : Nat) (te : TE) (ti : TIp) : TS := fun D σ H => ∃ x, σ[i]? = some (some x) /\ te σ H fun y H1 => ti x y H1 fun z H2 => D.nx (σ.set i (some z)) H2
theorem ps_aug {i : Nat} {x : Str} {e : Expr} {te : TE} {op : Operator} {ti : TIp} {pos' : Pos} (hN : X.N.Nodup) (hi : X.N[i]? = some x) (hx : Loc X.env.scope x) (he : PE X e te) (ho : PIp X op ti) (hf : X.fn x = true \/ X.env.scope.names.lookup x = some .local := by first | exact .inl rfl | exact .inr rfl | assumption) :
  PS X (.AugAssign (.Name x pos') op e pos) (tAug i te ti) := by
 intro pins s σ H D I h
 obtain ⟨v, e1, h⟩ := h
 obtain ⟨m, hn, hl⟩ := I.loc
 have vis : Vis X.env.scope x := by rcases hx with k | k; exact .inl k; exact .inr (.inl k)
 obtain ⟨u, r, l⟩ := hl i x v hi e1 vis
 refine wpAny_AugAssign_Name ?_
 have go : wpAny (model X.prog X.w) X.A (eval e X.env) (fun w s₂ => wpAny (model X.prog X.w) X.A (inplaceOp op u w) (fun r s₃ => wpAny (model X.prog X.w) X.A (storeName X.env x r) (fun _ => SP X pins D .next) X.xe s₃) X.xe s₂) X.xe s := by
  refine thn (he pins s σ H _ I h) fun w s1 hpt9 => ?_
  obtain ⟨y, H1, I1, r1, q1⟩ := hpt9
  refine thn (ho pins s1 σ H1 v y u w _ I1 r r1 q1) fun z s2 hpt9 => ?_
  obtain ⟨zv, H2, I2, r2, q2⟩ := hpt9
  exact store_ok I2 hN hi hx r2 (fun s3 I3 => ⟨_, H2, I3, q2⟩) hf
 rcases l with ⟨hk, hm⟩ | ⟨hk, c, hc, hcell⟩
 ·exact wpAny_loadName_local I.ok.kind hk hn hm go
 ·rcases hk with hk | hk
  ·exact wpAny_loadName_cell I.ok.kind hk hc hcell go
  ·rcases hx with k | k
   ·have : X.env.scope.names.lookup x = some .free := hk
    rw [k] at this; cases this
   ·have : X.env.scope.names.lookup x = some .free := hk
    rw [k] at this; cases this
def ipI (f : Int -> Int -> Int) : TIp := fun x y H Q => ∃ i j, x = .int i /\ y = .int j /\ Q (.int (f i j)) H
theorem ip_add : PIp X .Add (ipI fun i j => i + j) := by
 intro pins s σ H x y v u Q I r1 r2 h
 obtain ⟨i, j, e1, e2, q⟩ := h
 subst e1; subst e2
 obtain ⟨t, rfl⟩ := r1
 obtain ⟨t', rfl⟩ := r2
 exact iadd_int ⟨.int _, H, I.tok _, ⟨_, rfl⟩, q⟩
end
section
variable {X : Cx} {pos : Pos}
def tWhile (c : TT) (tb : TS) : TS := fun D σ H => ∃ W : Nat -> St -> Hp -> Prop, (∃ m, W m σ H) /\ ∀ m σ H, W m σ H ->
 c σ H fun b H1 => if b = true then ∃ N : St -> Hp -> Prop, (∀ σ' H', N σ' H' -> ∃ m', m' < m /\ W m' σ' H') /\ tb { D with nx := N, ct := N, bk := D.nx } σ H1 else D.nx σ H1
theorem ps_while {c : Expr} {body : List Stmt} {tc : TT} {tb : TS} (hp : PassesOwn (model X.prog X.w) X.A X.env X.xe) (hc : PT X c tc) (hb : PSs X body tb) : PS X (.While c body [] pos) (tWhile tc tb) := by
 intro pins s σ H D I h
 obtain ⟨W, ⟨m0, w0⟩, turn⟩ := h
 refine wpAny_While (codeAny_whileLoop (fun n s' => ∃ σ' H', Inv X pins σ' H' s' /\ W n σ' H') ?_ m0 ⟨σ, H, I, w0⟩)
 rintro n s1 ⟨σ1, H1, I1, w1⟩
 refine wpAny_passesOwn hp (thn (hc pins s1 σ1 H1 _ I1 (turn n σ1 H1 w1)) fun b s2 hpt9 => ?_)
 obtain ⟨H2, I2, q2⟩ := hpt9
 cases b with
 | true =>
  obtain ⟨N, hN, q2⟩ := q2
  rw [if_pos rfl]
  refine wpAny_passesOwn hp (thn (hb pins s2 σ1 H2 _ I2 q2) fun f s3 q3 => ?_)
  cases f with
  | next =>
   obtain ⟨σ3, H3, I3, n3⟩ := q3
   obtain ⟨m', hm, w3⟩ := hN σ3 H3 n3
   exact ⟨m', hm, σ3, H3, I3, w3⟩
  | cont =>
   obtain ⟨σ3, H3, I3, n3⟩ := q3
   obtain ⟨m', hm, w3⟩ := hN σ3 H3 n3
   exact ⟨m', hm, σ3, H3, I3, w3⟩
  | brk => exact q3
  | ret v => exact q3
 | false =>
  rw [if_neg Bool.false_ne_true]
  exact wpAny_execs_nil ⟨σ1, H2, I2, q2⟩
end
structure It where
 go : Nat -> Hp -> Prop
 yld : Nat -> Hp -> V -> Hp -> Prop
 stop : Nat -> Hp -> Prop
def FpOk (X : Cx) (pins : List (Addr × Obj)) (H : Hp) (b : Addr) : Prop :=
 H b = none /\ b ≠ X.env.locals /\ b ∉ X.fs /\ (b ∈ X.ex \/ X.s₀.heap.objs.size <= b) /\ (∀ x c, X.env.cells.lookup x = some c -> c ≠ b) /\ ∀ p ∈ X.pn ++ pins, p.1 ≠ b
theorem Inv.fpOk {X : Cx} {pins : List (Addr × Obj)} {σ : St} {H H' : Hp} {s : Shared} {b : Addr} (I : Inv X pins σ H s) (hb : s.heap.objs.size <= b) (hn : H' b = none) : FpOk X pins H' b := by
 refine ⟨hn, Nat.ne_of_gt (Nat.lt_of_lt_of_le I.lt hb), I.nofs hb, .inr (Nat.le_trans I.sz hb), fun x c e z => ?_, fun p hp z => ?_⟩
 ·obtain ⟨v, q⟩ := I.cell x c e
  exact absurd (Nat.lt_of_lt_of_le q.lt (by rw [z]; exact hb)) (Nat.lt_irrefl _)
 ·exact absurd (Nat.lt_of_lt_of_le (Heap.lt_size (I.pin p hp).1) (by rw [z]; exact hb)) (Nat.lt_irrefl _)
structure Turn (P : Program) (w : World) (K : W.Frag) (tg : Expr) (J : It) (fp : List Addr) (it : Addr) (tn : Nat -> Heap -> Prop) : Prop where
 mem : it ∈ fp
 obj : ∀ i h, tn i h -> ∀ b ∈ fp, ∃ o, h.get? b = some o /\ ∀ v, o.data ≠ .cell v
 keep : ∀ i h h', tn i h -> (∀ b ∈ fp, ∀ o, h.get? b = some o -> h'.get? b = some o) -> tn i h'
 item : ∀ (X : Cx), X.prog = P -> X.w = w -> X.K = K -> X.calm = true -> ∀ (i : Nat) (pins : List (Addr × Obj)) (s : Shared) (σ : St) (H : Hp) (E : Value -> Shared -> Prop), Inv X pins σ H s -> (∀ b ∈ fp, FpOk X pins H b) -> tn i s.heap -> J.go i H ->
  wpAny (model P w) X.A (pyNext (.ref it)) (fun r s1 => ∃ u, r = some u /\
   wpAny (model P w) X.A (letOwnedTupleGo tg (.ref it) u) (fun _ s2 => ∃ x H', Inv X pins σ H' s2 /\ RelV x u /\ J.yld i H x H' /\ tn (i + 1) s2.heap /\ ∀ b ∈ fp, H' b = none) E s1) E s
 done : ∀ (X : Cx), X.prog = P -> X.w = w -> X.K = K -> X.calm = true -> ∀ (i : Nat) (pins : List (Addr × Obj)) (s : Shared) (σ : St) (H : Hp) (E : Value -> Shared -> Prop), Inv X pins σ H s -> (∀ b ∈ fp, FpOk X pins H b) -> tn i s.heap -> J.stop i H ->
  wpAny (model P w) X.A (pyNext (.ref it)) (fun r s1 => r = none /\ Inv X pins σ H s1) E s
 self : ∀ (A : Around) (i : Nat) (s : Shared) (Q : Value -> Shared -> Prop) (E : Value -> Shared -> Prop), tn i s.heap -> Q (.ref it) s -> wpAny (model P w) A (pyIter (.ref it)) Q E s
abbrev TI := St -> Hp -> (It -> Hp -> Prop) -> Prop
def PIE (X : Cx) (pins : List (Addr × Obj)) (σ : St) (tg : Expr) (R : It -> Hp -> Prop) (itv : Value) (s2 : Shared) : Prop :=
 ∃ (it : Addr) (fp : List Addr) (tn : Nat -> Heap -> Prop) (J : It) (H' : Hp), itv = .ref it /\ Inv X pins σ H' s2 /\ Turn X.prog X.w X.K tg J fp it tn /\ tn 0 s2.heap /\ (∀ b ∈ fp, FpOk X pins H' b) /\ R J H'
def PI (X : Cx) (tg iter : Expr) (wi : TI) : Prop :=
 ∀ (pins : List (Addr × Obj)) (s : Shared) (σ : St) (H : Hp) (R : It -> Hp -> Prop), Inv X pins σ H s -> wi σ H R ->
  wpAny (model X.prog X.w) X.A (eval iter X.env) (fun v s1 => wpAny (model X.prog X.w) X.A (pyIter v) (PIE X pins σ tg R) X.xe s1) X.xe s
theorem go_of {M : Model} {A : Around} {E : Value -> Shared -> Prop} {s : Shared} {tg : Expr} {it : Addr} {u : Value} {o : Obj} {n : String} {vs : Array Value} {Q : Unit -> Shared -> Prop} (ho : s.heap.get? it = some o) (hc : o.cls = .type n) (hd : o.data = .fields vs)
  (hn : ["enumerate", "zip", "dict_itemiterator", "dict_reverseitemiterator", "odict_iterator", "itertools.zip_longest", "itertools.pairwise"].contains n = false) (hQ : Q () s) : wpAny M A (letOwnedTupleGo tg (.ref it) u) Q E s := by
 unfold letOwnedTupleGo
 cases tg <;> first
  | exact wpAny_pure hQ
  | (cases u <;> first
    | exact wpAny_pure hQ
    | (refine wpAny_bind (wpAny_load ho ?_)
       rw [hc, hd]
       show wpAny M A (if (["enumerate", "zip", "dict_itemiterator", "dict_reverseitemiterator", "odict_iterator", "itertools.zip_longest", "itertools.pairwise"].contains n && vs[0]? == some (rawInt _)) = true then _ else _) Q E s
       rw [if_neg (by intro h; rw [hn, Bool.false_and] at h; cases h)]
       exact wpAny_pure hQ))
def Itl (K : W.Frag) (a : Addr) : It :=
 ⟨fun i H => ∃ xs x, SqL K H a xs /\ xs[i]? = some x, fun i H x H' => H' = H /\ ∀ xs, SqL K H a xs -> xs[i]? = some x, fun i H => ∃ xs, SqL K H a xs /\ xs.length <= i⟩
def Itt (K : W.Frag) (a : Addr) : It :=
 ⟨fun i H => ∃ xs x, SqT K H a xs /\ xs[i]? = some x, fun i H x H' => H' = H /\ ∀ xs, SqT K H a xs -> xs[i]? = some x, fun i H => ∃ xs, SqT K H a xs /\ xs.length <= i⟩
def Itr (lo : Int) (n : Nat) : It := ⟨fun i _ => i < n, fun i H x H' => H' = H /\ x = .int (lo + i), fun i _ => n <= i⟩
theorem turn_list {P : Program} {w : World} {K : W.Frag} {tg : Expr} (a it : Addr) : Turn P w K tg (Itl K a) [it] it (fun i h => h.IsListIter it a i) where
 mem := by simp
 obj := fun i h st b hb => by
  have e : b = it := by simpa using hb
  subst e
  obtain ⟨o, e, c, d⟩ := st
  exact ⟨o, e, fun v z => by rw [d] at z; cases z⟩
 keep := fun i h h' st k => st.at fun o e => k it (by simp) o e
 item := by
  intro X hP hw hK hc i pins s σ H E I hf st hg
  subst hP hw hK
  obtain ⟨xs, x, hq, hx⟩ := hg
  obtain ⟨its, rv, p, hz⟩ := I.list hq
  obtain ⟨u, hu, ru⟩ := rv.get hx
  obtain ⟨f0, f1, f2, f3, f4, f5⟩ := hf it (by simp)
  refine wpAny_pyNext_list_item st p.isList (x := u) (by simpa using hu) fun h' st' sb => ?_
  have I1 : Inv X pins σ H { s with heap := h' } := I.turned (t' := s.toks) (fun b o hb e => (sb.2 b hb).trans e) f0 f1 f3 f4 f5
  obtain ⟨o, e, c, d⟩ := id st'
  exact ⟨u, rfl, go_of (s := { s with heap := h' }) e c d (by decide) ⟨x, H, I1, ru, ⟨rfl, fun ys hy => by rw [I.list_inj hy hq]; exact hx⟩, st', fun b hb => (hf b hb).1⟩⟩
 done := by
  intro X hP hw hK hc i pins s σ H E I hf st hg
  subst hP hw hK
  obtain ⟨xs, hq, hx⟩ := hg
  obtain ⟨its, rv, p, hz⟩ := I.list hq
  obtain ⟨f0, f1, f2, f3, f4, f5⟩ := hf it (by simp)
  have hl := rv.length
  exact wpAny_pyNext_list_end (I.ok.hd hc) st p.isList (by simp; lia) fun h' eb => ⟨rfl, I.turned (t' := s.toks) (fun b o hb e => eb b o hb e) f0 f1 f3 f4 f5⟩
 self := fun _ _ _ _ _ st h => wpAny_pyIter_listiter st h
theorem turn_tuple {P : Program} {w : World} {K : W.Frag} {tg : Expr} (a it : Addr) : Turn P w K tg (Itt K a) [it] it (fun i h => h.IsTupleIter it a i) where
 mem := by simp
 obj := fun i h st b hb => by
  have e : b = it := by simpa using hb
  subst e
  obtain ⟨o, e, c, d⟩ := st
  exact ⟨o, e, fun v z => by rw [d] at z; cases z⟩
 keep := fun i h h' st k => st.at fun o e => k it (by simp) o e
 item := by
  intro X hP hw hK hc i pins s σ H E I hf st hg
  subst hP hw hK
  obtain ⟨xs, x, hq, hx⟩ := hg
  obtain ⟨its, rv, p, hz⟩ := I.tuple hq
  obtain ⟨u, hu, ru⟩ := rv.get hx
  obtain ⟨f0, f1, f2, f3, f4, f5⟩ := hf it (by simp)
  refine wpAny_pyNext_tuple_item st (show s.heap.IsTuple a its.toArray from p) (x := u) (by simpa using hu) fun h' st' sb => ?_
  have I1 : Inv X pins σ H { s with heap := h' } := I.turned (t' := s.toks) (fun b o hb e => (sb.2 b hb).trans e) f0 f1 f3 f4 f5
  obtain ⟨o, e, c, d⟩ := id st'
  exact ⟨u, rfl, go_of (s := { s with heap := h' }) e c d (by decide) ⟨x, H, I1, ru, ⟨rfl, fun ys hy => by rw [I.tuple_inj hy hq]; exact hx⟩, st', fun b hb => (hf b hb).1⟩⟩
 done := by
  intro X hP hw hK hc i pins s σ H E I hf st hg
  subst hP hw hK
  obtain ⟨xs, hq, hx⟩ := hg
  obtain ⟨its, rv, p, hz⟩ := I.tuple hq
  obtain ⟨f0, f1, f2, f3, f4, f5⟩ := hf it (by simp)
  have hl := rv.length
  exact wpAny_pyNext_tuple_end (I.ok.hd hc) st (show s.heap.IsTuple a its.toArray from p) (by simp; lia) fun h' eb => ⟨rfl, I.turned (t' := s.toks) (fun b o hb e => eb b o hb e) f0 f1 f3 f4 f5⟩
 self := fun _ _ _ _ _ st h => wpAny_pyIter_tupleiter st h
theorem turn_range {P : Program} {w : World} {K : PySem.W.Frag} {tg : Expr} (it : Addr) (lo : Int) (n : Nat) : Turn P w K tg (Itr lo n) [it] it (fun i h => IsRangeIter h it (lo + (i : Nat) * 1) ((n : Int) - (i : Nat)) 1) where
 mem := by simp
 obj := fun i h st b hb => by
  have e : b = it := by simpa using hb
  subst e
  exact ⟨_, st, fun v z => by
   have z' : Data.fields _ = Data.cell v := z
   cases z'⟩
 keep := fun i h h' st k => k it (by simp) _ st
 item := by
  intro X hP hw hK hc i pins s σ H E I hf st hg
  subst hP hw hK
  obtain ⟨f0, f1, f2, f3, f4, f5⟩ := hf it (by simp)
  have W := Walks.range (prog := X.prog) (w := X.w) (I.ok.hd hc) it lo 1 n
  refine W.item i s _ _ hg st fun v h' tk hv st' kk => ?_
  obtain ⟨t, rfl⟩ := hv
  have I1 : Inv X pins σ H { s with heap := h', toks := tk } := I.turned (fun b o hb e => kk b o (by simpa using hb) e) f0 f1 f3 f4 f5
  refine ⟨_, rfl, go_of (s := { s with heap := h', toks := tk }) (n := "range_iterator") st' rfl rfl (by decide) ⟨.int (lo + i), H, I1, ⟨t, ?_⟩, ⟨rfl, rfl⟩, st', fun b hb => (hf b hb).1⟩⟩
  rw [Int.mul_one]
 done := by
  intro X hP hw hK hc i pins s σ H E I hf st hg
  subst hP hw hK
  obtain ⟨f0, f1, f2, f3, f4, f5⟩ := hf it (by simp)
  exact wpAny_pyNext_range_end (I.ok.hd hc) st (by have : n <= i := hg; lia) fun h' eb => ⟨rfl, I.turned (t' := s.toks) (fun b o hb e => eb b o hb e) f0 f1 f3 f4 f5⟩
 self := fun _ _ _ _ _ st h => wpAny_pyIter_rangeiter st h
section
variable {X : Cx} {tg : Expr}
theorem range_it {pins : List (Addr × Obj)} {σ : St} {H : Hp} {s : Shared} {R : It -> Hp -> Prop} {E : Value -> Shared -> Prop} {lo hi : Int} {t u v : Tok} {tk : Nat} (I : Inv X pins σ H s) (h1 : -(2 ^ 62) <= lo) (h2 : lo < 2 ^ 62) (h3 : -(2 ^ 62) <= hi) (h4 : hi < 2 ^ 62)
  (q : R (Itr lo (hi - lo).toNat) H) : wpAny (model X.prog X.w) X.A (pyIter (.ref s.heap.objs.size)) (PIE X pins σ tg R) E { s with heap := s.heap.push { cls := .type "range", data := .fields #[.int lo t, .int hi u, .int 1 v] }, toks := tk } := by
 refine wpAny_pyIter_range (IsRange.new ..) (small_one h1 h2 h3 h4) ?_
 have I1 : Inv X pins σ H { s with heap := s.heap.push { cls := .type "range", data := .fields #[.int lo t, .int hi u, .int 1 v] }, toks := tk } := I.kept fun b o e => Heap.get?_push_of_some _ e
 refine ⟨(s.heap.push { cls := .type "range", data := .fields #[.int lo t, .int hi u, .int 1 v] }).objs.size, [(s.heap.push { cls := .type "range", data := .fields #[.int lo t, .int hi u, .int 1 v] }).objs.size], _, _, H, rfl,
  I1.kept (t' := tk) fun b o e => Heap.get?_push_of_some _ e, turn_range _ lo (hi - lo).toNat, ?_, fun b hb => ?_, q⟩
 ·have e1 : lo + ((0 : Nat) : Int) * 1 = lo := by simp
  have e2 : (((hi - lo).toNat : Nat) : Int) - ((0 : Nat) : Int) = Builtin.Range.rangeSize lo hi 1 := by rw [rangeSize_one]; split <;> lia
  show IsRangeIter _ _ (lo + ((0 : Nat) : Int) * 1) ((((hi - lo).toNat : Nat) : Int) - ((0 : Nat) : Int)) 1
  rw [e1, e2]
  exact Heap.get?_push_size _ rfl
 ·have e : b = (s.heap.push { cls := .type "range", data := .fields #[.int lo t, .int hi u, .int 1 v] }).objs.size := by simpa using hb
  subst e
  exact I1.fpOk (Nat.le_refl _) (I1.hok.fresh (Nat.le_refl _))
def iRng1 (ta : TA) : TI := fun σ H R => ta σ H fun vs H1 => ∃ j : Int, vs = [.int j] /\ -(2 ^ 62) <= j /\ j < 2 ^ 62 /\ R (Itr 0 j.toNat) H1
theorem pi_range1 {a : Expr} {ta : TA} {p pos : Pos} (hg : Gl X "range") (hm : X.mg "range" = none) (ha : PA X [a] ta) (hs : starEach [a] X.env = [(false, eval a X.env)] := by rfl) : PI X tg (.Call (.Name "range" p) [a] [] pos) (iRng1 ta) := by
 intro pins s σ H R I h
 refine Call_ (ld_blt I hg hm boot_range (PyProof.Rows.callWith_type1 (thn (ha pos pins s σ H _ I h) fun us s1 hpt9 => ?_) hs rfl))
 obtain ⟨vs, H1, I1, r1, q1⟩ := hpt9
 obtain ⟨j, e, q1, q2, q⟩ := q1
 subst e
 cases r1 with
 | cons r rr =>
  cases rr
  obtain ⟨t, rfl⟩ := r
  exact call_range_1 (range_it I1 (by lia) (by lia) q1 q2 (by simpa using q))
def tFor (wi : TI) (g : TG) (tb : TS) : TS := fun D σ H => wi σ H fun J H1 => ∃ W : Nat -> Nat -> St -> Hp -> Prop, (∃ m, W 0 m σ H1) /\ ∀ i m σ H, W i m σ H ->
 (J.stop i H /\ D.nx σ H) \/ (J.go i H /\ ∃ N : St -> Hp -> Prop, (∀ σ' H', N σ' H' -> ∃ m', m' < m /\ W (i + 1) m' σ' H') /\ ∀ x H', J.yld i H x H' -> g x σ H' fun σ2 H2 => tb { D with nx := N, ct := N, bk := D.nx } σ2 H2)
def pinsAt (fp : List Addr) (h : Heap) : List (Addr × Obj) := fp.filterMap fun b => (h.get? b).map fun o => (b, o)
theorem mem_pinsAt {fp : List Addr} {h : Heap} {b : Addr} {o : Obj} (hb : b ∈ fp) (e : h.get? b = some o) : (b, o) ∈ pinsAt fp h := List.mem_filterMap.mpr ⟨b, hb, by rw [e]; rfl⟩
theorem of_pinsAt {fp : List Addr} {h : Heap} {p : Addr × Obj} (hp : p ∈ pinsAt fp h) : p.1 ∈ fp /\ h.get? p.1 = some p.2 := by
 obtain ⟨b, hb, e⟩ := List.mem_filterMap.mp hp
 cases q : h.get? b with
 | none => rw [q] at e; cases e
 | some o =>
  rw [q] at e
  have e' : (b, o) = p := Option.some.inj e
  subst e'
  exact ⟨hb, q⟩
theorem Inv.pinned {pins : List (Addr × Obj)} {σ : St} {H : Hp} {s : Shared} {fp : List Addr} (I : Inv X pins σ H s) (hf : ∀ b ∈ fp, FpOk X pins H b) (ho : ∀ b ∈ fp, ∃ o, s.heap.get? b = some o /\ ∀ v, o.data ≠ .cell v) : Inv X (pins ++ pinsAt fp s.heap) σ H s :=
 I.pins_of fun p hp => (List.mem_append.mp hp).elim (fun z => I.pin p (List.mem_append_right _ z)) fun z => by
  obtain ⟨hb, e⟩ := of_pinsAt z
  obtain ⟨f0, f1, f2, _⟩ := hf p.1 hb
  obtain ⟨o, e', d⟩ := ho p.1 hb
  rw [e] at e'; cases e'
  exact ⟨e, f0, f1, f2, d⟩
theorem Inv.unpinned {pins pl : List (Addr × Obj)} {σ : St} {H : Hp} {s : Shared} (I : Inv X (pins ++ pl) σ H s) : Inv X pins σ H s := I.pins_of fun p hp => I.pin p (List.mem_append_right _ (List.mem_append_left _ hp))
theorem ps_for {iter : Expr} {body : List Stmt} {wi : TI} {g : TG} {tb : TS} {pos : Pos} (hp : PassesOwn (model X.prog X.w) X.A X.env X.xe) (hc : X.calm = true) (hi : PI X tg iter wi) (hg : PG X tg g) (hb : PSs X body tb)
  (hs : ∀ x, foldedSetIterable iter X.env x = pure x := by intro _; rfl) : PS X (.For tg iter body [] pos) (tFor wi g tb) := by
 intro pins s σ H D I h
 refine wpAny_For (thn (hi pins s σ H _ I h) fun v s1 h1 => thn h1 fun itv s2 h2 => ?_) hs
 obtain ⟨it, fp, tn, J, H2, e, I2, T, st2, f2, W, ⟨m0, w0⟩, turn⟩ := h2
 subst e
 -- what stays true of the iterator's objects through the loop
 have stat : ∀ {H' : Hp}, (∀ b ∈ fp, H' b = none) -> ∀ b ∈ fp, FpOk X pins H' b := fun hn b hb => ⟨hn b hb, (f2 b hb).2⟩
 refine codeAny_forLoop_any (fun n s' => ∃ i σ' H', Inv X pins σ' H' s' /\ tn i s'.heap /\ (∀ b ∈ fp, H' b = none) /\ W i n σ' H') ?_ m0 ⟨0, σ, H2, I2, st2, fun b hb => (f2 b hb).1, w0⟩
 rintro n s3 ⟨i, σ3, H3, I3, st3, fr3, w3⟩
 rcases turn i n σ3 H3 w3 with ⟨stop, qn⟩ | ⟨go, N, hN, step⟩
 ·refine wpAny_passesOwn hp (thn (T.done X rfl rfl rfl hc i pins s3 σ3 H3 X.xe I3 (stat fr3) st3 stop) fun r s4 ⟨hr, I4⟩ => ?_)
  subst hr
  exact wpAny_execs_nil ⟨σ3, H3, I4, qn⟩
 ·refine wpAny_passesOwn hp (thn (T.item X rfl rfl rfl hc i pins s3 σ3 H3 X.xe I3 (stat fr3) st3 go) fun r s4 ⟨u, hr, h4⟩ => ?_)
  subst hr
  refine wpAny_passesOwn hp (thn h4 fun _ s5 hpt9 => ?_)
  obtain ⟨x, H5, I5, r5, y5, st5, fr5⟩ := hpt9
  have I5' := I5.pinned (stat fr5) (T.obj _ _ st5)
  refine wpAny_passesOwn hp (thn (hg _ s5 σ3 H5 x u _ I5' r5 (step x H5 y5)) fun _ s6 hpt9 => ?_)
  obtain ⟨σ6, H6, I6, q6⟩ := hpt9
  refine wpAny_passesOwn hp (thn (hb _ s6 σ6 H6 _ I6 q6) fun f s7 q7 => ?_)
  have again : ∀ {σ7 : St} {H7 : Hp}, Inv X (pins ++ pinsAt fp s5.heap) σ7 H7 s7 -> N σ7 H7 -> ∃ m, m < n /\ ∃ i σ' H', Inv X pins σ' H' s7 /\ tn i s7.heap /\ (∀ b ∈ fp, H' b = none) /\ W i m σ' H' := fun {σ7 H7} I7 n7 => by
   obtain ⟨m', hm, w7⟩ := hN σ7 H7 n7
   refine ⟨m', hm, i + 1, σ7, H7, I7.unpinned, T.keep _ _ _ st5 fun b hb o e => (I7.pin (b, o) (List.mem_append_right _ (List.mem_append_right _ (mem_pinsAt hb e)))).1, fun b hb => ?_, w7⟩
   obtain ⟨o, e, d⟩ := T.obj _ _ st5 b hb
   exact (I7.pin (b, o) (List.mem_append_right _ (List.mem_append_right _ (mem_pinsAt hb e)))).2.1
  cases f with
  | next => obtain ⟨σ7, H7, I7, n7⟩ := q7; exact again I7 n7
  | cont => obtain ⟨σ7, H7, I7, n7⟩ := q7; exact again I7 n7
  | brk => obtain ⟨σ7, H7, I7, q7⟩ := q7; exact ⟨σ7, H7, I7.unpinned, q7⟩
  | ret v => obtain ⟨x7, σ7, H7, I7, r7, q7⟩ := q7; exact ⟨x7, σ7, H7, I7.unpinned, r7, q7⟩
end
abbrev R2 := V -> V -> Hp -> VK -> Prop
def OpR (X : Cx) (f : Value -> Value -> Sem Value) (r : R2) : Prop :=
 ∀ (pins : List (Addr × Obj)) (s : Shared) (σ : St) (H : Hp) (x y : V) (v u : Value) (Q : VK), Inv X pins σ H s -> RelV x v -> RelV y u -> r x y H Q ->
  wpAny (model X.prog X.w) X.A (f v u) (EP X pins σ Q) X.xe s
def UnR (X : Cx) (f : Value -> Sem Value) (r : V -> Hp -> VK -> Prop) : Prop :=
 ∀ (pins : List (Addr × Obj)) (s : Shared) (σ : St) (H : Hp) (x : V) (v : Value) (Q : VK), Inv X pins σ H s -> RelV x v -> r x H Q ->
  wpAny (model X.prog X.w) X.A (f v) (EP X pins σ Q) X.xe s
def CallR (X : Cx) (f : Value) (r : List V -> Hp -> VK -> Prop) : Prop :=
 ∀ (pins : List (Addr × Obj)) (s : Shared) (σ : St) (H : Hp) (xs : List V) (us : List Value) (Q : VK), Inv X pins σ H s -> Vals xs us -> r xs H Q ->
  wpAny (model X.prog X.w) X.A (call f us) (EP X pins σ Q) X.xe s
def TruR (X : Cx) (r : V -> Hp -> (Bool -> Hp -> Prop) -> Prop) : Prop :=
 ∀ (pins : List (Addr × Obj)) (s : Shared) (σ : St) (H : Hp) (x : V) (v : Value) (Q : Bool -> Hp -> Prop), Inv X pins σ H s -> RelV x v -> r x H Q ->
  wpAny (model X.prog X.w) X.A (truthy v) (TP X pins σ Q) X.xe s
def tOp (r : R2) (ta tb : TE) : TE := fun σ H Q => ta σ H fun x H1 => tb σ H1 fun y H2 => r x y H2 Q
def tUn (r : V -> Hp -> VK -> Prop) (ta : TE) : TE := fun σ H Q => ta σ H fun x H1 => r x H1 Q
def rI (C : Int -> Int -> Prop) (g : Int -> Int -> V) : R2 := fun x y H Q => ∃ i j, x = .int i /\ y = .int j /\ C i j /\ Q (g i j) H
def rI0 (g : Int -> Int -> V) : R2 := fun x y H Q => ∃ i j, x = .int i /\ y = .int j /\ Q (g i j) H
def rU (g : Int -> V) : V -> Hp -> VK -> Prop := fun x H Q => ∃ i, x = .int i /\ Q (g i) H
section
variable {X : Cx} {a b c : Expr} {ta tb tc : TE} {pos : Pos}
theorem binT (ha : PE X a ta) (hb : PE X b tb) {pins : List (Addr × Obj)} {s : Shared} {σ : St} {H : Hp} {R : V -> V -> Hp -> Prop} (I : Inv X pins σ H s)
  (h : ta σ H fun x H1 => tb σ H1 fun y H2 => R x y H2) {Q : Value -> Shared -> Prop} {f : Value -> Value -> Sem Value}
  (hf : ∀ v u s2 x y H2, Inv X pins σ H2 s2 -> RelV x v -> RelV y u -> R x y H2 -> wpAny (model X.prog X.w) X.A (f v u) Q X.xe s2) :
  wpAny (model X.prog X.w) X.A (eval a X.env) (fun v s₁ => wpAny (model X.prog X.w) X.A (eval b X.env) (fun u s₂ => wpAny (model X.prog X.w) X.A (f v u) Q X.xe s₂) X.xe s₁) X.xe s := by
 refine thn (ha pins s σ H _ I h) fun v s1 hpt9 => ?_
 obtain ⟨x, H1, I1, r1, q1⟩ := hpt9
 refine thn (hb pins s1 σ H1 _ I1 q1) fun u s2 hpt9 => ?_
 obtain ⟨y, H2, I2, r2, q2⟩ := hpt9
 exact hf v u s2 x y H2 I2 r1 r2 q2
theorem pe_op {op : Operator} {r : R2} (ho : OpR X (binaryOp op) r) (ha : PE X a ta) (hb : PE X b tb) : PE X (.BinOp a op b pos) (tOp r ta tb) := by
 intro pins s σ H Q I h
 exact wpAny_BinOp (binT ha hb I h fun v u s2 x y H2 I2 rx ry q => ho pins s2 σ H2 x y v u Q I2 rx ry q)
theorem pe_un {op : UnaryOp} {r : V -> Hp -> VK -> Prop} (ho : UnR X (unaryOp op) r) (ha : PE X a ta) : PE X (.UnaryOp op a pos) (tUn r ta) := by
 intro pins s σ H Q I h
 exact UnaryOp_ (thn (ha pins s σ H _ I h) fun v s1 ⟨x, H1, I1, r1, q1⟩ => ho pins s1 σ H1 x v Q I1 r1 q1)
theorem opI {f : Value -> Value -> Sem Value} {C : Int -> Int -> Prop} {g : Int -> Int -> Int}
  (rule : ∀ (i j : Int) (t u : Tok) (s : Shared) (Q : Value -> Shared -> Prop) (E : Value -> Shared -> Prop), C i j -> Q (.int (g i j) s.toks) { s with toks := s.toks + 1 } -> wpAny (model X.prog X.w) X.A (f (.int i t) (.int j u)) Q E s) :
  OpR X f (rI C fun i j => .int (g i j)) := by
 intro pins s σ H x y v u Q I rx ry h
 obtain ⟨i, j, rfl, rfl, hc, q⟩ := h
 obtain ⟨t, rfl⟩ := rx
 obtain ⟨t', rfl⟩ := ry
 exact rule i j t t' s _ _ hc ⟨.int (g i j), H, I.tok _, ⟨_, rfl⟩, q⟩
theorem opI0 {f : Value -> Value -> Sem Value} {g : Int -> Int -> Int}
  (rule : ∀ (i j : Int) (t u : Tok) (s : Shared) (Q : Value -> Shared -> Prop) (E : Value -> Shared -> Prop), Q (.int (g i j) s.toks) { s with toks := s.toks + 1 } -> wpAny (model X.prog X.w) X.A (f (.int i t) (.int j u)) Q E s) :
  OpR X f (rI0 fun i j => .int (g i j)) := by
 intro pins s σ H x y v u Q I rx ry h
 obtain ⟨i, j, rfl, rfl, q⟩ := h
 obtain ⟨t, rfl⟩ := rx
 obtain ⟨t', rfl⟩ := ry
 exact rule i j t t' s _ _ ⟨.int (g i j), H, I.tok _, ⟨_, rfl⟩, q⟩
theorem opB0 {f : Value -> Value -> Sem Value} {g : Int -> Int -> Bool}
  (rule : ∀ (i j : Int) (t u : Tok) (s : Shared) (Q : Value -> Shared -> Prop) (E : Value -> Shared -> Prop), Q (.bool (g i j)) s -> wpAny (model X.prog X.w) X.A (f (.int i t) (.int j u)) Q E s) :
  OpR X f (rI0 fun i j => .bl (g i j)) := by
 intro pins s σ H x y v u Q I rx ry h
 obtain ⟨i, j, rfl, rfl, q⟩ := h
 obtain ⟨t, rfl⟩ := rx
 obtain ⟨t', rfl⟩ := ry
 exact rule i j t t' s _ _ ⟨.bl (g i j), H, I, rfl, q⟩
def CDiv (i j : Int) : Prop := 0 < j /\ j < 1073741824
def CPow (i j : Int) : Prop := 0 <= j /\ j <= 1000000 /\ i.natAbs < 2 ^ 64
def CMul (i j : Int) : Prop := (-(2 ^ 64) < i /\ i < 2 ^ 64) \/ (-(2 ^ 64) < j /\ j < 2 ^ 64)
theorem CMul.ok {i j : Int} (h : CMul i j) : IntMulOk i j := by
 rcases h with ⟨h1, h2⟩ | ⟨h1, h2⟩
 ·exact .of_left (intBits_le_64 h1 h2)
 ·exact .of_right (intBits_le_64 h1 h2)
theorem op_add : OpR X (binaryOp .Add) (rI0 fun i j => .int (i + j)) := opI0 fun _ _ _ _ _ _ _ q => add_int q
theorem op_sub : OpR X (binaryOp .Sub) (rI0 fun i j => .int (i - j)) := opI0 fun _ _ _ _ _ _ _ q => sub_int q
theorem op_mul : OpR X (binaryOp .Mult) (rI CMul fun i j => .int (i * j)) := opI fun _ _ _ _ _ _ _ hc q => mul_int q hc.ok
theorem op_fdiv : OpR X (binaryOp .FloorDiv) (rI CDiv fun i j => .int (i / j)) := opI fun i j _ _ _ _ _ hc q => by
 have h1 : (0 : Int) < j := hc.1
 have h2 : j < 1073741824 := hc.2
 exact floordiv_int (by lia) (by rw [Int.fdiv_eq_ediv_of_nonneg i (by lia)]; exact q) (.inl (PyProof.noPylong_small (by lia)))
theorem op_mod : OpR X (binaryOp .Mod) (rI (fun _ j => 0 < j) fun i j => .int (i % j)) := opI fun i j _ _ _ _ _ hc q => by
 have h1 : (0 : Int) < j := hc
 exact mod_int' (by lia) (by rw [Int.fmod_eq_emod_of_nonneg i (by lia)]; exact q)
theorem op_pow : OpR X (binaryOp .Pow) (rI CPow fun i j => .int (i ^ j.toNat)) := opI fun _ _ _ _ _ _ _ hc q => pow_int_small hc.1 hc.2.1 hc.2.2 q
theorem unI {f : Value -> Sem Value} {g : Int -> Int}
  (rule : ∀ (i : Int) (t : Tok) (s : Shared) (Q : Value -> Shared -> Prop) (E : Value -> Shared -> Prop), Q (.int (g i) s.toks) { s with toks := s.toks + 1 } -> wpAny (model X.prog X.w) X.A (f (.int i t)) Q E s) :
  UnR X f (rU fun i => .int (g i)) := by
 intro pins s σ H x v Q I rx h
 obtain ⟨i, rfl, q⟩ := h
 obtain ⟨t, rfl⟩ := rx
 exact rule i t s _ _ ⟨.int (g i), H, I.tok _, ⟨_, rfl⟩, q⟩
theorem un_neg : UnR X (unaryOp .USub) (rU fun i => .int (-i)) := unI fun _ _ _ _ _ q => neg_int q
end
section
variable {X : Cx} {a b c : Expr} {ta tb tc : TE} {pos : Pos}
theorem fin_bl {pins : List (Addr × Obj)} {σ : St} {H : Hp} {s : Shared} {Q : VK} {k k' : Bool} (I : Inv X pins σ H s) (q : Q (.bl k) H) (e : k = k') : EP X pins σ Q (.bool k') s := by
 subst e
 exact ⟨.bl k, H, I, rfl, q⟩
theorem op_lt : OpR X (compareOp .Lt) (rI0 fun i j => .bl (decide (i < j))) := opB0 fun _ _ _ _ _ _ _ q => lt_int q
theorem op_le : OpR X (compareOp .LtE) (rI0 fun i j => .bl (decide (i <= j))) := opB0 fun _ _ _ _ _ _ _ q => le_int q
theorem op_gt : OpR X (compareOp .Gt) (rI0 fun i j => .bl (decide (j < i))) := opB0 fun _ _ _ _ _ _ _ q => gt_int q
theorem op_notN : OpR X (compareOp .IsNot) (fun x y H Q => y = .non /\ Q (.bl (!decide (x = .non))) H) := by
 intro pins s σ H x y v u Q I rx ry h
 obtain ⟨rfl, q⟩ := h
 cases ry
 refine isnot_none_gen (fin_bl I q ?_)
 cases x <;> first
  | (cases rx; rfl)
  | (obtain ⟨t, rfl⟩ := rx; rfl)
theorem OpR.or {f : Value -> Value -> Sem Value} {r r' : R2} (h : OpR X f r) (h' : OpR X f r') : OpR X f (fun x y H Q => r x y H Q \/ r' x y H Q) := by
 intro pins s σ H x y v u Q I rx ry q
 rcases q with q | q
 ·exact h pins s σ H x y v u Q I rx ry q
 ·exact h' pins s σ H x y v u Q I rx ry q
theorem nomark (b : Expr) {op : CmpOp} (h : op ≠ .In := by decide) (h2 : op ≠ .NotIn := by decide) : behindInMarks op b = false := by
 have e1 : (op == CmpOp.In) = false := by cases op <;> first | rfl | exact absurd rfl h
 have e2 : (op == CmpOp.NotIn) = false := by cases op <;> first | rfl | exact absurd rfl h2
 cases b <;> simp [behindInMarks, e1, e2]
theorem pe_cmpR {op : CmpOp} {r : R2} (ho : OpR X (compareOp op) r) (ha : PE X a ta) (hb : PE X b tb) (hm : behindInMarks op b = false) : PE X (.Compare a [op] [b] pos) (tOp r ta tb) := by
 intro pins s σ H Q I h
 exact wpAny_Compare1 (binT ha hb I h fun v u s2 x y H2 I2 rx ry q => ho pins s2 σ H2 x y v u Q I2 rx ry q) hm
def tTest (t : TE) : TT := fun σ H Q => t σ H fun x H' => ∃ k, x = .bl k /\ Q k H'
theorem pt_cmpR {op : CmpOp} {r : R2} (ho : OpR X (compareOp op) r) (ha : PE X a ta) (hb : PE X b tb) (hm : behindInMarks op b = false) : PT X (.Compare a [op] [b] pos) (tTest (tOp r ta tb)) := by
 intro pins s σ H Q I h
 refine wpAny_isTrue_Compare1 (thn (ha pins s σ H _ I h) fun v s1 ⟨x, H1, I1, r1, q1⟩ => thn (hb pins s1 σ H1 _ I1 q1) fun u s2 ⟨y, H2, I2, r2, q2⟩ =>
  thn (ho pins s2 σ H2 x y v u _ I2 r1 r2 q2) fun c s3 ⟨z, H3, I3, r3, k, e, q3⟩ => ?_) hm
 subst e
 cases r3
 exact wpAny_truthy_bool ⟨H3, I3, q3⟩
def TruV (K : W.Frag) (x : V) (H : Hp) (k : Bool) : Prop :=
 match x with
 | .non => k = false
 | .bl b => k = b
 | .int i => k = (i != 0)
 | .str y => y.length <= sizeLine /\ k = ((y.length : Int) != 0)
 | .byt y => y.size <= sizeLine /\ k = ((y.size : Int) != 0)
 | .ref p => (∃ xs, SqL K H p xs /\ k = !xs.isEmpty) \/ (∃ xs, SqT K H p xs /\ k = !xs.isEmpty) \/ ∃ kvs, H p = some (.dK kvs) /\ k = !kvs.isEmpty
 | _ => False
theorem isEmpty_kv {κ : Type} {kvs : List (κ × V)} {vs : List (κ × Value)} (r : KV kvs vs) : (!vs.isEmpty) = !kvs.isEmpty := by
 cases r <;> rfl
theorem isEmpty_of {xs : List V} {its : List Value} (r : Vals xs its) : (!its.toArray.isEmpty) = !xs.isEmpty := by
 cases r <;> simp
theorem line63 : (sizeLine : Nat) < 2 ^ 63 := by rw [sizeLine_eq]; decide
theorem tru_ok : TruR X (fun x H Q => ∃ k, TruV X.K x H k /\ Q k H) := by
 intro pins s σ H x v Q I rx h
 obtain ⟨k, e, q⟩ := h
 have hl := line63
 have hs : sizeLine = 16777216 := sizeLine_eq
 cases x with
 | non =>
  cases rx
  have e' : k = false := e
  subst e'
  exact truthy_none ⟨H, I, q⟩
 | bl b =>
  cases rx
  have e' : k = b := e
  subst e'
  exact wpAny_truthy_bool ⟨H, I, q⟩
 | int i =>
  obtain ⟨t, rfl⟩ := rx
  have e' : k = (i != 0) := e
  subst e'
  exact PySem.P.truthy_int ⟨H, I, q⟩
 | str y =>
  obtain ⟨t, rfl⟩ := rx
  obtain ⟨hy, e'⟩ : y.length <= sizeLine /\ k = ((y.length : Int) != 0) := e
  subst e'
  exact PySem.P.truthy_str (by lia) ⟨H, I.tok _, q⟩
 | byt y =>
  obtain ⟨t, rfl⟩ := rx
  obtain ⟨hy, e'⟩ : y.size <= sizeLine /\ k = ((y.size : Int) != 0) := e
  subst e'
  exact W.truthy_bytes (by lia) ⟨H, I.tok _, q⟩
 | ref p =>
  cases rx
  have e' : (∃ xs, SqL X.K H p xs /\ k = !xs.isEmpty) \/ (∃ xs, SqT X.K H p xs /\ k = !xs.isEmpty) \/ ∃ kvs, H p = some (.dK kvs) /\ k = !kvs.isEmpty := e
  rcases e' with ⟨xs, hx, e'⟩ | ⟨xs, hx, e'⟩ | ⟨kvs, hx, e'⟩
  ·subst e'
   obtain ⟨its, r, pl, hz⟩ := I.list hx
   have hlen := r.length
   exact wpAny_truthy_list pl.isList (by simp only [List.size_toArray]; lia) ⟨H, I.tok _, by rw [isEmpty_of r]; exact q⟩
  ·subst e'
   obtain ⟨its, r, pl, hz⟩ := I.tuple hx
   have hlen := r.length
   exact truthy_tuple pl (by simp only [List.size_toArray]; lia) ⟨H, I.tok _, by rw [isEmpty_of r]; exact q⟩
  ·subst e'
   obtain ⟨hz, hS, vs, r, m⟩ : kvs.length <= sizeLine /\ (p == sysModules) = false /\ ∃ vs, KV kvs vs /\ s.heap.DictOf (mixKind X.prog X.w) p vs := I.hok p _ hx
   have hlen : kvs.length = vs.length := Paired.length r
   exact wpAny_truthy_dict hS m (by lia) ⟨H, I.tok _, by rw [isEmpty_kv r]; exact q⟩
 | _ => exact (show False from e).elim
theorem pt_truth (ha : PE X a ta) (he : ∀ whole, isTrue a X.env whole = (do let v ← whole; standAt a.pos; holding [v] (truthy v))) :
  PT X a (fun σ H Q => ta σ H fun x H' => ∃ k, TruV X.K x H' k /\ Q k H') := by
 intro pins s σ H Q I h
 exact isTrue_plain (thn (ha pins s σ H _ I h) fun v s1 ⟨x, H1, I1, r1, q1⟩ => tru_ok pins s1 σ H1 x v Q I1 r1 q1) (he _)
theorem op_add_str : OpR X (binaryOp .Add) (fun x y H Q => ∃ i j, x = .str i /\ y = .str j /\ i.length + j.length <= sizeLine /\ Q (.str (i ++ j)) H) := by
 intro pins s σ H x y v u Q I rx ry h
 obtain ⟨i, j, rfl, rfl, hz, q⟩ := h
 obtain ⟨t, rfl⟩ := rx
 obtain ⟨t', rfl⟩ := ry
 exact add_str (fun t' tk => ⟨.str (i ++ j), H, I.tok _, ⟨_, rfl⟩, q⟩) hz
theorem vals1 {x : V} {us : List Value} (r : Vals [x] us) : ∃ u, us = [u] /\ RelV x u := by
 cases r with
 | cons r1 r2 => cases r2; exact ⟨_, rfl, r1⟩
theorem vals2 {x y : V} {us : List Value} (r : Vals [x, y] us) : ∃ u w', us = [u, w'] /\ RelV x u /\ RelV y w' := by
 cases r with
 | cons r1 r2 =>
  cases r2 with
  | cons r3 r4 => cases r4; exact ⟨_, _, rfl, r1, r3⟩
theorem call_max2 (hc : X.calm = true) : CallR X (.builtin "max") (fun xs H Q => ∃ i j, xs = [.int i, .int j] /\ Q (.int (if j > i then j else i)) H) := by
 intro pins s σ H xs us Q I r h
 obtain ⟨i, j, rfl, q⟩ := h
 obtain ⟨u, w', rfl, ⟨t, rfl⟩, ⟨t', rfl⟩⟩ := vals2 r
 refine max_two_ints (I.ok.hd hc) fun h' tk k => ⟨_, H, I.kept k, ?_, q⟩
 by_cases hj : j > i
 ·rw [if_pos hj, if_pos hj]; exact ⟨_, rfl⟩
 ·rw [if_neg hj, if_neg hj]; exact ⟨_, rfl⟩
theorem call_min2 (hc : X.calm = true) : CallR X (.builtin "min") (fun xs H Q => ∃ i j, xs = [.int i, .int j] /\ Q (.int (if j < i then j else i)) H) := by
 intro pins s σ H xs us Q I r h
 obtain ⟨i, j, rfl, q⟩ := h
 obtain ⟨u, w', rfl, ⟨t, rfl⟩, ⟨t', rfl⟩⟩ := vals2 r
 refine min_two_ints (I.ok.hd hc) fun h' tk k => ⟨_, H, I.kept k, ?_, q⟩
 by_cases hj : j < i
 ·rw [if_pos hj, if_pos hj]; exact ⟨_, rfl⟩
 ·rw [if_neg hj, if_neg hj]; exact ⟨_, rfl⟩
def LenV (K : W.Frag) (x : V) (H : Hp) (n : Nat) : Prop :=
 match x with
 | .str y => y.length <= sizeLine /\ n = y.length
 | .byt y => y.size <= sizeLine /\ n = y.size
 | .ref p => (∃ xs, SqL K H p xs /\ n = xs.length) \/ ∃ xs, SqT K H p xs /\ n = xs.length
 | _ => False
theorem call_len : CallR X (.builtin "len") (fun xs H Q => ∃ x n, xs = [x] /\ LenV X.K x H n /\ Q (.int n) H) := by
 intro pins s σ H xs us Q I r h
 obtain ⟨x, n, rfl, e, q⟩ := h
 obtain ⟨u, rfl, rx⟩ := vals1 r
 have hl := line63
 have hs : sizeLine = 16777216 := sizeLine_eq
 cases x with
 | str y =>
  obtain ⟨t, rfl⟩ := rx
  obtain ⟨hy, e'⟩ : y.length <= sizeLine /\ n = y.length := e
  subst e'
  exact len_str (by lia) ⟨.int _, H, I.tok _, ⟨_, rfl⟩, q⟩
 | byt y =>
  obtain ⟨t, rfl⟩ := rx
  obtain ⟨hy, e'⟩ : y.size <= sizeLine /\ n = y.size := e
  subst e'
  exact W.len_bytes (by lia) ⟨.int _, H, I.tok _, ⟨_, rfl⟩, q⟩
 | ref p =>
  cases rx
  have e' : (∃ xs, SqL X.K H p xs /\ n = xs.length) \/ ∃ xs, SqT X.K H p xs /\ n = xs.length := e
  rcases e' with ⟨xs, hx, e'⟩ | ⟨xs, hx, e'⟩
  ·subst e'
   obtain ⟨its, r', pl, hz⟩ := I.list hx
   have hlen := r'.length
   exact Calls.call_len_list pl.isList (by simp only [List.size_toArray]; lia) ⟨.int xs.length, H, I.tok _, ⟨_, by simp only [List.size_toArray]; rw [hlen]⟩, q⟩
  ·subst e'
   obtain ⟨its, r', pl, hz⟩ := I.tuple hx
   have hlen := r'.length
   exact len_tuple pl (by simp only [List.size_toArray]; lia) ⟨.int xs.length, H, I.tok _, ⟨_, by simp only [List.size_toArray]; rw [hlen]⟩, q⟩
 | _ => exact (show False from e).elim
end
structure ObjM (h : Heap) (x dx C : Addr) (mA : Str -> Option Value) : Prop where
 obj : h.get? x = some (W.instObj C dx)
 ns : h.Ns1 dx mA
 ne : dx ≠ x
theorem lookIn_ns {h : Heap} {dx : Addr} {mA : Str -> Option Value} (n : h.Ns1 dx mA) : ∃ od, h.get? dx = some od /\ ∀ name, W.lookIn name od = some (mA name) := by
 obtain ⟨o, es, ep, ho, hd, hk, _, hm⟩ := n
 refine ⟨o, ho, fun name => ?_⟩
 have e := hm name
 unfold nsFind findBy at e
 rw [<- Array.find?_toList] at e
 unfold W.lookIn
 rw [hd]
 dsimp only
 split
 ·rename_i y q
  rw [q] at e
  exact congrArg some e
 ·rename_i q
  rw [q] at e
  have a : es.toList.any (·.refKey) = false := by
   rw [List.any_eq_false]
   intro y hy
   obtain ⟨z, t, hkey⟩ := hk y (Array.mem_toList_iff.mp hy)
   simp [DictEntry.refKey, hkey]
  have a' : ¬ es.toList.any (·.refKey) = true := by rw [a]; exact Bool.false_ne_true
  rw [if_neg a']
  exact congrArg some e
theorem ObjM.look {h : Heap} {x dx C : Addr} {mA : Str -> Option Value} (I : ObjM h x dx C mA) : ∃ od, W.InstAt h x (W.instObj C dx) C (some od) /\ ∀ name, W.lookIn name od = some (mA name) :=
 let ⟨od, ho, hl⟩ := lookIn_ns I.ns
 ⟨od, ⟨I.obj, rfl, rfl, ho⟩, hl⟩
section
variable {prog : Program} {w : World} {A : Around} {E : Value -> Shared -> Prop} {s : Shared} {K : W.Frag} {x dx C f : Addr} {mA : Str -> Option Value} {name : Str} {v : Value}
theorem get_map {expr : Bool} {Q : Value -> Shared -> Prop} (X : K.In s.heap) (I : ObjM s.heap x dx C mA) (hg : W.plainGet K C name = true) (hh : W.hasDictIn K C = true)
  (ha : W.findIn K (.ref C) name = some none) (hv : mA name = some v) (hv' : W.handedIn v = true) (h : Q v { s with toks := s.toks + 1 }) :
  wpAny (model prog w) A (getAttr (.ref x) name expr) Q E s := by
 obtain ⟨od, J, hl⟩ := I.look
 exact W.get_value X J (W.plainGet_of hg).1 (W.findObj_own hh ha rfl (by rw [hl, hv])) hv' h
theorem get_meth {pl : Sem Bool} {Q : Value × List Value -> Shared -> Prop} (X : K.In s.heap) (I : ObjM s.heap x dx C mA) (hg : W.plainGet K C name = true)
  (hf : W.findIn K (.ref C) name = some (some (.ref f))) (ht : W.isFn K (.ref f) = true) (hv : mA name = none) (h : Q (.ref f, [.ref x]) s) :
  wpAny (model prog w) A (getMethod (.ref x) name pl) Q E s := by
 obtain ⟨od, J, hl⟩ := I.look
 exact W.method_fn X J (W.plainGet_of hg).1 (W.plainGet_of hg).2 hf (beq_iff_eq.mp ht) (by show (W.lookIn name od).map (·.isSome) = some false; rw [hl, hv]; rfl) h
theorem set_map {ns : List Str} {Q : Unit -> Shared -> Prop} (X : K.In s.heap) (I : ObjM s.heap x dx C mA)
  (hs : W.findIn K (.ref C) "__setattr__" = some (some (.builtin "object.__setattr__"))) (hp : W.plainOver K C = true) (ht : W.takerIn K C name = some none) (hh : W.hasDictIn K C = true)
  (hw : PySem.Within mA ns) (hsz : ns.length <= sizeLine)
  (h : ∀ h', ObjM h' x dx C (fun y => if y = name then some v else mA y) -> Heap.SameBut dx s.heap h' -> Q () { s with heap := h', toks := s.toks + 2 }) :
  wpAny (model prog w) A (setAttr (.ref x) name v) Q E s := by
 obtain ⟨od, J, hl⟩ := I.look
 refine W.set_plain X J hs (W.osa_open (s := { s with toks := s.toks + 1 }) (r := none) X J hp ht fun b => ?_)
 obtain ⟨cd, hc, hd'⟩ := W.any_some hh
 have hx : s.heap.get? x = some ⟨.ref C, some dx, .plain, #[]⟩ := I.obj
 refine wpAny_bind (wpAny_pure (wpAny_bind (wpAny_bind (wpAny_loadPart hx (wpAny_bind (W.Looks.here (s := { s with toks := s.toks + 1 }) (W.looks_clsIn X hc) ?_))))))
 rw [hd']
 refine wpAny_pure (a := some dx) (wpAny_bind (wpAny_pure (wpAny_bind ?_)))
 refine wpAny_nsSet1 (s := { s with toks := s.toks + 1 }) I.ns fun h' hn2 hs2 => ?_
 obtain ⟨oD, esD, epD, hoD, hdD, hcD⟩ := hn2.count (PySem.Within.cons name v hw)
 refine wpAny_bind (wpAny_lookBehind hoD (by rw [hdD]; exact pastItsLine_dict (Nat.le_trans hcD (by rw [List.length_cons]; lia))) ?_)
 exact wpAny_pure (h _ ⟨(hs2.2 _ (Ne.symm I.ne)).trans I.obj, hn2, I.ne⟩ hs2)
theorem make_map {R : Result -> Shared -> Prop} {vs : List Value} {kw : List (Str × Value)} (X : K.In s.heap) (hm : W.makesIn K C = true)
  (hi : W.findIn K (.ref C) "__init__" = some (some (.ref f))) (hf : W.typeIn K (.ref f) = some (.type "function"))
  (h : codeAny (model prog w) (A.under (.builtin "type.__call__" ⟨.ref C :: vs, kw⟩)) (.call (.ref f) ⟨.ref (s.heap.objs.size + 1) :: vs, kw⟩) (W.InitBack (s.heap.objs.size + 1) R)
   { s with heap := (s.heap.push W.emptyDict).push (W.instObj C s.heap.objs.size) }) :
  codeAny (model prog w) A (.call (.ref C) ⟨vs, kw⟩) R s := by
 obtain ⟨hh, g, d, t, os⟩ := s
 exact W.make_core (W.makes_of X hm) (W.looks_findIn X hi) (fun self => W.bind_fn X self hf) (.inl rfl) h
end
def putF (f : Str) (v : V) : List (Str × V) -> List (Str × V)
 | [] => [(f, v)]
 | (g, x) :: r => if g = f then (g, v) :: r else (g, x) :: putF f v r
theorem lookup_putF (f g : Str) (v : V) : ∀ fs : List (Str × V), (putF f v fs).lookup g = if g = f then some v else fs.lookup g
 | [] => by
  show List.lookup g [(f, v)] = _
  by_cases h : g = f
  ·have hb : (g == f) = true := beq_iff_eq.mpr h
   simp only [List.lookup, hb, if_pos h]
  ·have hb : (g == f) = false := beq_eq_false_iff_ne.mpr h
   simp only [List.lookup, hb, if_neg h]
 | (k, x) :: r => by
  have ih := lookup_putF f g v r
  rw [show putF f v ((k, x) :: r) = (if k = f then (k, v) :: r else (k, x) :: putF f v r) from rfl]
  by_cases hk : k = f
  ·rw [if_pos hk]
   by_cases h : g = k
   ·have hb : (g == k) = true := beq_iff_eq.mpr h
    simp only [List.lookup, hb, if_pos (h.trans hk)]
   ·have hb : (g == k) = false := beq_eq_false_iff_ne.mpr h
    simp only [List.lookup, hb, if_neg (fun e : g = f => h (e.trans hk.symm))]
  ·rw [if_neg hk]
   by_cases h : g = k
   ·have hb : (g == k) = true := beq_iff_eq.mpr h
    simp only [List.lookup, hb, if_neg (fun e : g = f => hk (h.symm.trans e))]
   ·have hb : (g == k) = false := beq_eq_false_iff_ne.mpr h
    simp only [List.lookup, hb]
    exact ih
theorem keys_putF (f : Str) (v : V) : ∀ fs : List (Str × V), f ∈ (putF f v fs).map (·.1) /\ ∀ g, g ∈ fs.map (·.1) -> g ∈ (putF f v fs).map (·.1)
 | [] => ⟨by simp [putF], fun g h => by simp at h⟩
 | (k, x) :: r => by
  obtain ⟨i1, i2⟩ := keys_putF f v r
  rw [show putF f v ((k, x) :: r) = (if k = f then (k, v) :: r else (k, x) :: putF f v r) from rfl]
  by_cases hk : k = f
  ·rw [if_pos hk]
   subst hk
   exact ⟨by simp, fun g h => by simpa using h⟩
  ·rw [if_neg hk]
   refine ⟨?_, fun g h => ?_⟩
   ·rw [List.map_cons]
    exact List.mem_cons_of_mem _ i1
   ·rw [List.map_cons] at h ⊢
    rcases List.mem_cons.mp h with e | e
    ·exact List.mem_cons.mpr (.inl e)
    ·exact List.mem_cons_of_mem _ (i2 g e)
theorem length_putF (f : Str) (v : V) : ∀ fs : List (Str × V), (putF f v fs).length <= fs.length + 1
 | [] => by simp [putF]
 | (k, x) :: r => by
  have ih := length_putF f v r
  rw [show putF f v ((k, x) :: r) = (if k = f then (k, v) :: r else (k, x) :: putF f v r) from rfl]
  by_cases hk : k = f
  ·rw [if_pos hk, List.length_cons, List.length_cons]; lia
  ·rw [if_neg hk, List.length_cons, List.length_cons]; lia
theorem RelO.some_of {v : V} {o : Option Value} (r : RelO (some v) o) : ∃ u, o = some u /\ RelV v u := by
 cases o with
 | none => exact (show False from r).elim
 | some u => exact ⟨u, rfl, r⟩
theorem RelO.none_of {o : Option Value} (r : RelO none o) : o = none := by
 cases o with
 | none => rfl
 | some u => exact (show False from r).elim
theorem handed_of {v : V} {u : Value} (r : RelV v u) : W.handedIn u = true := by
 cases v with
 | non => cases (show u = Value.none from r); rfl
 | bl b => cases (show u = Value.bool b from r); rfl
 | int i => obtain ⟨t, e⟩ := (show ∃ t, u = Value.int i t from r); cases e; rfl
 | str x => obtain ⟨t, e⟩ := (show ∃ t, u = Value.str x t from r); cases e; rfl
 | byt b => obtain ⟨t, e⟩ := (show ∃ t, u = Value.bytes b t from r); cases e; rfl
 | flt b => obtain ⟨t, e⟩ := (show ∃ t, u = Value.float b t from r); cases e; rfl
 | ref a => cases (show u = Value.ref a from r); rfl
 | ty n => cases (show u = Value.type n from r); rfl
section
variable {P : Program} {w : World} {H H' : Hp} {h h' : Heap} {a C dx : Addr} {fs fs' : List (Str × V)}
theorem ins_get (hok : HOk P w H h) (e : H a = some (.ins C dx fs)) : ∃ mA, ObjM h a dx C mA /\ (∀ f, RelO (fs.lookup f) (mA f)) /\ PySem.Within mA (fs.map (·.1)) /\ fs.length <= 1000 /\ H dx = some (.own a) := by
 obtain ⟨d, z, ne, ob, mA, n, r, q⟩ := (show ObjOk P w H h a (.ins C dx fs) from hok a _ e)
 exact ⟨mA, ⟨ob, n, ne⟩, r, q, z, d⟩
end
structure Cls (K : W.Frag) (C : Addr) : Prop where
 pg : W.plainGet K C Str.empty = true
 hd : W.hasDictIn K C = true
 po : W.plainOver K C = true
 sa : W.findIn K (.ref C) "__setattr__" = some (some (.builtin "object.__setattr__"))
theorem Cls.get {K : W.Frag} {C : Addr} (c : Cls K C) (f : Str) : W.plainGet K C f = true := c.pg
def NoAttr (K : W.Frag) (C : Addr) (f : Str) : Prop := W.findIn K (.ref C) f = some none
theorem NoAttr.taker {K : W.Frag} {C : Addr} {f : Str} (n : NoAttr K C f) : W.takerIn K C f = some none := by
 unfold W.takerIn
 rw [show W.findIn K (.ref C) f = some none from n]
 rfl
structure Meth (K : W.Frag) (C : Addr) (m : Str) (f : Addr) : Prop where
 at_ : W.findIn K (.ref C) m = some (some (.ref f))
 fn : W.isFn K (.ref f) = true
 kp : W.keepIn K (.ref f) = true
section
variable {X : Cx} {pins : List (Addr × Obj)} {σ : St} {H : Hp} {s : Shared} {a C dx : Addr} {fs : List (Str × V)} {f : Str} {v : V} {A : Around} {E : Value -> Shared -> Prop}
theorem getattr_ok {b : Bool} {Q : Value -> Shared -> Prop} (I : Inv X pins σ H s) (e : H a = some (.ins C dx fs)) (c : Cls X.K C) (n : NoAttr X.K C f) (l : fs.lookup f = some v)
  (h : ∀ u s', Inv X pins σ H s' -> RelV v u -> Q u s') : wpAny (model X.prog X.w) A (getAttr (.ref a) f b) Q E s := by
 obtain ⟨mA, O, r, _, _, _⟩ := ins_get I.hok e
 obtain ⟨u, hu, ru⟩ := RelO.some_of (v := v) (o := mA f) (by rw [<- l]; exact r f)
 exact get_map I.kIn O (c.get f) c.hd n hu (handed_of ru) (h u _ (I.tok _) ru)
theorem getmeth_ok {m : Str} {g : Addr} {pl : Sem Bool} {Q : Value × List Value -> Shared -> Prop} (I : Inv X pins σ H s) (e : H a = some (.ins C dx fs)) (c : Cls X.K C) (k : Meth X.K C m g) (l : fs.lookup m = none)
  (h : Q (.ref g, [.ref a]) s) : wpAny (model X.prog X.w) A (getMethod (.ref a) m pl) Q E s := by
 obtain ⟨mA, O, r, _, _, _⟩ := ins_get I.hok e
 have hn : mA m = none := RelO.none_of (by rw [<- l]; exact r m)
 exact get_meth I.kIn O (c.get m) k.at_ k.fn hn h
theorem setattr_ok {y : V} {u : Value} {Q : Unit -> Shared -> Prop} (I : Inv X pins σ H s) (e : H a = some (.ins C dx fs)) (c : Cls X.K C) (n : NoAttr X.K C f) (hl : fs.length < 1000) (ry : RelV y u)
  (h : ∀ s', Inv X pins σ (upd H a (.ins C dx (putF f y fs))) s' -> Q () s') : wpAny (model X.prog X.w) A (setAttr (.ref a) f u) Q E s := by
 obtain ⟨mA, O, r, wi, _, ho⟩ := ins_get I.hok e
 have hz : (fs.map (·.1)).length <= sizeLine := by rw [List.length_map, sizeLine_eq]; lia
 refine set_map I.kIn O c.sa c.po n.taker c.hd wi hz fun h' O' sb => h _ ?_
 have hd : ∃ o, h'.get? dx = some o := let ⟨o, _, _, e', _⟩ := O'.ns; ⟨o, e'⟩
 refine I.write (x := a) (e := dx) (by rw [e]; exact True.intro) (.inr ho) (fun b q hb z => (sb.2 b hb).trans z) hd ?_
 refine ⟨by rw [upd_ne O.ne]; exact ho, ?_, O.ne, O'.obj, _, O'.ns, fun g => ?_, fun g hg => ?_⟩
 ·have := length_putF f y fs; lia
 ·show RelO ((putF f y fs).lookup g) (if g = f then some u else mA g)
  rw [lookup_putF]
  by_cases q : g = f
  ·rw [if_pos q, if_pos q]; exact ry
  ·rw [if_neg q, if_neg q]; exact r g
 ·by_cases q : g = f
  ·rw [q]; exact (keys_putF f y fs).1
  ·refine (keys_putF f y fs).2 g (wi g fun z => hg ?_)
   show (if g = f then some u else mA g) = none
   rw [if_neg q]; exact z
theorem Inv.made (I : Inv X pins σ H s) : Inv X pins σ (upd (upd H s.heap.objs.size (.own (s.heap.objs.size + 1))) (s.heap.objs.size + 1) (.ins C s.heap.objs.size []))
  { s with heap := (s.heap.push W.emptyDict).push (W.instObj C s.heap.objs.size) } := by
 have e1 : (s.heap.push W.emptyDict).get? s.heap.objs.size = some W.emptyDict := Heap.get?_push_size s.heap rfl
 have e2 : ((s.heap.push W.emptyDict).push (W.instObj C s.heap.objs.size)).get? (s.heap.objs.size + 1) = some (W.instObj C s.heap.objs.size) := by
  have := Heap.get?_push_size (s.heap.push W.emptyDict) (o := W.instObj C s.heap.objs.size) rfl
  rwa [Heap.size_push] at this
 have e3 : (s.heap.push W.emptyDict).Ns s.heap.objs.size (fun _ => none) := ⟨W.emptyDict, #[], _, e1, rfl, (fun e he => absurd he (by simp)), fun _ => rfl⟩
 have I1 := I.laid (a := s.heap.objs.size) (o := .own (s.heap.objs.size + 1)) (h' := s.heap.push W.emptyDict) (t' := s.toks) (fun b u q => Heap.get?_push_of_some _ q) (Nat.le_refl _) ⟨_, e1⟩
 refine I1.laid (a := s.heap.objs.size + 1) (o := .ins C s.heap.objs.size []) (t' := s.toks) (fun b u q => Heap.get?_push_of_some _ q) (Nat.le_of_eq (Heap.size_push _ _)) ?_
 have ne : s.heap.objs.size ≠ s.heap.objs.size + 1 := Nat.ne_of_lt (Nat.lt_succ_self _)
 refine ⟨by rw [upd_ne ne, upd_same], Nat.zero_le _, ne, e2, fun _ => none, (Heap.Ns1.of_empty e3).at fun o q => Heap.get?_push_of_some _ q, fun _ => True.intro, fun y hy => absurd rfl hy⟩
theorem attr_of {prog : Program} {w : World} {env : Env} {e : Expr} {f : Str} {pos : Pos} {s : Shared} {Q : Value -> Shared -> Prop} (hb : attributeBase e f env (eval e env) = eval e env)
  (h : wpAny (model prog w) A (eval e env) (fun o s₁ => wpAny (model prog w) A (getAttr o f true) Q E s₁) E s) : wpAny (model prog w) A (eval (.Attribute e f pos) env) Q E s :=
 Attribute_any_ h (by rw [arm_eval_Attribute, hb])
end
def sFld (K : W.Frag) (ta tv : TE) (f : Str) : TS := fun D σ H => tv σ H fun y H1 => ta σ H1 fun x H2 => ∃ a C dx fs, x = .ref a /\ H2 a = some (.ins C dx fs) /\ Cls K C /\ NoAttr K C f /\ fs.length < 1000 /\
 D.nx σ (upd H2 a (.ins C dx (putF f y fs)))
section
variable {X : Cx} {o e value : Expr} {f : Str} {pos pos' tpos : Pos} {ta tv : TE}
theorem ps_fld (ha : PE X o ta) (hv : PE X value tv) (hs : swapsWith value (some (.Attribute o f pos')) pos.line X.env = pure false) : PS X (.Assign [.Attribute o f pos'] value pos) (sFld X.K ta tv f) := by
 intro pins s σ H D I h
 refine plainObj_wpAny_Assign_Attribute (thn (hv pins s σ H _ I h) fun u s1 ⟨y, H1, I1, ry, q⟩ => thn (ha pins s1 σ H1 _ I1 q) fun ov s2 hpt9 => ?_) hs
 obtain ⟨x, H2, I2, rx, a, C, dx, fs, ex, ea, c, n, l, q2⟩ := hpt9
 subst ex
 obtain rfl : ov = Value.ref a := rx
 exact setattr_ok I2 ea c n l ry fun s3 I3 => ⟨σ, _, I3, q2⟩
end
section
variable {X : Cx} {pins : List (Addr × Obj)} {σ : St} {H : Hp} {s : Shared} {A : Around} {E : Value -> Shared -> Prop} {Q : Value -> Shared -> Prop} {c : Value} {b : Bool}
inductive TyOf (K : W.Frag) (H : Hp) : V -> Value -> Prop where
 | non : TyOf K H .non (.type "NoneType")
 | bl (x : Bool) : TyOf K H (.bl x) (.type "bool")
 | int (i : Int) : TyOf K H (.int i) (.type "int")
 | str (x : Str) : TyOf K H (.str x) (.type "str")
 | flt (x : UInt64) : TyOf K H (.flt x) (.type "float")
 | lst {a : Addr} {xs : List V} (e : H a = some (.lst xs)) : TyOf K H (.ref a) (.type "list")
 | frz {a : Addr} {o : Obj} {xs : List V} (e : H a = some (.frz o (.lst xs))) : TyOf K H (.ref a) (.type "list")
 | tup {a : Addr} {xs : List V} (e : H a = some (.tup xs)) : TyOf K H (.ref a) (.type "tuple")
 | dK {a : Addr} {kvs : List (Key × V)} (e : H a = some (.dK kvs)) : TyOf K H (.ref a) (.type "dict")
 | dT {a : Addr} {kvs : List (List Key × V)} (e : H a = some (.dT kvs)) : TyOf K H (.ref a) (.type "dict")
 | ins {a C dx : Addr} {fs : List (Str × V)} (e : H a = some (.ins C dx fs)) (cl : Cls K C) (ha : W.findIn K (.ref C) "__class__" = some (some (.builtin "object.__class__")))
   (hn : W.specialIn K (.builtin "object.__class__") "__get__" = some (some (.builtin "getset_descriptor.__get__"))) (htk : W.takesIn K (.builtin "object.__class__") = some true)
   (hm : W.mroIn K C (.type "object") = some true) : TyOf K H (.ref a) (.ref C)
theorem isinst_ok {x : V} {u t : Value} (I : Inv X pins σ H s) (rx : RelV x u) (ty : TyOf X.K H x t) (e : W.kitOne X.K t c = some b) (h : ∀ tk, Q (.bool b) { s with toks := tk }) :
  wpAny (model X.prog X.w) A (call (.builtin "isinstance") [u, c]) Q E s := by
 cases ty with
 | non => cases (show u = Value.none from rx); exact W.kia_one W.kitx_none I.kIn True.intro e (fun z => nomatch z) h
 | bl y => cases (show u = Value.bool y from rx); exact W.kia_one W.kitx_bool I.kIn True.intro e (fun z => nomatch z) h
 | int i => obtain ⟨t, q⟩ := (show ∃ t, u = Value.int i t from rx); cases q; exact W.kia_one W.kitx_int I.kIn True.intro e (fun z => nomatch z) h
 | str y => obtain ⟨t, q⟩ := (show ∃ t, u = Value.str y t from rx); cases q; exact W.kia_one W.kitx_str I.kIn True.intro e (fun z => nomatch z) h
 | flt y => obtain ⟨t, q⟩ := (show ∃ t, u = Value.float y t from rx); cases q; exact W.kia_one W.kitx_float I.kIn True.intro e (fun z => nomatch z) h
 | @lst a xs ea =>
  cases (show u = Value.ref a from rx)
  obtain ⟨_, _, n, _, h1⟩ := (show ObjOk X.prog X.w H s.heap a (.lst xs) from I.hok a _ ea)
  exact W.kia_one W.kitx_list I.kIn ⟨_, h1, rfl⟩ e (fun z => nomatch z) h
 | @frz a ob xs ea =>
  cases (show u = Value.ref a from rx)
  obtain ⟨_, _, _, n, _, h1⟩ := (show ObjOk X.prog X.w H s.heap a (.frz ob (.lst xs)) from I.hok a _ ea)
  exact W.kia_one W.kitx_list I.kIn ⟨_, h1, rfl⟩ e (fun z => nomatch z) h
 | @tup a xs ea =>
  cases (show u = Value.ref a from rx)
  obtain ⟨_, _, _, p⟩ := (show ObjOk X.prog X.w H s.heap a (.tup xs) from I.hok a _ ea)
  obtain ⟨o, h1, h2, _⟩ := p
  exact W.kia_one W.kitx_tuple I.kIn ⟨o, h1, h2⟩ e (fun z => nomatch z) h
 | @dK a kvs ea =>
  cases (show u = Value.ref a from rx)
  obtain ⟨_, _, vs, _, p⟩ := (show ObjOk X.prog X.w H s.heap a (.dK kvs) from I.hok a _ ea)
  obtain ⟨o, es, ep, h1, h2, _⟩ := p
  exact W.kia_one W.kitx_dict I.kIn ⟨o, h1, h2.1⟩ e (fun z => nomatch z) h
 | @dT a kvs ea =>
  cases (show u = Value.ref a from rx)
  obtain ⟨_, _, xs, _, o, es, ep, h1, h2, _⟩ := (show ObjOk X.prog X.w H s.heap a (.dT kvs) from I.hok a _ ea)
  exact W.kia_one W.kitx_dict I.kIn ⟨o, h1, h2.1⟩ e (fun z => nomatch z) h
 | @ins a C dx fs ea cl ha hn htk hm =>
  cases (show u = Value.ref a from rx)
  obtain ⟨mA, O, _⟩ := ins_get I.hok ea
  obtain ⟨od, J, _⟩ := O.look
  exact W.kia_one (W.kitx_own (cl.get _) cl.hd ha hn htk hm) I.kIn J e (fun z => nomatch z) h
end
structure Room (k : Nat) (A : Around) : Prop where
 hd : A.handled = none
 dp : A.depth + 3 * k + 5 < recursionLimit
 un : A.units + 16 * k + 200 < cLine
theorem Room.mono {j k : Nat} {A : Around} (r : Room k A) (h : j <= k) : Room j A := ⟨r.hd, by have := r.dp; lia, by have := r.un; lia⟩
theorem Room.deeper {k : Nat} {A : Around} (r : Room (k + 1) A) (env : Env) : Room k (A.deeper env) :=
 ⟨r.hd, by have := r.dp; show A.depth + 1 + 3 * k + 5 < _; lia, by have := r.un; show A.units + 3 + 16 * k + 200 < _; lia⟩
theorem make_depth {A : Around} {C : Addr} {us : List Value} {kw : List (Str × Value)} : (A.under (.builtin "type.__call__" ⟨.ref C :: us, kw⟩)).depth = A.depth + 1 := by
 first | rfl | simp [Around.under, Code.weight, Code.isCreation, Code.isGuard, Code.isCaller, Code.frames, Code.isFrame, guardIds]
theorem make_units {A : Around} {C : Addr} {us : List Value} {kw : List (Str × Value)} : (A.under (.builtin "type.__call__" ⟨.ref C :: us, kw⟩)).units = A.units + 1 := by
 first | rfl | simp [Around.under, Code.cUnits, Code.frames, Code.isFrame]
theorem Room.make {k : Nat} {A : Around} (r : Room (k + 1) A) (C : Addr) (us : List Value) (kw : List (Str × Value)) : Room k (A.under (.builtin "type.__call__" ⟨.ref C :: us, kw⟩)) :=
 ⟨r.hd, by have := r.dp; rw [make_depth]; lia, by have := r.un; rw [make_units]; lia⟩
theorem Room.depth {k : Nat} {A : Around} (r : Room k A) : A.depth < recursionLimit := by have := r.dp; lia
theorem Room.units {k : Nat} {A : Around} (r : Room k A) : A.units + 64 < cLine := by have := r.un; lia
def tNil : TA := fun _ H Q => Q [] H
def tCons (ta : TE) (tr : TA) : TA := fun σ H Q => ta σ H fun x H1 => tr σ H1 fun xs H2 => Q (x :: xs) H2
section
variable {X : Cx} {e : Expr} {es : List Expr} {te : TE} {t : TA} {pos : Pos}
theorem pa_nil : PA X [] tNil := fun _ _ _ _ H Q I h => Calls.spliced_nil ⟨[], H, I, .nil, h⟩
theorem pa_cons (ha : PE X e te) (hr : PA X es t) (hs : starEach (e :: es) X.env = (false, eval e X.env) :: starEach es X.env := by rfl) : PA X (e :: es) (tCons te t) := by
 intro pos pins s σ H Q I h
 rw [hs]
 show wpAny _ _ (spliced ((false, eval e X.env) :: backTo pos (starEach es X.env))) _ _ s
 refine Calls.spliced_cons (thn (ha pins s σ H _ I h) fun u s1 hpt9 => ?_)
 obtain ⟨x, H1, I1, r1, q1⟩ := hpt9
 exact thn (hr pos pins s1 σ H1 _ I1 q1) fun us s2 ⟨xs, H2, I2, r2, q2⟩ => ⟨x :: xs, H2, I2, .cons r1 r2, q2⟩
def tTup (t : TA) : TE := fun σ H Q => t σ H fun xs H1 => xs.length <= sizeLine /\ ∀ p, H1 p = none -> Q (.ref p) (upd H1 p (.tup xs))
def tLst (t : TA) : TE := fun σ H Q => t σ H fun xs H1 => xs.length <= sizeLine /\ ∀ p, H1 p = none -> Q (.ref p) (upd H1 p (.lst xs))
theorem pe_tup {x1} (h : PA X es t) : PE X (.Tuple es x1 pos) (tTup t) := by
 intro pins s σ H Q I hq
 refine wpAny_Tuple_spliced (thn (h pos pins s σ H _ I hq) fun us s1 ⟨xs, H1, I1, r, z, q⟩ => ⟨by rw [<- r.length]; exact z, ?_⟩)
 have hf : H1 s1.heap.objs.size = none := I1.hok.fresh (Nat.le_refl _)
 refine ⟨.ref s1.heap.objs.size, upd H1 s1.heap.objs.size (.tup xs), I1.laid (t' := s1.toks) (fun b u e => Heap.get?_push_of_some _ e) (Nat.le_refl _) ?_, rfl, q _ hf⟩
 exact ⟨z, us, r, ⟨_, Heap.get?_push_size _ rfl, rfl, _, rfl⟩⟩
theorem pe_lst (h : PA X es t) : PE X (.List es pos) (tLst t) := by
 intro pins s σ H Q I hq
 refine wpAny_List_spliced (thn (h pos pins s σ H _ I hq) fun us s1 ⟨xs, H1, I1, r, z, q⟩ => ⟨by rw [<- r.length]; exact z, ?_⟩)
 have hf : H1 s1.heap.objs.size = none := I1.hok.fresh (Nat.le_refl _)
 refine ⟨.ref s1.heap.objs.size, upd H1 s1.heap.objs.size (.lst xs), I1.laid (t' := s1.toks) (fun b u e => Heap.get?_push_of_some _ e) (Nat.le_refl _) ?_, rfl, q _ hf⟩
 exact ⟨z, us, 0, r, Heap.get?_push_size _ rfl⟩
end
abbrev Sp := List V -> Hp -> VK -> XK -> Prop
abbrev CXT := List Env -> Hp -> Shared -> XK -> Value -> Shared -> Prop
structure Env0 (P : Program) (w : World) (K : W.Frag) (mg : Str -> Option Value) (base : Heap) (A : Around) (outer : List Env) (s : Shared) (H : Hp) : Prop where
 frames : A.frames = some outer
 mod : Mod K mg base
 bs : ∀ b o, base.get? b = some o -> s.heap.get? b = some o /\ H b = none
 bsz : base.objs.size <= s.heap.objs.size
 funs : s.heap.FunFrames base outer
 frf : ∀ b ∈ frs outer, H b = none
 hok : HOk P w H s.heap
 bare : AllBare s.gens
def CE (outer : List Env) (P : Program) (w : World) (H : Hp) (s : Shared) (Q : VK) (u : Value) (s' : Shared) : Prop :=
 ∃ v H', s'.os = s.os /\ AllBare s'.gens /\ Un (frs outer) [] H H' s.heap s'.heap /\ HOk P w H' s'.heap /\ RelV v u /\ Q v H'
def CR (CX : CXT) (outer : List Env) (P : Program) (w : World) (H : Hp) (s : Shared) (Q : VK) (E : XK) (r : Result) (s' : Shared) : Prop :=
 match r with
 | .ok (.ret u) => CE outer P w H s Q u s'
 | .ok _ => False
 | .error e => CX outer H s E e s'
structure FnOk (P : Program) (w : World) (K : W.Frag) (mg : Str -> Option Value) (base : Heap) (CX : CXT) (k : Nat) (f : Addr) (fd : FuncData) (ps : List Str) (sp : Sp) : Prop where
 len : ∀ vs H Q E, sp vs H Q E -> vs.length = ps.length
 run : ∀ (A : Around) (outer : List Env) (s : Shared) (H : Hp) (args : Args) (us : List Value) (vs : List V) (Q : VK) (E : XK), Room k A -> Env0 P w K mg base A outer s H -> BindsTo s fd args (ps.zip us) -> Vals vs us -> sp vs H Q E ->
  codeAny (model P w) A (.call (.ref f) args) (CR CX outer P w H s Q E) s
theorem Env0.make {P : Program} {w : World} {K : W.Frag} {mg : Str -> Option Value} {base : Heap} {A : Around} {outer : List Env} {s : Shared} {H : Hp} (e : Env0 P w K mg base A outer s H) (C : Addr) (us : List Value) (kw : List (Str × Value)) :
  Env0 P w K mg base (A.under (.builtin "type.__call__" ⟨.ref C :: us, kw⟩)) outer s H := ⟨by first | exact e.frames | (simpa [Around.under, Code.envs, Code.isFrame, pushEnvs] using e.frames), e.mod, e.bs, e.bsz, e.funs, e.frf, e.hok, e.bare⟩
section
variable {X : Cx} {pins : List (Addr × Obj)} {σ : St} {H : Hp} {s s' : Shared}
theorem Inv.env0 (I : Inv X pins σ H s) : Env0 X.prog X.w X.K X.mg X.base X.A X.stack s H :=
 ⟨I.ok.frames, I.ok.mod, I.bs, Nat.le_trans I.ok.bsz I.sz, I.stack, I.stkFree, I.hok, I.bare⟩
theorem Inv.after {Q : VK} {u : Value} (I : Inv X pins σ H s) (h : CE X.stack X.prog X.w H s Q u s') : EP X pins σ Q u s' := by
 obtain ⟨v, H', os, bare, un, hok, r, q⟩ := h
 obtain ⟨hh, g, d, t, os'⟩ := s'
 obtain rfl : os' = s.os := os
 exact ⟨v, H', I.call (h' := hh) (g' := g) (d' := d) (t' := t) (ch := []) un hok bare (fun b z => absurd z (by simp)), r, q⟩
end
def tCall (sp : Sp) (dvs : List V) (E : XK) (t : TA) : TE := fun σ H Q => t σ H fun vs H1 => sp (vs ++ dvs) H1 Q E
def tMake (C : Addr) (sp : Sp) (dvs : List V) (E : XK) (t : TA) : TE := fun σ H Q => t σ H fun vs H1 => ∀ x dx, H1 x = none -> H1 dx = none -> dx ≠ x ->
 sp (.ref x :: (vs ++ dvs)) (upd (upd H1 dx (.own x)) x (.ins C dx [])) (fun v H2 => v = .non /\ Q (.ref x) H2) E
def Binds (K : W.Frag) (fd : FuncData) (ps : List Str) (ds : List Value) : Prop :=
 ∀ (s : Shared) (us : List Value), K.In s.heap -> (us ++ ds).length = ps.length -> BindsTo s fd ⟨us, []⟩ (ps.zip (us ++ ds))
theorem Binds.all {K : W.Frag} {fd : FuncData} {ps : List Str} (h : ∀ us : List Value, us.length = ps.length -> bindArgs fd ⟨us, []⟩ = pure (ps.zip us)) : Binds K fd ps [] := fun s us _ hl => by
 rw [List.append_nil] at hl ⊢
 exact .of_eq (h us hl)
def Passes (CX : CXT) (X : Cx) (E : XK) : Prop := ∀ (pins : List (Addr × Obj)) (σ : St) (H : Hp) (s : Shared) (e : Value) (s' : Shared), Inv X pins σ H s -> CX X.stack H s E e s' -> X.xe e s'
section
variable {X : Cx} {CX : CXT} {k : Nat} {f C : Addr} {fd : FuncData} {ps : List Str} {sp : Sp} {dvs : List V} {ds : List Value} {E : XK} {x m : Str} {p pos apos : Pos} {e o : Expr} {es : List Expr} {ta : TE} {t : TA}
theorem run_fn {pins : List (Addr × Obj)} {σ : St} {H : Hp} {s : Shared} {Q : VK} {us : List Value} {vs : List V} (F : FnOk X.prog X.w X.K X.mg X.base CX k f fd ps sp) (hr : Room k X.A) (hb : Binds X.K fd ps ds) (hd : Vals dvs ds) (hx : Passes CX X E)
  (I : Inv X pins σ H s) (r : Vals vs us) (h : sp (vs ++ dvs) H Q E) : wpAny (model X.prog X.w) X.A (call (.ref f) us) (EP X pins σ Q) X.xe s := by
 have r2 : Vals (vs ++ dvs) (us ++ ds) := r.append hd
 have hl : (us ++ ds).length = ps.length := by rw [<- r2.length]; exact F.len _ _ _ _ h
 refine wpAny_call (codeAny_mono (F.run X.A X.stack s H ⟨us, []⟩ (us ++ ds) (vs ++ dvs) Q E hr I.env0 (hb s us I.kIn hl) r2 h) fun r s' hq => ?_)
 cases r with
 | error e => exact hx pins σ H s e s' I hq
 | ok fl =>
  cases fl with
  | ret u => exact I.after hq
  | next => exact False.elim hq
  | brk => exact False.elim hq
  | cont => exact False.elim hq
theorem pe_call (F : FnOk X.prog X.w X.K X.mg X.base CX k f fd ps sp) (hr : Room k X.A) (hg : Gl X x) (hm : X.mg x = some (.ref f)) (hk : W.keepIn X.K (.ref f) = true) (hb : Binds X.K fd ps ds) (hd : Vals dvs ds) (hx : Passes CX X E)
  (ha : PA X (e :: es) t) (hdb : (x == ("__debug__" : Str)) = false := by decide) (he : starEach (e :: es) X.env = (false, eval e X.env) :: starEach es X.env := by rfl) (hpl : (backTo pos (starEach es X.env)).any (·.1) = false := by rfl) :
  PE X (.Call (.Name x p) (e :: es) [] pos) (tCall sp dvs E t) := by
 intro pins s σ H Q I h
 refine wpAny_Call_Name_kw (ld_glob I hg hm ?_ hdb)
 refine W.callWith_K (h₀ := X.base) I.ok.mod.kin hk (thn (ha pos pins s σ H _ I h) fun us s1 ⟨vs, H1, I1, r, q⟩ => ⟨I1.kIn, ?_⟩) he hpl
 exact run_fn F hr hb hd hx I1 r q
structure Mk (K : W.Frag) (C f : Addr) : Prop where
 makes : W.makesIn K C = true
 init : W.findIn K (.ref C) "__init__" = some (some (.ref f))
 fn : W.isFn K (.ref f) = true
 kp : W.keepIn K (.ref C) = true
theorem run_make {pins : List (Addr × Obj)} {σ : St} {H : Hp} {s : Shared} {Q : VK} {us : List Value} {vs : List V} (M : Mk X.K C f) (F : FnOk X.prog X.w X.K X.mg X.base CX k f fd ps sp) (hr : Room (k + 1) X.A) (hb : Binds X.K fd ps ds) (hd : Vals dvs ds)
  (hx : Passes CX X E) (I : Inv X pins σ H s) (r : Vals vs us)
  (h : ∀ x dx, H x = none -> H dx = none -> dx ≠ x -> sp (.ref x :: (vs ++ dvs)) (upd (upd H dx (.own x)) x (.ins C dx [])) (fun v H2 => v = .non /\ Q (.ref x) H2) E) :
  wpAny (model X.prog X.w) X.A (call (.ref C) us) (EP X pins σ Q) X.xe s := by
 have hq := h (s.heap.objs.size + 1) s.heap.objs.size (I.hok.fresh (Nat.le_succ _)) (I.hok.fresh (Nat.le_refl _)) (Nat.ne_of_lt (Nat.lt_succ_self _))
 have I2 := Inv.made (C := C) I
 have r2 : Vals (V.ref (s.heap.objs.size + 1) :: (vs ++ dvs)) (Value.ref (s.heap.objs.size + 1) :: (us ++ ds)) := .cons rfl (r.append hd)
 have hl : (Value.ref (s.heap.objs.size + 1) :: us ++ ds).length = ps.length := by
  have e := r2.length
  rw [F.len _ _ _ _ hq] at e
  exact e.symm
 refine wpAny_call (make_map (f := f) I.kIn M.makes M.init (beq_iff_eq.mp M.fn) (codeAny_mono (F.run _ X.stack _ _ ⟨Value.ref (s.heap.objs.size + 1) :: us, []⟩ (Value.ref (s.heap.objs.size + 1) :: (us ++ ds)) _ _ E (hr.make C us [])
  (I2.env0.make C us []) (hb _ (Value.ref (s.heap.objs.size + 1) :: us) I2.kIn hl) r2 hq) fun r s' hq' => ?_))
 cases r with
 | error e => exact hx pins σ _ _ e s' I2 hq'
 | ok fl =>
  cases fl with
  | ret u =>
   obtain ⟨v, H', I3, rv, ev, q3⟩ := I2.after hq'
   subst ev
   exact ⟨rv, ⟨V.ref (s.heap.objs.size + 1), H', I3, rfl, q3⟩⟩
  | next => exact False.elim hq'
  | brk => exact False.elim hq'
  | cont => exact False.elim hq'
theorem pe_make (M : Mk X.K C f) (F : FnOk X.prog X.w X.K X.mg X.base CX k f fd ps sp) (hr : Room (k + 1) X.A) (hg : Gl X x) (hm : X.mg x = some (.ref C)) (hb : Binds X.K fd ps ds) (hd : Vals dvs ds) (hx : Passes CX X E)
  (ha : PA X (e :: es) t) (hdb : (x == ("__debug__" : Str)) = false := by decide) (he : starEach (e :: es) X.env = (false, eval e X.env) :: starEach es X.env := by rfl) (hpl : (backTo pos (starEach es X.env)).any (·.1) = false := by rfl) :
  PE X (.Call (.Name x p) (e :: es) [] pos) (tMake C sp dvs E t) := by
 intro pins s σ H Q I h
 refine wpAny_Call_Name_kw (ld_glob I hg hm ?_ hdb)
 refine W.callWith_K (h₀ := X.base) I.ok.mod.kin M.kp (thn (ha pos pins s σ H _ I h) fun us s1 ⟨vs, H1, I1, r, q⟩ => ⟨I1.kIn, ?_⟩) he hpl
 exact run_make M F hr hb hd hx I1 r q
end
section
variable {X : Cx} {CX : CXT} {k : Nat} {f C : Addr} {fd : FuncData} {ps ks : List Str} {sp : Sp} {E : XK} {x m : Str} {p pos apos kpos : Pos} {e o : Expr} {es : List Expr} {kws : List Keyword} {te ta : TE} {t tk : TA} {nm : Option Str}
variable {g : List Value -> List Value -> List Value} {gV : List V -> List V -> List V}
end
structure FnScope (N P : List Str) (sc : Scope) : Prop where
 kind : sc.kind = .function
 co : sc.isCoroutine = false
 gen : sc.isGenerator = false
 nd : N.Nodup
 pre : N.take P.length = P
 par : ∀ x ∈ P, sc.names.lookup x = some .local \/ sc.names.lookup x = some .cell
 nofree : ∀ y ∈ sc.names, y.2 ≠ .free
theorem bindL_out {kindOf : Str -> Option NameKind} {x : Str} : ∀ {binds : List (Str × Value)} {m : Str -> Option Value}, (∀ v, (x, v) ∉ binds) -> bindL kindOf binds m x = m x
 | [], _, _ => rfl
 | (n, v) :: r, m, h => by
  unfold bindL
  rw [bindL_out fun w hw => h w (List.mem_cons_of_mem _ hw)]
  split
  ·have : x ≠ n := by rintro rfl; exact h v List.mem_cons_self
   simp [this]
  ·rfl
theorem bindC_out {kindOf : Str -> Option NameKind} {x : Str} : ∀ {binds : List (Str × Value)} {m : Str -> Option Value}, (∀ v, (x, v) ∉ binds) -> bindC kindOf binds m x = m x
 | [], _, _ => rfl
 | (n, v) :: r, m, h => by
  unfold bindC
  rw [bindC_out fun w hw => h w (List.mem_cons_of_mem _ hw)]
  split
  ·rfl
  ·have : x ≠ n := by rintro rfl; exact h v List.mem_cons_self
   simp [this]
theorem bindL_get {kindOf : Str -> Option NameKind} {x : Str} {v : Value} : ∀ {P : List Str} {vs : List Value} {i : Nat} {m : Str -> Option Value}, P.Nodup -> P[i]? = some x -> vs[i]? = some v -> kindOf x = some .local ->
  bindL kindOf (P.zip vs) m x = some v
 | [], _, _, _, _, h, _, _ => by simp at h
 | _ :: _, [], _, _, _, _, h, _ => by simp at h
 | p :: P, w :: vs, 0, m, nd, h1, h2, hk => by
  simp at h1 h2; subst h1; subst h2
  show bindL kindOf ((p, w) :: P.zip vs) m p = _
  unfold bindL
  rw [bindL_out fun v hv => (List.nodup_cons.mp nd).1 (List.of_mem_zip hv).1, if_pos hk]
  simp
 | p :: P, w :: vs, i + 1, m, nd, h1, h2, hk => by
  show bindL kindOf ((p, w) :: P.zip vs) m x = _
  unfold bindL
  exact bindL_get (i := i) (List.nodup_cons.mp nd).2 (by simpa using h1) (by simpa using h2) hk
theorem bindC_get {kindOf : Str -> Option NameKind} {x : Str} {v : Value} : ∀ {P : List Str} {vs : List Value} {i : Nat} {m : Str -> Option Value}, P.Nodup -> P[i]? = some x -> vs[i]? = some v -> kindOf x ≠ some .local ->
  bindC kindOf (P.zip vs) m x = some v
 | [], _, _, _, _, h, _, _ => by simp at h
 | _ :: _, [], _, _, _, _, h, _ => by simp at h
 | p :: P, w :: vs, 0, m, nd, h1, h2, hk => by
  simp at h1 h2; subst h1; subst h2
  show bindC kindOf ((p, w) :: P.zip vs) m p = _
  unfold bindC
  rw [bindC_out fun v hv => (List.nodup_cons.mp nd).1 (List.of_mem_zip hv).1, if_neg hk]
  simp
 | p :: P, w :: vs, i + 1, m, nd, h1, h2, hk => by
  show bindC kindOf ((p, w) :: P.zip vs) m x = _
  unfold bindC
  exact bindC_get (i := i) (List.nodup_cons.mp nd).2 (by simpa using h1) (by simpa using h2) hk
def start (N : List Str) (vs : List V) : St := vs.map some ++ List.replicate (N.length - vs.length) none
def cxOf (CX : CXT) (P : Program) (w : World) (K : W.Frag) (mg : Str -> Option Value) (base : Heap) (N : List Str) (qual : Str) (scope : Scope) (f : Addr) (cd : Value) (A : Around) (outer : List Env) (s : Shared) (H : Hp) (E : XK) : Cx where
 prog := P
 w := w
 K := K
 mg := mg
 base := base
 A := A.deeper (envOfC qual scope s.heap.objs.size f cd)
 N := N
 s₀ := s
 H₀ := H
 env := envOfC qual scope s.heap.objs.size f cd
 outer := outer
 stack := envOfC qual scope s.heap.objs.size f cd :: outer
 ex := []
 calm := true
 fn := fun _ => true
 pn := []
 xe := fun e s' => wpAny (model P w) (A.deeper (envOfC qual scope s.heap.objs.size f cd)) (leaving (envOfC qual scope s.heap.objs.size f cd) e) (fun _ s'' => CX outer H s E e s'') (fun e' s'' => CX outer H s E e' s'') s'
theorem cell_has {sc : Scope} {n : Nat} {x : Str} (h : sc.names.lookup x = some .cell) : ∃ c, (cellsFrom n sc.names []).lookup x = some c := by
 have q := W.cellsFrom_some sc.names n [] (.inl h)
 exact Option.isSome_iff_exists.mp q
theorem inv_start {CX : CXT} {P : Program} {w : World} {K : W.Frag} {mg : Str -> Option Value} {base : Heap} {N ps : List Str} {qual : Str} {scope : Scope} {f : Addr} {cd : Value} {A : Around} {outer : List Env} {s s1 : Shared} {H : Hp} {E : XK} {us : List Value} {vs : List V}
  (S : FnScope N ps scope) (hd : A.handled = none) (e0 : Env0 P w K mg base A outer s H) (hl : vs.length = ps.length) (r : Vals vs us)
  (x : InCallC s s.heap.objs.size (bindL (envOfC qual scope s.heap.objs.size f cd).kindOf (ps.zip us) fun _ => none) (cellsFrom (s.heap.objs.size + 1) scope.names []) (bindC (envOfC qual scope s.heap.objs.size f cd).kindOf (ps.zip us) fun _ => none) s1) :
  Inv (cxOf CX P w K mg base N qual scope f cd A outer s H E) [] (start N vs) H s1 := by
 have hpl : ps.length <= N.length := by have := congrArg List.length S.pre; rw [List.length_take] at this; lia
 obtain ⟨h1, tk, rfl, hk⟩ := x.done
 have noA : ∀ b : Addr, b ∉ (cxOf CX P w K mg base N qual scope f cd A outer s H E).ex := fun b z => absurd (show b ∈ ([] : List Addr) from z) (by simp)
 refine ⟨⟨e0.mod, S.kind, rfl, rfl, Nat.le_refl _, fun y z c h1 h2 => ?_, fun y hy => ?_, fun y c _ h => ?_, fun _ => hd, Around.frames_deeper e0.frames, .inr ⟨rfl, rfl⟩, fun b z => absurd z (noA b), e0.bs, e0.bsz, fun b _ _ => noA b, fun b z => absurd z (noA b), e0.funs, e0.frf⟩,
  rfl, e0.bare, Un.kept hk, ⟨_, x.toInCall.ns, fun i y v h1 h2 h3 => ?_⟩, fun y c h => ⟨_, x.cell y c h⟩, e0.hok.fresh (Nat.le_refl _), fun y c h => ?_, fun p hp => absurd (show p ∈ ([] : List (Addr × Obj)) from hp) (by simp), e0.hok.kept hk, ?_⟩
 ·exact name_of_addr x.apart (PySem.mem_of_lookup h1) (PySem.mem_of_lookup h2)
 ·have hy : scope.names.lookup y = some .cell \/ scope.names.lookup y = some .free := hy
  rcases hy with hy | hy
  ·exact cell_has hy
  ·exact absurd rfl (S.nofree _ (PySem.mem_of_lookup hy))
 ·exact Nat.le_of_lt (x.above y c (PySem.mem_of_lookup h))
 ·have hi : i < vs.length := by
   unfold start at h2
   by_cases hi : i < vs.length
   ·exact hi
   ·rw [List.getElem?_append_right (by simpa using hi)] at h2
    rw [List.getElem?_replicate] at h2
    split at h2 <;> cases h2
  have ha : vs[i]? = some v := by
   unfold start at h2
   rw [List.getElem?_append_left (by simpa using hi), List.getElem?_map] at h2
   cases e : vs[i]? with
   | none => rw [e] at h2; cases h2
   | some a => rw [e] at h2; cases h2; rfl
  obtain ⟨u, hu, rv⟩ := r.get ha
  have hp : ps[i]? = some y := by
   rw [<- S.pre, List.getElem?_take_of_lt (by lia)]; exact h1
  have ndP : ps.Nodup := by rw [<- S.pre]; exact S.nd.sublist (List.take_sublist _ _)
  refine ⟨u, rv, ?_⟩
  rcases S.par y (List.mem_of_getElem? hp) with k | k
  ·exact .inl ⟨k, bindL_get ndP hp hu k⟩
  ·obtain ⟨c, e⟩ := cell_has (n := s.heap.objs.size + 1) k
   refine .inr ⟨.inl k, c, e, ?_⟩
   have q := x.cell y c e
   rw [bindC_get ndP hp hu (by show scope.names.lookup y ≠ _; rw [k]; decide)] at q
   exact q
 ·exact e0.hok.fresh (Nat.le_of_lt (x.above y c (PySem.mem_of_lookup h)))
 ·unfold start
  show _ = N.length
  rw [List.length_append, List.length_map, List.length_replicate]
  lia
theorem fn_of {CX : CXT} {P : Program} {w : World} {K : W.Frag} {mg : Str -> Option Value} {base : Heap} {k : Nat} {f : Addr} {name qual : Str} {params : Arguments} {body : List Stmt} {scope : Scope} {dV kV doc pm cdv ct oc : Value} {an od : Option Addr}
  {osl : Array (Option Value)} {N ps : List Str} {sp : Sp} (lk : K.lookup f = some ⟨oc, od, .func (W.fnOf name qual params body scope dV kV doc pm an cdv ct), osl⟩) (hcd : W.codeIn K cdv qual = true) (S : FnScope N ps scope)
  (len : ∀ vs H Q E, sp vs H Q E -> vs.length = ps.length)
  (hbody : ∀ (A : Around) (outer : List Env) (s : Shared) (H : Hp) (vs : List V) (Q : VK) (E : XK), Room k (A.deeper (envOfC qual scope s.heap.objs.size f cdv)) -> sp vs H Q E ->
   ∃ t, PSs (cxOf CX P w K mg base N qual scope f cdv A outer s H E) body t /\ t { nx := fun _ H' => Q .non H', rt := Q } (start N vs) H) :
  FnOk P w K mg base CX (k + 1) f (W.fnOf name qual params body scope dV kV doc pm an cdv ct) ps sp := by
 refine ⟨len, fun A outer s H args us vs Q E hr e0 hb r hsp => ?_⟩
 have hl := len _ _ _ _ hsp
 have KX : K.In s.heap := e0.mod.kin.keeps fun b o e => (e0.bs b o e).1
 have lim : s.heap.NoLimit := e0.mod.nolimit.keeps fun b o e => (e0.bs b o e).1
 have hkind : ∀ y ∈ ps.zip us, scope.names.lookup y.1 = some .local \/ (scope.names.lookup y.1 = some .cell /\ ((cellsFrom (s.heap.objs.size + 1) scope.names []).lookup y.1).isSome = true) := fun hpt0 hy => by
  obtain ⟨n, v⟩ := hpt0
  rcases S.par n (List.of_mem_zip hy).1 with q | q
  ·exact .inl q
  ·exact .inr ⟨q, W.cellsFrom_some _ _ _ (.inl q)⟩
 refine codeAny_call_function hr.depth (KX _ _ lk) rfl S.co S.gen rfl (W.codeRec_of KX hcd) (hb _ _ _ _ ?_)
 refine wpAny_newFunctionEnv_cells S.kind hkind fun env he s1 x => ?_
 subst he
 refine ⟨lim.keeps x.toInCall.keep, codeAny_func ?_⟩
 obtain ⟨t, ht, hq⟩ := hbody A outer s H vs Q E (hr.deeper _) hsp
 have I : Inv (cxOf CX P w K mg base N qual scope f cdv A outer s H E) [] (start N vs) H s1 := inv_start S hr.hd e0 hl r x
 refine wpAny_mono (ht [] s1 (start N vs) H _ I hq) (fun fl s' hs => ?_) fun e s' hs => hs
 have fin : ∀ {σ' : St} {H' : Hp} {v : V} {u : Value}, Inv (cxOf CX P w K mg base N qual scope f cdv A outer s H E) [] σ' H' s' -> RelV v u -> Q v H' -> CE outer P w H s Q u s' :=
  fun {σ' H' v u} J rv q => ⟨v, H', J.os, J.bare, J.base, J.hok, rv, q⟩
 cases fl with
 | ret u =>
  obtain ⟨v, σ', H', J, rv, q⟩ := hs
  exact fin J rv q
 | next =>
  obtain ⟨σ', H', J, q⟩ := hs
  exact fin (v := V.non) (u := Value.none) J rfl q
 | brk =>
  obtain ⟨_, _, _, q⟩ := hs
  exact False.elim q
 | cont =>
  obtain ⟨_, _, _, q⟩ := hs
  exact False.elim q
section
variable {X : Cx} {x : Str} {p pos : Pos} {e : Expr} {es : List Expr} {t : TA} {id T : String} {r : List V -> Hp -> VK -> Prop}
def tCB (r : List V -> Hp -> VK -> Prop) (t : TA) : TE := fun σ H Q => t σ H fun vs H1 => r vs H1 Q
theorem pe_callB (hc : CallR X (.builtin id) r) (hg : Gl X x) (hm : X.mg x = none) (hv : bootBuiltins x = some (.builtin id)) (ha : PA X (e :: es) t) (hn : x ≠ "__name__" := by decide) (hdb : (x == ("__debug__" : Str)) = false := by decide)
  (he : starEach (e :: es) X.env = (false, eval e X.env) :: starEach es X.env := by rfl) (hpl : (backTo pos (starEach es X.env)).any (·.1) = false := by rfl) : PE X (.Call (.Name x p) (e :: es) [] pos) (tCB r t) := by
 intro pins s σ H Q I h
 refine wpAny_Call_Name_kw (ld_blt I hg hm hv ?_ hn hdb)
 exact PyProof.Rows.callWith_builtin1 (thn (ha pos pins s σ H _ I h) fun us s1 ⟨vs, H1, I1, r1, q1⟩ => hc pins s1 σ H1 vs us Q I1 r1 q1) he hpl
theorem pe_callTy (hc : CallR X (.type T) r) (hg : Gl X x) (hm : X.mg x = none) (hv : bootBuiltins x = some (.type T)) (ha : PA X (e :: es) t) (hn : x ≠ "__name__" := by decide) (hdb : (x == ("__debug__" : Str)) = false := by decide)
  (he : starEach (e :: es) X.env = (false, eval e X.env) :: starEach es X.env := by rfl) (hpl : (backTo pos (starEach es X.env)).any (·.1) = false := by rfl) : PE X (.Call (.Name x p) (e :: es) [] pos) (tCB r t) := by
 intro pins s σ H Q I h
 refine wpAny_Call_Name_kw (ld_blt I hg hm hv ?_ hn hdb)
 exact PyProof.Rows.callWith_type1 (thn (ha pos pins s σ H _ I h) fun us s1 ⟨vs, H1, I1, r1, q1⟩ => hc pins s1 σ H1 vs us Q I1 r1 q1) he hpl
end
end L2
namespace HT
open PySem PyProof.Rows
def lexLt : List Int -> List Int -> Bool
 | [], [] => false
 | [], _ :: _ => true
 | _ :: _, [] => false
 | x :: xs, y :: ys => if x = y then lexLt xs ys else decide (x < y)
theorem lexLt_cons (x y : Int) (xs ys : List Int) : lexLt (x :: xs) (y :: ys) = if x = y then lexLt xs ys else decide (x < y) := rfl
section
open PySem.SeqAt
open PySem.AutoSeq1 (wpAny_loadPart')
open PySem.MeetsSeq PySem.MeetsSeq2 PySem.MeetsSeq3
end
section
variable {prog : Program} {w : World} {A : Around} {E : Value -> Shared -> Prop} {s : Shared}
theorem cat_tup {t b : Addr} {vs ws : List Value} {Q : Value -> Shared -> Prop} (ht : IsTup s.heap t vs.toArray) (hb : IsTup s.heap b ws.toArray) (hv : vs ≠ [])
  (h1 : ws = [] -> Q (.ref t) s) (h2 : ws ≠ [] -> Q (.ref s.heap.objs.size) { s with heap := s.heap.push { cls := .type "tuple", data := .seq (vs ++ ws).toArray } })
  (hsz : vs.length + ws.length <= sizeLine) : wpAny (model prog w) A (binaryOp .Add (.ref t) (.ref b)) Q E s := by
 obtain ⟨⟨cls, dd, data, sl⟩, ho, hc, n, hd⟩ := id ht
 obtain ⟨⟨cls2, dd2, data2, sl2⟩, ho2, hc2, n2, hd2⟩ := id hb
 simp only at hc hd hc2 hd2
 subst hc hd hc2 hd2
 have e : vs.toArray ++ ws.toArray = (vs ++ ws).toArray := by simp
 by_cases hw : ws = []
 ·exact concat_meets ⟨_, ho, rfl⟩ ⟨_, ho2, rfl⟩ noFill_tuple_add seq_tuple_add PySem.F.slot_tuple_add PySem.F.entry_tuple_add (PySem.F.args_tuple_add_2 _ _)
   (tuple_addW1 t b vs.toArray ws.toArray n n2 dd dd2 sl sl2 (by simpa using hv) (by simp [hw])) ⟨ho, ho2, h1 hw⟩
 ·refine concat_meets ⟨_, ho, rfl⟩ ⟨_, ho2, rfl⟩ noFill_tuple_add seq_tuple_add PySem.F.slot_tuple_add PySem.F.entry_tuple_add (PySem.F.args_tuple_add_2 _ _)
   (tuple_addW2 t b vs.toArray ws.toArray n n2 dd dd2 sl sl2 (by simpa using hv) (by simpa using hw) (by rw [List.size_toArray, List.size_toArray]; exact hsz)) ⟨ho, ho2, ?_⟩
  rw [e]
  exact h2 hw
def sIx (n d : Nat) : Option Int -> Nat
 | none => d
 | some v => if v < 0 then (v + (n : Int)).toNat else min v.toNat n
end
end HT
namespace L2
open PySem PySem.Spec PyProof.Rows
abbrev TO := St -> Hp -> (Option Int -> Hp -> Prop) -> Prop
theorem intsAre_of {ns : List Int} : ∀ {us : List Value}, Vals (ns.map V.int) us -> IntsAre us ns := by
 induction ns with
 | nil => intro us r; rw [List.map_nil] at r; cases r; exact .nil
 | cons n ns ih =>
  intro us r
  rw [List.map_cons] at r
  cases r with
  | cons r1 r2 =>
   obtain ⟨t, e⟩ := r1
   subst e
   exact .cons n t (ih r2)
section
variable {X : Cx} {e : Expr} {te : TE} {lo hi : Option Expr} {tl th : TO} {pos p2 : Pos}
theorem Vals.nil_iff {xs : List V} {us : List Value} (r : Vals xs us) : us = [] ↔ xs = [] := by
 cases r with
 | nil => simp
 | cons _ _ => simp
end
def ixN (n : Nat) (i : Int) : Option Nat := if 0 <= i then (if i < n then some i.toNat else none) else if -(n : Int) <= i then some (i + n).toNat else none
def atI {α : Type} (xs : List α) (i : Int) : Option α := (ixN xs.length i).bind fun j => xs[j]?
theorem ixN_seq {n : Nat} {i : Int} {j : Nat} (h : ixN n i = some j) : seqIndex? i n = some j /\ j < n /\ -(n : Int) <= i /\ i < n := by
 unfold ixN at h
 by_cases h0 : 0 <= i
 ·rw [if_pos h0] at h
  by_cases h1 : i < n
  ·rw [if_pos h1] at h
   have e : i.toNat = j := Option.some.inj h
   exact ⟨by rw [seqIndex_of h0 h1, e], by lia, by lia, h1⟩
  ·rw [if_neg h1] at h; cases h
 ·rw [if_neg h0] at h
  by_cases h1 : -(n : Int) <= i
  ·rw [if_pos h1] at h
   have e : (i + n).toNat = j := Option.some.inj h
   exact ⟨by rw [seqIndex_neg (by lia) h1, e], by lia, h1, by lia⟩
  ·rw [if_neg h1] at h; cases h
theorem atI_get {α : Type} {xs : List α} {i : Int} {v : α} (h : atI xs i = some v) : ∃ j, seqIndex? i xs.length = some j /\ xs[j]? = some v /\ j < xs.length /\ -(xs.length : Int) <= i /\ i < xs.length := by
 unfold atI at h
 cases e : ixN xs.length i with
 | none => rw [e] at h; cases h
 | some j =>
  rw [e] at h
  obtain ⟨h1, h2, h3, h4⟩ := ixN_seq e
  exact ⟨j, h1, h, h2, h3, h4⟩
def PlainIx (b : Expr) : Prop := ∀ o i, subscripted b false o i = operate [o, i] (getItem o i)
def IxR (X : Cx) (r : R2) : Prop :=
 ∀ (value slice : Expr) (pins : List (Addr × Obj)) (s : Shared) (σ : St) (H : Hp) (x y : V) (v u : Value) (Q : VK), Inv X pins σ H s -> RelV x v -> RelV y u -> r x y H Q ->
  subscripted slice false v u = operate [v, u] (getItem v u) -> wpAny (model X.prog X.w) X.A (subscriptTail value slice v u) (EP X pins σ Q) X.xe s
def MtR (X : Cx) (id : String) (r : V -> List V -> Hp -> VK -> Prop) : Prop :=
 ∀ (pins : List (Addr × Obj)) (s : Shared) (σ : St) (H : Hp) (x : V) (xs : List V) (v : Value) (us : List Value) (Q : VK), Inv X pins σ H s -> RelV x v -> Vals xs us -> r x xs H Q ->
  wpAny (model X.prog X.w) X.A (call (.builtin id) (v :: us)) (EP X pins σ Q) X.xe s
section
variable {X : Cx} {a b : Expr} {ta tb : TE} {pos : Pos}
theorem IxR.or {r r' : R2} (h : IxR X r) (h' : IxR X r') : IxR X (fun x y H Q => r x y H Q \/ r' x y H Q) := by
 intro value slice pins s σ H x y v u Q I rx ry q hs
 rcases q with q | q
 ·exact h value slice pins s σ H x y v u Q I rx ry q hs
 ·exact h' value slice pins s σ H x y v u Q I rx ry q hs
theorem pe_ix {r : R2} (hr : IxR X r) (ha : PE X a ta) (hb : PE X b tb) (hs : PlainIx b) : PE X (.Subscript a b pos) (tOp r ta tb) := by
 intro pins s σ H Q I h
 exact Subscript_ (binT ha hb I h fun v u s2 x y H2 I2 rx ry q => hr a b pins s2 σ H2 x y v u Q I2 rx ry q (hs _ _))
def rIxL (K : W.Frag) : R2 := fun x y H Q => ∃ p xs i v, x = .ref p /\ y = .int i /\ SqL K H p xs /\ atI xs i = some v /\ Q v H
def rIxT (K : W.Frag) : R2 := fun x y H Q => ∃ p xs i v, x = .ref p /\ y = .int i /\ SqT K H p xs /\ atI xs i = some v /\ Q v H
def rIxS : R2 := fun x y H Q => ∃ z i c, x = .str z /\ y = .int i /\ z.length <= sizeLine /\ atI z.cps.toList i = some c /\ Q (.str ⟨#[c]⟩) H
theorem ix_list : IxR X (rIxL X.K) := by
 intro value slice pins s σ H x y v u Q I rx ry h hs
 obtain ⟨p, xs, i, z, rfl, rfl, hq, he, q⟩ := h
 cases rx
 obtain ⟨t, rfl⟩ := ry
 obtain ⟨its, r, pl, hz⟩ := I.list hq
 obtain ⟨j, h1, h2, h3, h4, h5⟩ := atI_get he
 obtain ⟨w, ew, rw'⟩ := r.get h2
 have hl := r.length
 have hn := line63
 have fin : EP X pins σ Q w s := ⟨z, H, I, rw', q⟩
 by_cases h0 : 0 <= i
 ·have hj : i.toNat = j := by
   rw [seqIndex_of h0 h5] at h1
   exact Option.some.inj h1
  exact item_listR pl.isList h0 (by lia) (by rw [hj]; simpa using ew) fin hs
 ·have hj : (i + (its.toArray.size : Int)).toNat = j := by
   rw [seqIndex_neg (by lia) h4] at h1
   rw [List.size_toArray, <- hl]
   exact Option.some.inj h1
  exact subscriptTail_builtinR (x := w) pl.isList.typeIs slot_list_getitem.lookup
   (wpAny_getItem_list_neg (Q := fun r s' => r = w /\ EP X pins σ Q r s') pl.isList (by lia) (by rw [List.size_toArray] <;> lia) (by lia) (by rw [hj]; simpa using ew) ⟨rfl, fin⟩) hs
theorem ix_tup : IxR X (rIxT X.K) := by
 intro value slice pins s σ H x y v u Q I rx ry h hs
 obtain ⟨p, xs, i, z, rfl, rfl, hq, he, q⟩ := h
 cases rx
 obtain ⟨t, rfl⟩ := ry
 obtain ⟨its, r, pl, hz⟩ := I.tuple hq
 obtain ⟨j, h1, h2, h3, h4, h5⟩ := atI_get he
 obtain ⟨w, ew, rw'⟩ := r.get h2
 have hl := r.length
 have hn := line63
 have fin : EP X pins σ Q w s := ⟨z, H, I, rw', q⟩
 exact subscriptTail_builtinR (x := w) pl.typeIs slot_tuple_getitem.lookup
  (getItem_tuple (j := j) (Q := fun r s' => r = w /\ EP X pins σ Q r s') pl (by lia) (by lia) (by rw [List.size_toArray, <- hl]; exact h1) (by simpa using ew) ⟨rfl, fin⟩) hs
theorem ix_str : IxR X rIxS := by
 intro value slice pins s σ H x y v u Q I rx ry h hs
 obtain ⟨z, i, c, rfl, rfl, hz, he, q⟩ := h
 obtain ⟨t, rfl⟩ := rx
 obtain ⟨t', rfl⟩ := ry
 obtain ⟨j, h1, h2, h3, h4, h5⟩ := atI_get he
 have hl : z.cps.toList.length = z.length := by simp [Str.length]
 rw [hl] at h1 h4 h5
 have hn := line63
 exact tail_any (typeIs_str s z t) slot_str_getitem.lookup (getItem_str (c := c) (by
  have e1 : decide (i < -(2 ^ 63 : Int)) = false := decide_eq_false (by lia)
  have e2 : decide (i ≥ 2 ^ 63) = false := decide_eq_false (by lia)
  rw [e1, e2, Bool.or_false]) (by rw [h1]; simpa using h2) ⟨.str ⟨#[c]⟩, H, I.tok _, ⟨_, rfl⟩, q⟩) hs
def rIx (K : W.Frag) : R2 := fun x y H Q => rIxL K x y H Q \/ rIxT K x y H Q \/ rIxS x y H Q
theorem ix_seq : IxR X (rIx X.K) := ix_list.or (ix_tup.or ix_str)
theorem mapSeq_set (its : List Value) (n j : Nat) (u : Value) : Obj.mapSeq (·.setIfInBounds j u) { cls := .type "list", data := .seq its.toArray n } = { cls := .type "list", data := .seq (its.set j u).toArray n } := by
 simp [Obj.mapSeq]
theorem Inv.lst {pins : List (Addr × Obj)} {σ : St} {H : Hp} {s : Shared} {p : Addr} {xs : List V} (I : Inv X pins σ H s) (h : H p = some (.lst xs)) :
  ∃ (its : List Value) (n : Nat), Vals xs its /\ s.heap.get? p = some { cls := .type "list", data := .seq its.toArray n } /\ xs.length <= sizeLine := by
 obtain ⟨z, its, n, r, e⟩ := I.hok p _ h
 exact ⟨its, n, r, e, z⟩
theorem Inv.lstUpd {pins : List (Addr × Obj)} {σ : St} {H : Hp} {s : Shared} {p : Addr} {xs ys : List V} {its its' : List Value} {n n' : Nat} {f : Obj -> Obj} (I : Inv X pins σ H s) (h : H p = some (.lst xs))
  (ho : s.heap.get? p = some { cls := .type "list", data := .seq its.toArray n }) (hf : f { cls := .type "list", data := .seq its.toArray n } = { cls := .type "list", data := .seq its'.toArray n' }) (r : Vals ys its') (hz : ys.length <= sizeLine) (t : Nat) :
  Inv X pins σ (upd H p (.lst ys)) { s with heap := s.heap.update p f, toks := t } := by
 have e : (s.heap.update p f).get? p = some { cls := .type "list", data := .seq its'.toArray n' } := by
  rw [Heap.get?_update_self f ho (by rw [hf] <;> rfl), hf]
 refine I.write (x := p) (e := p) (by rw [h]; trivial) (.inl rfl) (fun b u hb q => (Heap.get?_update_other _ _ (Ne.symm hb)).trans q) ⟨_, e⟩ ?_
 exact ⟨hz, its', n', r, e⟩
def rSetL : V -> V -> V -> Hp -> (Hp -> Prop) -> Prop := fun o i v H Q => ∃ p xs k j, o = .ref p /\ i = .int k /\ H p = some (.lst xs) /\ ixN xs.length k = some j /\ Q (upd H p (.lst (xs.set j v)))
theorem set_list : PSet X rSetL := by
 intro pins s σ H o i v ov iv u Q I ro ri rv h
 obtain ⟨p, xs, k, j, rfl, rfl, hp, hj, q⟩ := h
 cases ro
 obtain ⟨t, rfl⟩ := ri
 obtain ⟨its, n, r, ho, hz⟩ := I.lst hp
 obtain ⟨h1, h2, h3, h4⟩ := ixN_seq hj
 have hl := r.length
 have hn := line63
 have I' : Inv X pins σ (upd H p (.lst (xs.set j v))) { s with heap := s.heap.update p (Obj.mapSeq (·.setIfInBounds j u)) } :=
  I.lstUpd hp ho (mapSeq_set its n j u) (r.set rv j) (by rw [List.length_set]; exact hz) s.toks
 by_cases h0 : 0 <= k
 ·have hk : k.toNat = j := by
   rw [seqIndex_of h0 h4] at h1
   exact Option.some.inj h1
  exact W.ki_setAt ho h0 (by lia) (by rw [List.size_toArray, <- hl]; exact h4) (by rw [hk]; exact ⟨_, I', q⟩)
 ·have hk : (k + (its.toArray.size : Int)).toNat = j := by
   rw [seqIndex_neg (by lia) h3] at h1
   rw [List.size_toArray, <- hl]
   exact Option.some.inj h1
  exact W.ki_setBack ho (by lia) (by rw [List.size_toArray, <- hl]; exact h3) (by lia) (by rw [hk]; exact ⟨_, I', q⟩)
theorem CallR.or {f : Value} {r r' : List V -> Hp -> VK -> Prop} (h : CallR X f r) (h' : CallR X f r') : CallR X f (fun xs H Q => r xs H Q \/ r' xs H Q) := by
 intro pins s σ H xs us Q I rs q
 rcases q with q | q
 ·exact h pins s σ H xs us Q I rs q
 ·exact h' pins s σ H xs us Q I rs q
theorem call_tuple_of : CallR X (.type "tuple") (fun xs H Q => ∃ p ys, xs = [.ref p] /\ ((SqL X.K H p ys /\ ∀ l, H l = none -> Q (.ref l) (upd H l (.tup ys))) \/ (SqT X.K H p ys /\ Q (.ref p) H))) := by
 intro pins s σ H xs us Q I r h
 obtain ⟨p, ys, rfl, h⟩ := h
 obtain ⟨u, rfl, rx⟩ := vals1 r
 cases rx
 rcases h with ⟨hq, q⟩ | ⟨hq, q⟩
 ·obtain ⟨its, r', pl, hz⟩ := I.list hq
  have hlen := r'.length
  refine call_tuple_list pl.isList (fun h' kp => ?_) (by simp only [List.size_toArray] <;> lia)
  have I1 : Inv X pins σ H { s with heap := h' } := I.kept (t' := s.toks) kp
  have I2 : Inv X pins σ (upd H h'.objs.size (.tup ys)) { s with heap := h'.push { cls := .type "tuple", data := .seq its.toArray } } :=
   I1.laid (t' := s.toks) (fun b o e => Heap.get?_push_of_some _ e) (Nat.le_refl _) (show ObjOk X.prog X.w _ _ _ (.tup ys) from ⟨hz, its, r', IsTup.new _ _⟩)
  exact ⟨.ref h'.objs.size, _, I2, rfl, q _ (I1.hok.fresh (Nat.le_refl _))⟩
 ·obtain ⟨its, r', pl, hz⟩ := I.tuple hq
  exact call_tuple_same pl ⟨.ref p, H, I, rfl, q⟩
def tyV (K : W.Frag) (T : String) (x : V) (H : Hp) : Prop := match x with
 | .str _ => T = "str"
 | .int _ => T = "int"
 | .ref p => (T = "list" /\ ∃ xs, SqL K H p xs) \/ (T = "tuple" /\ ∃ o, K.lookup p = some o /\ o.cls = .type "tuple" /\ o.dict = none) \/
   (T = "dict" /\ ((∃ kvs, H p = some (.dK kvs)) \/ ∃ kvs, H p = some (.dT kvs))) \/ (T = "set" /\ ∃ S n, H p = some (.set S n))
 | _ => False
theorem tyV_is {pins : List (Addr × Obj)} {σ : St} {H : Hp} {s : Shared} {T : String} {x : V} {v : Value} (I : Inv X pins σ H s) (r : RelV x v) (ty : tyV X.K T x H) :
  s.TypeIs v T /\ ∀ a, v = .ref a -> ∃ ob, s.heap.get? a = some ob /\ ob.dict = none := by
 cases x with
 | str z =>
  obtain ⟨t, rfl⟩ := r
  cases (show T = "str" from ty)
  exact ⟨typeIs_str s z t, fun _ e => nomatch e⟩
 | int i =>
  obtain ⟨t, rfl⟩ := r
  cases (show T = "int" from ty)
  exact ⟨typeIs_int s i t, fun _ e => nomatch e⟩
 | ref p =>
  cases r
  rcases ty with ⟨rfl, xs, hq⟩ | ⟨rfl, o, hk, hc, hd⟩ | ⟨rfl, hk⟩ | ⟨rfl, S, n, hk⟩
  ·obtain ⟨its, _, pl, _⟩ := I.list hq
   refine ⟨pl.isList.typeIs, fun a e => ?_⟩
   cases e
   obtain ⟨o, n, e, c, hd, _⟩ := pl
   exact ⟨o, e, hd⟩
  ·refine ⟨⟨o, I.kIn p o hk, hc⟩, fun a e => ?_⟩
   cases e
   exact ⟨o, I.kIn _ o hk, hd⟩
  ·have z : ∃ o, s.heap.get? p = some o /\ o.ExactDict := by
    rcases hk with ⟨kvs, hk⟩ | ⟨kvs, hk⟩
    ·obtain ⟨_, _, _, _, o, _, _, e, ex, _⟩ := I.hok p _ hk
     exact ⟨o, e, ex⟩
    ·obtain ⟨_, _, _, _, o, _, _, e, ex, _⟩ := I.hok p _ hk
     exact ⟨o, e, ex⟩
   obtain ⟨o, e, ex⟩ := z
   refine ⟨⟨o, e, ex.1⟩, fun a e2 => ?_⟩
   cases e2
   exact ⟨o, e, ex.2.1⟩
  ·obtain ⟨o, _, _, _, e, ex, _⟩ := I.hok p _ hk
   refine ⟨⟨o, e, ex.1⟩, fun a e2 => ?_⟩
   cases e2
   exact ⟨o, e, ex.2.1⟩
 | _ => exact False.elim ty
def tBM (K : W.Frag) (T : String) (r : V -> List V -> Hp -> VK -> Prop) (to : TE) (t : TA) : TE := fun σ H Q => to σ H fun x H1 => tyV K T x H1 /\ t σ H1 fun xs H2 => r x xs H2 Q
variable {o e : Expr} {es : List Expr} {to : TE} {t : TA} {name : Str} {apos cpos : Pos} {T id : String} {r : V -> List V -> Hp -> VK -> Prop}
theorem pe_bm (pa : PlainAttrs T) (slot : Slot T name id) (hty : typeOf (.builtin id) = pure (.type "method_descriptor")) (hm : MtR X id r) (ho : PE X o to) (ha : PA X (e :: es) t)
  (hbase : attributeBase o name X.env (eval o X.env) = eval o X.env := by rfl)
  (hfew : ((backTo cpos (starEach (e :: es) X.env)).all (fun x => !x.1) && (backToKw cpos (keywordEach [] X.env)).all (fun x => x.1.isSome)
   && decide ((e :: es).length + ([] : List Keyword).length + (if ([] : List Keyword).isEmpty then 0 else 1) < 30)) = true := by rfl)
  (hline : (apos.endLine == cpos.line) = true := by rfl) (hs : starEach (e :: es) X.env = (false, eval e X.env) :: starEach es X.env := by rfl) (hplain : (backTo cpos (starEach es X.env)).any (·.1) = false := by rfl) :
  PE X (.Call (.Attribute o name apos) (e :: es) [] cpos) (tBM X.K T r to t) := by
 intro pins s σ H Q I h
 refine wpAny_Call_method_late hbase hfew hline rfl (thn (ho pins s σ H _ I h) fun v s1 hpt9 => ?_)
 obtain ⟨x, H1, I1, r1, ty, q1⟩ := hpt9
 obtain ⟨h1, h2⟩ := tyV_is I1 r1 ty
 refine ⟨T, id, pa, slot, hty, h1, h2, ?_⟩
 have hA := ha cpos pins s1 σ H1 _ I1 q1
 rw [hs] at hA ⊢
 refine Calls.callWith_builtin (by show (false || (backTo cpos (starEach es X.env)).any (·.1)) = false; rw [hplain] <;> rfl) (Calls.evalArgs_plain ?_)
 exact thn hA fun us s2 ⟨vs, H2, I2, r2, q2⟩ => hm pins s2 σ H2 x vs v us Q I2 r1 r2 q2
end
def MtM (X : Cx) (id : String) (r : V -> List V -> Hp -> VK -> Prop) : Prop :=
 ∀ (pins : List (Addr × Obj)) (s : Shared) (σ : St) (H : Hp) (x : V) (xs : List V) (v : Value) (us : List Value) (Q : VK), Inv X pins σ H s -> RelV x v -> Vals xs us -> r x xs H Q ->
  wpAny (model X.prog X.w) X.A (call (.builtin id) (v :: us)) (EP X pins σ Q) X.xe s
theorem Vals.one {x : V} {us : List Value} (h : Vals [x] us) : ∃ u, us = [u] /\ RelV x u := by
 cases h with
 | cons r t => cases t; exact ⟨_, rfl, r⟩
theorem Vals.two {x y : V} {us : List Value} (h : Vals [x, y] us) : ∃ u v, us = [u, v] /\ RelV x u /\ RelV y v := by
 cases h with
 | cons r t =>
  cases t with
  | cons q t => cases t; exact ⟨_, _, rfl, r, q⟩
section
variable {X : Cx} {pins : List (Addr × Obj)} {σ : St} {H : Hp} {s : Shared} {l b : Addr} {xs ys zs : List V}
theorem Inv.lset {its its' : List Value} {n : Nat} {f : Array Value -> Array Value} {t' : Nat} (I : Inv X pins σ H s) (hH : H l = some (.lst xs))
  (e : s.heap.get? l = some { cls := .type "list", data := .seq its.toArray n }) (hf : f its.toArray = its'.toArray) (hv : Vals ys its') (hz : ys.length <= sizeLine) :
  Inv X pins σ (upd H l (.lst ys)) { s with heap := s.heap.update l (Obj.mapSeq f), toks := t' } := by
 have q := PySem.IsL.update e f
 rw [hf] at q
 refine I.write (x := l) (e := l) (by rw [hH]; exact trivial) (.inl rfl) (fun b' u hb hu => (Heap.get?_update_other s.heap (Obj.mapSeq f) (Ne.symm hb)).trans hu) ⟨_, q⟩ ?_
 exact ⟨hz, its', _, hv, q⟩
theorem Inv.lnew {its : List Value} {t' : Nat} (I : Inv X pins σ H s) (hv : Vals ys its) (hz : ys.length <= sizeLine) :
  Inv X pins σ (upd H s.heap.objs.size (.lst ys)) { s with heap := s.heap.push { cls := .type "list", data := .seq its.toArray }, toks := t' } :=
 I.laid (fun _ _ q => Heap.get?_push_of_some _ q) (Nat.le_refl _) ⟨hz, its, 0, hv, Heap.get?_push_size _ rfl⟩
theorem Inv.fresh (I : Inv X pins σ H s) : H s.heap.objs.size = none := I.hok.fresh (Nat.le_refl _)
theorem Inv.lstM (I : Inv X pins σ H s) (hH : H l = some (.lst xs)) : xs.length <= sizeLine /\ ∃ (its : List Value) (n : Nat), Vals xs its /\ xs.length = its.length /\ s.heap.get? l = some { cls := .type "list", data := .seq its.toArray n } := by
 obtain ⟨z, its, n, r, e⟩ := I.hok l _ hH
 exact ⟨z, its, n, r, r.length, e⟩
theorem notLongL {n : Nat} (h : n <= sizeLine) : Builtin.List.listTooLong n = false := by
 unfold Builtin.List.listTooLong
 exact decide_eq_false (by lia)
end
section
variable {X : Cx}
def rAppend : V -> List V -> Hp -> VK -> Prop := fun x vs H Q => ∃ l xs y, x = .ref l /\ vs = [y] /\ H l = some (.lst xs) /\ xs.length < sizeLine /\ Q .non (upd H l (.lst (xs ++ [y])))
theorem mt_append : MtM X "list.append" rAppend := by
 intro pins s σ H x vs v us Q I rx rv h
 obtain ⟨l, xs, y, rfl, rfl, hH, hz, q⟩ := h
 cases rx
 obtain ⟨u, rfl, ru⟩ := rv.one
 obtain ⟨z, its, n, r, hl, e⟩ := I.lstM hH
 refine call_meets F.slot_list_append ⟨_, e, rfl⟩ F.entry_list_append (F.args_list_append_2 _ _) (PySem.list_append l its.toArray n u (by rw [List.size_toArray]; lia)) ⟨e, ?_⟩
 refine ⟨.non, _, I.lset (its' := its ++ [u]) hH e (by simp) (r.append (.cons ru .nil)) ?_, rfl, q⟩
 rw [List.length_append, List.length_singleton]
 lia
end
section
variable {prog : Program} {w : World} {A : Around} {E : Value -> Shared -> Prop} {s : Shared}
end
section
variable {X : Cx}
end
end L2
namespace Att
open PySem PySem.W PySem.Calls PyProof.Rows
theorem ints_of_wellAll {P : Params} {h : Heap} : ∀ (ns : List Int) (vs : List Value), WellAll P h vs (ns.map WData.int) -> IntsAre vs ns := by
 intro ns
 induction ns with
 | nil =>
  intro vs w
  rw [List.map_nil] at w
  cases w
  exact .nil
 | cons n ns ih =>
  intro vs w
  rw [List.map_cons] at w
  cases w with
  | cons a b =>
   cases a
   exact .cons _ _ (ih _ b)
theorem script_of {l : OpenLaw} {n : Nat} (hn : l.most = some n) {P : Params} {h : Heap} {args : List WData} {vals : List Value}
  (hpre : l.row.toRowW.claim.pre args = true) (hwl : WellAll P h vals args) :
  ∃ a vs ns, vals = [Value.ref a] /\ args = [WData.list (ns.map WData.int)] /\ h.get? a = some { cls := .type "list", data := .seq vs.toArray } /\ IntsAre vs ns /\ ns.length <= n := by
 have hsh : WShape.hasAll [] args [.list .int] = true := (pre_splitW hpre).1
 have hc : l.pre.holds [] { args := args } = true := (pre_splitW hpre).2
 obtain ⟨d, r, rfl, h1, h2⟩ := hasAllW_cons hsh
 obtain rfl := hasAllW_nil h2
 obtain ⟨xs, rfl, h3⟩ := hasW_list h1
 obtain ⟨ns, rfl⟩ := items_int h3
 have hlen : ns.length <= n := by
  unfold OpenLaw.pre at hc
  have h4 : (WTm.not (.lt (.lit (.int (n : Int))) (.len (.arg 0)))).holds [] { args := [.list (ns.map .int)] } = true := by
   have h4 := (holds_andW hc).1
   rw [hn] at h4
   exact h4
  have h5 := condW_of h4 (w_not (w_lt w_lit (w_len_list (w_arg rfl))))
  rw [List.length_map] at h5
  refine Nat.le_of_not_lt fun q => ?_
  have q' : (n : Int) < ((ns.length : Nat) : Int) := by omega
  first
   | (rw [decide_eq_true q'] at h5; exact absurd h5 (by decide))
   | (simp at h5; omega)
 cases hwl with
 | cons w1 w2 =>
  cases w2
  cases w1 with
  | list ho hall => exact ⟨_, _, ns, rfl, rfl, ho, ints_of_wellAll ns _ hall, hlen⟩
theorem post_true (l : OpenLaw) (args : List WData) : l.row.toRowW.claim.post args (.bool true) args = true :=
 postW_of (r := l.row.toRowW) (X := (true == true))
  (show WShape.has [] (.bool true) .bool = true by first | rfl | decide | simp [WShape.has, WShape.arms, WShape.armsAll])
  (show (WTm.eq .res (.lit (.bool true))).value [] { args := args, res := some (.bool true), after := args } = some (.bool (true == true)) from w_eq_bool (w_res rfl) w_lit) rfl
theorem attach_call {l : OpenLaw} {n : Nat} {q : Program} {loose : List Str} {XP : (Str -> Option Value) -> Heap -> Prop} {YP : World -> Heap -> Prop} {d : DefRec}
  (hn : l.most = some n) (hdf : d.params.defaults = [])
  (call : ∀ (w : World) (s₀ s₁ : Shared) (mg mb : Str -> Option Value) (fa : Addr) (o : Obj) (pm cd doc : Value) (a : Addr) (vs : List Value) (ns : List Int),
   Ground q loose [] XP w s₀ mg mb s₁.heap -> YP w s₁.heap ->
   s₁.heap.get? fa = some o -> o.data = .func (docDef d.name d.params d.body d.scope pm cd doc) -> s₁.heap.CodeRec cd d.name -> mg d.name = some (.ref fa) ->
   s₁.heap.get? a = some { cls := .type "list", data := .seq vs.toArray } -> IntsAre vs ns -> ns.length <= n -> s₁.gens = #[] ->
   codeAny (model l.prog w) callerA (.call (.ref fa) ⟨[.ref a], []⟩) (fun r s' => r = .ok (.ret (.bool true)) /\ OldK s₁.heap s'.heap /\ s'.os = s₁.os /\ AllBare s'.gens) s₁) :
  WalkO q loose XP YP l.row.toRowW d [] (fun f vs => PySem.call f vs) := by
 intro w s₀ s₁ mg mb G Y fa o pm cd doc dV kV ho hd hcd hD hmg hg args vals as hpre hlay hrd hwl hlo
 obtain rfl : dV = .none := Dflts.none hD hdf
 obtain rfl : kV = .none := Dflts.noKw hD
 obtain ⟨a, vs, ns, rfl, rfl, hobj, hints, hlen⟩ := script_of hn hpre hwl
 refine enter_call (codeAny_mono (call w s₀ s₁ mg mb fa o pm cd doc a vs ns G Y ho (fd_plain hd) hcd hmg hobj hints hlen hg) fun r s' hq => ?_)
 obtain ⟨rfl, h2, h3, h4⟩ := hq
 exact ⟨.inl ⟨.bool true, .bool true, [], rfl, fun _ => rfl, .bool true, post_true l _, fun _ => ⟨List.Pairwise.nil, fun _ hm => (nomatch hm)⟩⟩, h2, h3, h4⟩
section
variable {prog : Program} {w : World} {A : Around} {E : Value -> Shared -> Prop} {s : Shared} {K : Frag}
end
end Att
namespace L2
open PySem PySem.Spec PyProof.Rows
theorem vals_ints : ∀ {vs : List Value} {ns : List Int}, IntsAre vs ns -> Vals (ns.map V.int) vs
 | _, _, .nil => .nil
 | _, _, .cons n t h => .cons ⟨t, rfl⟩ (vals_ints h)
def Only (H : Hp) : Prop := ∀ b, H b = none \/ ∃ o xs, H b = some (.frz o (.lst xs))
theorem law_call {P : Program} {w : World} {K : W.Frag} {mg mb : Str -> Option Value} {CX : CXT} {k : Nat} {fa a : Addr} {fd : FuncData} {x : Str} {sp : Sp} {s₁ : Shared} {vs : List Value} {ns : List Int}
  (KX : K.In s₁.heap) (hns : s₁.heap.Ns mainGlobals mg) (hb : s₁.heap.Ns builtinsNs mb) (hbb : ∀ x : Str, x ≠ "__name__" -> mb x = bootBuiltins x) (hlim : s₁.heap.NoLimit) (hg : s₁.gens = #[])
  (ha : s₁.heap.get? a = some { cls := .type "list", data := .seq vs.toArray }) (hi : IntsAre vs ns) (hl : ns.length <= sizeLine) (hr : Room k callerA)
  (F : ∀ base : Heap, K.In base -> base.Ns mainGlobals mg -> FnOk P w K mg base CX k fa fd [x] sp) (hbind : ∀ (s : Shared) (u : Value), BindsTo s fd ⟨[u], []⟩ [(x, u)])
  (hsp : ∀ H : Hp, Only H -> SqL K H a (ns.map V.int) -> sp [.ref a] H (fun v _ => v = .bl true) fun _ _ _ => False)
  (hCX : ∀ H e s', CX [] H s₁ (fun _ _ _ => False) e s' -> False) :
  codeAny (model P w) callerA (.call (.ref fa) ⟨[.ref a], []⟩) (fun r s' => r = .ok (.ret (.bool true)) /\ OldK s₁.heap s'.heap /\ s'.os = s₁.os /\ AllBare s'.gens) s₁ := by
 have rv := vals_ints hi
 have lenV := hi.length
 -- from an abstract heap in which nothing but the script may be tracked
 have core : ∀ H : Hp, Only H -> SqL K H a (ns.map V.int) -> HOk P w H s₁.heap -> (∀ b, H b ≠ none -> b = a) -> (H a ≠ none -> K.lookup a = none) ->
   codeAny (model P w) callerA (.call (.ref fa) ⟨[.ref a], []⟩) (fun r s' => r = .ok (.ret (.bool true)) /\ OldK s₁.heap s'.heap /\ s'.os = s₁.os /\ AllBare s'.gens) s₁ := by
  intro H hO hS hok hA hK
  have base_of : ∀ {b : Addr} {o : Obj}, s₁.heap.get? b = some o -> H b = none -> (hidT s₁.heap H).get? b = some o := fun e n => hidT_get e n
  have noA : ∀ {b : Addr} {o : Obj} {es : Array DictEntry} {ep : Nat}, s₁.heap.get? b = some o -> o.data = .dict es ep -> H b = none := fun {b o es ep} e d => by
   cases q : H b with
   | none => rfl
   | some u =>
    have e' : b = a := hA b (by rw [q]; simp)
    subst e'
    rw [ha] at e; cases e
    have d' : Data.seq vs.toArray _ = Data.dict es ep := d
    cases d'
  have nsK : ∀ {b : Addr} {m : Str -> Option Value}, s₁.heap.Ns b m -> (hidT s₁.heap H).Ns b m := fun {b m} ⟨o, es, ep, e, d, r⟩ => ⟨o, es, ep, base_of e (noA e d), d, r⟩
  have hKb : K.In (hidT s₁.heap H) := fun b o e => base_of (KX b o e) (by
   cases q : H b with
   | none => rfl
   | some u =>
    have e' : b = a := hA b (by rw [q]; simp)
    subst e'
    rw [hK (by rw [q]; simp)] at e; cases e)
  have hM : Mod K mg (hidT s₁.heap H) := ⟨hKb, nsK hns, ⟨mb, nsK hb, hbb⟩, let ⟨mc, h1, h2⟩ := hlim; ⟨mc, nsK h1, h2⟩⟩
  have e0 : Env0 P w K mg (hidT s₁.heap H) callerA [] s₁ H := ⟨rfl, hM, fun b o e => of_hidT e, Nat.le_of_eq (hidT_size _ _), trivial, fun b hb => absurd (show b ∈ ([] : List Addr) from hb) (by simp), hok, .of_eq hg⟩
  refine codeAny_mono ((F _ hKb (nsK hns)).run callerA [] s₁ H ⟨[.ref a], []⟩ [.ref a] [.ref a] _ _ hr e0 (hbind s₁ (.ref a)) (.cons rfl .nil) (hsp H hO hS)) fun r s' h => ?_
  cases r with
  | error e => exact (hCX H e s' h).elim
  | ok fl =>
   cases fl with
   | next => exact False.elim h
   | brk => exact False.elim h
   | cont => exact False.elim h
   | ret u =>
    obtain ⟨v, H', os, bare, un, hok', r', q⟩ := h
    have q' : v = .bl true := q
    subst q'
    obtain rfl : u = Value.bool true := r'
    refine ⟨rfl, OldK.of_keep fun b o e => ?_, os, bare⟩
    cases q : H b with
    | none => exact un.keep b o e q (by intro z; exact absurd (show b ∈ ([] : List Addr) from z) (by simp)) (by simp)
    | some u =>
     rcases hO b with z | ⟨ob, xs, z⟩
     ·rw [q] at z; cases z
     ·have z2 := un.frzs b ob _ z
      obtain ⟨e1, _⟩ := hok b _ z
      obtain ⟨e2, _⟩ := hok' b _ z2
      rw [e] at e1; cases e1
      exact e2
 cases hk : K.lookup a with
 | some o =>
  -- the script is one of the module's own objects
  have e := KX a o hk
  rw [ha] at e
  cases e
  refine core (fun _ => none) (fun _ => .inl rfl) (.inr ⟨_, vs.toArray, _, hk, rfl, rfl, rfl, by rw [List.size_toArray, lenV]; exact hl, by simpa using rv⟩) (fun b u z => by have z' : (none : Option HO) = some u := z; cases z') (fun b z => absurd rfl z) fun z => absurd rfl z
 | none =>
  refine core (fun b => if b = a then some (.frz { cls := .type "list", data := .seq vs.toArray } (.lst (ns.map V.int))) else none) (fun b => ?_) (.inl (.inr ⟨{ cls := .type "list", data := .seq vs.toArray }, if_pos rfl⟩)) (fun b u z => ?_) (fun b z => ?_) fun _ => hk
  ·by_cases hb : b = a
   ·exact .inr ⟨_, _, if_pos hb⟩
   ·exact .inl (if_neg hb)
  ·by_cases hb : b = a
   ·have z' := (if_pos hb).symm.trans z
    cases z'
    subst hb
    exact ⟨ha, by rw [List.length_map]; exact hl, vs, _, rv, ha⟩
   ·have z' := (if_neg hb).symm.trans z
    cases z'
  ·by_cases hb : b = a
   ·exact hb
   ·exact absurd (if_neg hb) z
theorem walk_of {l : W.OpenLaw} {n k : Nat} {q : Program} {loose : List Str} {XP : (Str -> Option Value) -> Heap -> Prop} {YP : World -> Heap -> Prop} {d : DefRec} {K : Params -> W.Frag} {CX : World -> CXT} {sp : World -> Sp} {x : Str}
  (hn : l.most = some n) (hn2 : n <= sizeLine) (hdf : d.params.defaults = []) (hr : Room k callerA)
  (hY : ∀ (w : World) (h : Heap), YP w h -> (K w.params).In h)
  (F : ∀ (w : World) (mg : Str -> Option Value) (fa : Addr) (h : Heap), (K w.params).In h -> h.Ns mainGlobals mg -> mg d.name = some (.ref fa) ->
   ∃ fd : FuncData, (∀ (s : Shared) (u : Value), BindsTo s fd ⟨[u], []⟩ [(x, u)]) /\
    ∀ base : Heap, (K w.params).In base -> base.Ns mainGlobals mg -> FnOk l.prog w (K w.params) mg base (CX w) k fa fd [x] (sp w))
  (hsp : ∀ (w : World) (H : Hp) (a : Addr) (ns : List Int), ns.length <= n -> Only H -> SqL (K w.params) H a (ns.map V.int) -> sp w [.ref a] H (fun v _ => v = .bl true) fun _ _ _ => False)
  (hCX : ∀ (w : World) (H : Hp) (s : Shared) (e : Value) (s' : Shared), CX w [] H s (fun _ _ _ => False) e s' -> False) :
  W.WalkO q loose XP YP l.row.toRowW d [] (fun f vs => PySem.call f vs) := by
 refine Att.attach_call hn hdf fun w s₀ s₁ mg mb fa o pm cd doc a vs ns G Y ho hd hcd hmg hobj hints hlen hg => ?_
 have KX := hY w _ Y
 obtain ⟨fd, hb, hF⟩ := F w mg fa _ KX G.T.g hmg
 exact law_call KX G.T.g G.T.b G.T.builtins G.T.nolimit hg hobj hints (Nat.le_trans hlen hn2) hr hF hb (fun H hO hS => hsp w H a ns hlen hO hS) fun H e s' => hCX w H s₁ e s'
def inClass (s : Stmt) (j : Nat) : Stmt := match s with
 | .ClassDef _ _ _ body _ _ _ _ _ _ _ => body.getD j (.Pass ⟨0, 0, 0, 0⟩)
 | _ => .Pass ⟨0, 0, 0, 0⟩
def defArgs (s : Stmt) : Arguments := match s with
 | .FunctionDef _ a _ _ _ _ _ _ _ _ => a
 | _ => { posonlyargs := [], args := [], vararg := none, kwonlyargs := [], kw_defaults := [], kwarg := none, defaults := [] }
def defBody (s : Stmt) : List Stmt := match s with
 | .FunctionDef _ _ b _ _ _ _ _ _ _ => b
 | _ => []
def defScope (s : Stmt) : Scope := match s with
 | .FunctionDef _ _ _ _ _ _ sc _ _ _ => sc
 | _ => { kind := .function, names := [], isGenerator := false, isCoroutine := false }
abbrev CX0 : CXT := fun _ _ _ _ _ _ => False
abbrev E0 : XK := fun _ _ _ => False
theorem pass0 {X : Cx} : Passes CX0 X E0 := fun _ _ _ _ _ _ _ h => h.elim
structure Fun (K : W.Frag) (x qual : Str) (st : Stmt) (f : Addr) (fd : FuncData) : Prop where
 ex : ∃ (oc : Value) (od : Option Addr) (kV doc pm : Value) (an : Option Addr) (cdv ct : Value) (osl : Array (Option Value)),
  fd = W.fnOf x qual (defArgs st) (defBody st) (defScope st) .none kV doc pm an cdv ct /\ K.lookup f = some ⟨oc, od, .func fd, osl⟩ /\ W.codeIn K cdv qual = true
 kp : W.keepIn K (.ref f) = true
section
variable {P : Program} {w : World} {K : W.Frag} {mg : Str -> Option Value} {base : Heap}
theorem Fun.ok {x qual : Str} {st : Stmt} {f : Addr} {fd : FuncData} {N ps : List Str} {k : Nat} {sp : Sp} (F : Fun K x qual st f fd) (S : FnScope N ps (defScope st)) (len : ∀ vs H Q E, sp vs H Q E -> vs.length = ps.length)
  (hbody : ∀ (cdv : Value) (A : Around) (outer : List Env) (s : Shared) (H : Hp) (vs : List V) (Q : VK) (E : XK), Room k (A.deeper (envOfC qual (defScope st) s.heap.objs.size f cdv)) -> sp vs H Q E ->
   ∃ t, PSs (cxOf CX0 P w K mg base N qual (defScope st) f cdv A outer s H E).nox (defBody st) t /\ t { nx := fun _ H' => Q .non H', rt := Q } (start N vs) H) : FnOk P w K mg base CX0 (k + 1) f fd ps sp := by
 obtain ⟨oc, od, kV, doc, pm, an, cdv, ct, osl, rfl, lk, hcd⟩ := F.ex
 refine fn_of lk hcd S len fun A outer s H vs Q E hr hsp => ?_
 obtain ⟨t, h, q⟩ := hbody cdv A outer s H vs Q E hr hsp
 exact ⟨t, h.nox, q⟩
theorem Fun.binds {x qual : Str} {st : Stmt} {f : Addr} {fd : FuncData} {ps : List Str} (F : Fun K x qual st f fd)
  (h : ∀ (kV doc pm : Value) (an : Option Addr) (cdv ct : Value) (us : List Value), us.length = ps.length -> bindArgs (W.fnOf x qual (defArgs st) (defBody st) (defScope st) .none kV doc pm an cdv ct) ⟨us, []⟩ = pure (ps.zip us)) : Binds K fd ps [] := by
 obtain ⟨oc, od, kV, doc, pm, an, cdv, ct, osl, rfl, lk, hcd⟩ := F.ex
 exact .all (h kV doc pm an cdv ct)
theorem fun_mk {x qual : Str} {st : Stmt} {f : Addr} {oc : Value} {od an : Option Addr} {osl : Array (Option Value)} {kV doc pm cdv ct : Value} (l : K.lookup f = some ⟨oc, od, .func (W.fnOf x qual (defArgs st) (defBody st) (defScope st) .none kV doc pm an cdv ct), osl⟩)
  (c : W.codeIn K cdv qual = true) (k : W.keepIn K (.ref f) = true) : Fun K x qual st f (W.fnOf x qual (defArgs st) (defBody st) (defScope st) .none kV doc pm an cdv ct) := ⟨⟨oc, od, kV, doc, pm, an, cdv, ct, osl, rfl, l, c⟩, k⟩
end
section
variable {X : Cx}
theorem pv (i : Nat) {x : Str} {pos : Pos} (hN : X.N[i]? = some x := by rfl) (hv : Vis X.env.scope x := by first | exact Or.inl rfl | exact Or.inr (.inl rfl) | exact Or.inr (.inr rfl)) (hd : (x == ("__debug__" : Str)) = false := by decide)
  (hcd : (x == ("__classdict__" : Str)) = false := by decide) : PE X (.Name x pos) (tVar i) := pe_var hN hv hd hcd
end
theorem iteF {A B : Prop} (h : B) : if false = true then A else B := by
 rw [if_neg Bool.false_ne_true]
 exact h
theorem iteT {A B : Prop} (h : A) : if true = true then A else B := by
 rw [if_pos rfl]
 exact h
def Same (H H' : Hp) : Prop := ∀ b o, H b = some o -> H' b = some o
theorem Same.refl (H : Hp) : Same H H := fun _ _ h => h
theorem Same.trans {H H1 H2 : Hp} (a : Same H H1) (b : Same H1 H2) : Same H H2 := fun c o h => b c o (a c o h)
theorem Same.free {H H' : Hp} (e : Same H H') {l : Addr} (h : H' l = Option.none) : H l = Option.none := by
 cases q : H l with
 | none => rfl
 | some o =>
  rw [e l o q] at h
  cases h
end L2
set_option linter.all false
set_option maxHeartbeats 4000000
set_option maxRecDepth 100000
namespace Hd
open PySem PySem.W PySem.Calls PyProof.Rows
def runP (stp : SharedT -> Thread -> Option (SharedT × Thread)) (ok : Thread -> Bool) : Nat -> SharedT -> Thread -> Option SharedT
 | 0, _, _ => none
 | n + 1, s, t => match through t with
  | true => some s
  | false => match ok t with
   | false => none
   | true => match stp s t with
    | some (s', t') => runP stp ok n s' t'
    | none => none
theorem runP_spec {tb : String -> Option Builtin} {p : Program} {w : World} {n₀ : Nat} {ann : Option Value} : ∀ (n : Nat) (s : SharedT) (t : Thread) (r : SharedT), runP (stepT (denote tb) p w) (stepOk n₀ ann) n s t = some r -> topRun tb p w n₀ ann n s.abs t = some r.abs
 | 0, _, _, _, h => by cases h
 | n + 1, s, t, r, h => by
  unfold runP at h
  unfold topRun
  cases ht : through t with
  | true => rw [ht] at h; cases h; rfl
  | false =>
   rw [ht] at h
   cases hk : stepOk n₀ ann t with
   | false => rw [hk] at h; cases h
   | true =>
    rw [hk] at h
    cases hs : stepT (denote tb) p w s t with
    | none => rw [hs] at h; cases h
    | some x =>
     obtain ⟨s', t'⟩ := x
     rw [hs] at h
     rw [stepT_spec hs]
     exact runP_spec n s' t' r h
def treeOf : List Obj -> Nat -> BT -> BT
 | [], _, t => t
 | o :: l, n, t => treeOf l (n + 1) (t.ins n o)
def T0 (P : Params) : BT := treeOf (boot_heap P).objs.toList 0 .nil
theorem T0_is (P : Params) : absHeap (T0 P) 11 (boot_heap P).life = boot_heap P := by kernel_rfl
theorem sz (P : Params) : ((boot_heap P).isNs mainGlobals, (boot_heap P).objs.size, (boot_heap P).nsMap mainGlobals "__annotations__") = (true, 11, some (.ref 6)) := by kernel_rfl
def S0 (w : World) (os : OsState) : SharedT := ⟨T0 w.params, 11, (boot_heap w.params).life, Array.mk [], boot_drawn, boot_toks, os⟩
theorem left_of {p q : Program} {loose : List Str} {Xt : Shared -> Bool} {α : Type} {Yf : Shared -> α} {Ya : World -> α} {N M : Nat} {g0 : Bool}
  (open_ : ∀ w : World, (fencedOpening treeTable p w N).map (fun s => (s.heap, s.gens, s.drawn, s.toks)) = some (boot_heap w.params, Array.mk [], boot_drawn, boot_toks)) (le : Nat.ble M N = true)
  (big : ∀ w : World, (fun os => (runP (stepT (denote treeTable) p w) (stepOk 11 (some (.ref 6))) M (S0 w os) (topStub p)).map fun r => ((staticsOk (importedModules p.main.body) (boot_heap w.params) r.abs.heap && namesBound p r.abs.heap && gensDone r.abs && laidKept (boot_heap w.params) r.abs.heap),
    openSeen q loose (importedModules p.main.body) Xt g0 r.abs, Yf r.abs)) = fun _ => some (true, openGood q loose, Ya w)) : LeftO p q loose Xt Yf Ya N g0 := fun w => by
 obtain ⟨⟨h, gs, d, k, os⟩, e, e'⟩ := Option.map_eq_some_iff.mp (open_ w)
 obtain ⟨rfl, rfl, rfl, rfl⟩ : h = boot_heap w.params /\ gs = Array.mk [] /\ d = boot_drawn /\ k = boot_toks := by simpa using e'
 obtain ⟨z1, z2, z3⟩ : _ /\ _ /\ _ := by simpa only [Prod.mk.injEq] using sz w.params
 obtain ⟨r, hr, hb⟩ := Option.map_eq_some_iff.mp (congrFun (big w) os)
 obtain ⟨l1, l2, l3⟩ : _ /\ _ /\ _ := by simpa only [Prod.mk.injEq] using hb
 have ha : (S0 w os).abs = ⟨boot_heap w.params, Array.mk [], boot_drawn, boot_toks, os⟩ := by
  unfold S0 SharedT.abs
  dsimp only
  rw [T0_is]
 have t := topRun_mono (N - M) _ _ _ _ (runP_spec _ _ _ _ hr)
 rw [show M + (N - M) = N by have := Nat.le_of_ble_eq_true le; lia, ha] at t
 have t2 : topFrom treeTable p w N ⟨boot_heap w.params, Array.mk [], boot_drawn, boot_toks, os⟩ = some r.abs := by
  unfold topFrom
  dsimp only
  rw [z1, z2, z3, t]
  show (match staticsOk (importedModules p.main.body) (boot_heap w.params) r.abs.heap && namesBound p r.abs.heap && gensDone r.abs && laidKept (boot_heap w.params) r.abs.heap with | true => _ | false => _) = _
  rw [l1]
 unfold openEnds
 rw [e]
 show (topFrom treeTable p w N _).map _ = _
 rw [t2]
 exact congrArg some (Prod.ext l2 l3)
theorem left_tw {p q : Program} {loose : List Str} {Xt : Shared -> Bool} {α : Type} {Yf : Shared -> α} {Ya : World -> α} {g0 : Bool}
  (open_ : ∀ w : World, (fencedOpening treeTable p w 100000).map (fun s => (s.heap, s.gens, s.drawn, s.toks)) = some (boot_heap w.params, Array.mk [], boot_drawn, boot_toks))
  (big : ∀ w : World, (fun os => (runP (Fast.tw10156331382660048174 (Fast.tw11892475500146522536 Fast.tw14364793385576792824) p w) (Fast.tw6613529449190102663 11 (some (.ref 6))) 100000 (S0 w os) (topStub p)).map fun r => ((staticsOk (Fast.tw5923862056798008813 p.main.body) (boot_heap w.params) r.abs.heap && namesBound p r.abs.heap && gensDone r.abs && laidKept (boot_heap w.params) r.abs.heap),
    Fast.tw4187177175401517315 q loose (Fast.tw5923862056798008813 p.main.body) Xt g0 r.abs, Yf r.abs)) = fun _ => some (true, openGood q loose, Ya w)) : LeftO p q loose Xt Yf Ya 100000 g0 := by
 rw [<- Fast.te10156331382660048174, <- Fast.te11892475500146522536, <- Fast.te14364793385576792824, <- Fast.te6613529449190102663, <- Fast.te5923862056798008813, <- Fast.te4187177175401517315] at big
 exact left_of open_ rfl big
theorem said_of {l : OpenLaw} (h : Fast.tw9446332074065402090 l = true) : l.wellSaid = true := by
 rw [Fast.te9446332074065402090]
 exact h
end Hd
namespace L2
open PySem PySem.Spec PyProof.Rows
structure CmpOk (XN : List Str) (sc scope : Scope) (N : List Str) (js : List (Option Nat)) : Prop where
 kind : scope.kind = .function
 cell : ∀ y ∈ scope.names, y.2 ≠ .cell
 free : ∀ y ∈ scope.names, y.2 = .free -> sc.names.lookup y.1 = some .cell \/ sc.names.lookup y.1 = some .free
 loc : ∀ y ∈ scope.names, y.2 = .local -> scope.names.lookup y.1 = some .local
 len : js.length = N.length
 ix : ((N.zip js).all fun p => match p.2 with | none => true | some j => decide (XN[j]? = some p.1) && decide (scope.names.lookup p.1 = some .free)) = true
def clOf (env : Env) : List (Str × NameKind) -> List (Str × Addr) -> List (Str × Addr)
 | [], cs => cs
 | (n, k) :: r, cs => clOf env r (if k = .free then (match env.cells.lookup n with | some c => (n, c) :: cs | none => cs) else cs)
theorem clOf_sub {env : Env} : ∀ {names : List (Str × NameKind)} {cs : List (Str × Addr)}, (∀ n c, cs.lookup n = some c -> env.cells.lookup n = some c) -> ∀ n c, (clOf env names cs).lookup n = some c -> env.cells.lookup n = some c
 | [], _, h => h
 | (m, k) :: r, cs, h => by
  unfold clOf
  refine clOf_sub ?_
  split
  ·cases e : env.cells.lookup m with
   | none => exact h
   | some d =>
    intro n c hn
    dsimp only at hn
    rw [List.lookup_cons] at hn
    cases q : n == m with
    | true =>
     rw [q] at hn
     have e1 : n = m := by simpa using q
     cases hn
     rw [e1]; exact e
    | false => rw [q] at hn; exact h n c hn
  ·exact h
theorem clOf_has {env : Env} : ∀ {names : List (Str × NameKind)} {cs : List (Str × Addr)} {n : Str}, ((n, NameKind.free) ∈ names /\ (∃ c, env.cells.lookup n = some c)) \/ (∃ c, cs.lookup n = some c) -> ∃ c, (clOf env names cs).lookup n = some c
 | [], _, _, h => h.elim (fun z => by cases z.1) id
 | (m, k) :: r, cs, n, h => by
  unfold clOf
  refine clOf_has ?_
  rcases h with ⟨hm, c, hc⟩ | ⟨c, hc⟩
  ·rcases List.mem_cons.mp hm with e | hm
   ·cases e
    right
    rw [if_pos rfl, hc]
    exact ⟨c, by rw [List.lookup_cons]; simp⟩
   ·exact .inl ⟨hm, c, hc⟩
  ·right
   split
   ·cases e : env.cells.lookup m with
    | none => exact ⟨c, hc⟩
    | some d =>
     dsimp only
     rw [List.lookup_cons]
     cases q : n == m with
     | true => exact ⟨d, rfl⟩
     | false => exact ⟨c, hc⟩
   ·exact ⟨c, hc⟩
theorem closure_is {env : Env} {scope : Scope} (h : ∀ y ∈ scope.names, y.2 = .free -> ∃ c, env.cells.lookup y.1 = some c) : closureFor scope env = pure (clOf env scope.names []) := by
 have key : ∀ (names : List (Str × NameKind)) (cs : List (Str × Addr)), (∀ y ∈ names, y.2 = .free -> ∃ c, env.cells.lookup y.1 = some c) ->
   (forIn names cs (fun (x : Str × NameKind) r => if (x.2 == NameKind.free) = true then (do let a ← cellOf env x.1; pure (ForInStep.yield ((x.1, a) :: r))) else pure (ForInStep.yield r)) : Sem (List (Str × Addr))) = pure (clOf env names cs) := by
  intro names
  induction names with
  | nil => intro cs _; rfl
  | cons y r ih =>
   intro cs hy
   obtain ⟨n, k⟩ := y
   rw [List.forIn_cons]
   unfold clOf
   by_cases hk : k = .free
   ·subst hk
    obtain ⟨c, hc⟩ := hy _ List.mem_cons_self rfl
    have e1 : cellOf env n = pure c := by unfold cellOf; rw [hc]
    rw [if_pos (by rfl)]
    rw [if_pos rfl, hc]
    show ((cellOf env n >>= fun a => pure (ForInStep.yield ((n, a) :: cs))) >>= _) = _
    rw [e1]
    exact ih _ fun z hz => hy z (List.mem_cons_of_mem _ hz)
   ·have hb : (k == NameKind.free) = false := by simpa using hk
    rw [if_neg (by rw [hb]; decide), if_neg hk]
    exact ih _ fun z hz => hy z (List.mem_cons_of_mem _ hz)
 have k := key scope.names [] h
 unfold closureFor
 show (forIn scope.names ([] : List (Str × Addr)) _ >>= fun cs => pure cs) = _
 refine Eq.trans (congrArg (fun t => t >>= fun cs => pure cs) (Eq.trans ?_ k)) rfl
 congr 1
theorem relab_free {env : Env} : ∀ {names : List (Str × NameKind)} {x : Str}, names.lookup x = some .free ->
  (names.map fun (n, k) => if (k == NameKind.free && env.scope.kind == .function && env.kindOf n == some .cell) then (n, NameKind.cell) else (n, k)).lookup x = some .cell \/
  (names.map fun (n, k) => if (k == NameKind.free && env.scope.kind == .function && env.kindOf n == some .cell) then (n, NameKind.cell) else (n, k)).lookup x = some .free
 | [], _, h => by simp at h
 | (n, k) :: r, x, h => by
  have ih := @relab_free env r x
  rw [List.map_cons]
  dsimp only
  cases q : x == n with
  | true =>
   rw [List.lookup_cons, q] at h
   cases h
   split
   ·left; rw [List.lookup_cons, q]
   ·right; rw [List.lookup_cons, q]
  | false =>
   rw [List.lookup_cons, q] at h
   split
   ·rw [List.lookup_cons, q]; exact ih h
   ·rw [List.lookup_cons, q]; exact ih h
theorem relab_back {env : Env} : ∀ {names : List (Str × NameKind)} {x : Str} {j : NameKind}, (∀ y ∈ names, y.2 ≠ .cell) -> (j = .cell \/ j = .free) ->
  (names.map fun (n, k) => if (k == NameKind.free && env.scope.kind == .function && env.kindOf n == some .cell) then (n, NameKind.cell) else (n, k)).lookup x = some j -> (x, NameKind.free) ∈ names
 | [], _, _, _, _, h => by simp at h
 | (n, k) :: r, x, j, hc, hj, h => by
  have ih := @relab_back env r x j (fun y hy => hc y (List.mem_cons_of_mem _ hy)) hj
  rw [List.map_cons] at h
  dsimp only at h
  cases q : x == n with
  | true =>
   have e : x = n := by simpa using q
   subst e
   split at h
   ·rename_i g
    have : k = .free := by
     simp only [Bool.and_eq_true, beq_iff_eq] at g
     exact g.1.1
    subst this
    exact List.mem_cons_self
   ·rw [List.lookup_cons, q] at h
    cases h
    rcases hj with z | z
    ·exact absurd z (hc _ List.mem_cons_self)
    ·rw [z]; exact List.mem_cons_self
  | false =>
   refine List.mem_cons_of_mem _ (ih ?_)
   split at h
   ·rw [List.lookup_cons, q] at h; exact h
   ·rw [List.lookup_cons, q] at h; exact h
def inn (js : List (Option Nat)) (σ : St) : St := js.map fun o => match o with | none => none | some j => (σ[j]?).join
structure CxZ where
 cl : List (Str × Addr)
 C : Addr
 s : Shared
 H : Hp
 fp : List Addr
 pins : List (Addr × Obj)
def cxC (X : Cx) (N : List Str) (scope : Scope) (z : CxZ) : Cx where
 prog := X.prog
 w := X.w
 K := X.K
 mg := X.mg
 base := X.base
 A := X.A
 N := N
 s₀ := z.s
 H₀ := z.H
 env := compEnvC scope z.cl z.C X.env
 outer := X.stack
 stack := X.stack
 ex := z.fp
 fn := fun _ => false
 calm := X.calm
 pn := X.pn ++ z.pins
 xe := fun _ _ => False
section
variable {X : Cx} {pins : List (Addr × Obj)} {σ : St} {H : Hp} {s : Shared} {XN N : List Str} {sc scope : Scope} {js : List (Option Nat)}
theorem inv_comp {h1 : Heap} {m : Str -> Option Value} {tk : Nat} {fp : List Addr} (ck : CmpOk XN sc scope N js) (hXN : X.N = XN) (hsc : X.env.scope = sc) (I : Inv X pins σ H s) (hf : ∀ b ∈ fp, FpOk X pins H b)
  (hfo : ∀ b ∈ fp, b < s.heap.objs.size) (hn : h1.Ns s.heap.objs.size m) (hk : ∀ b o, s.heap.get? b = some o -> h1.get? b = some o) :
  Inv (cxC X N scope ⟨clOf X.env scope.names [], s.heap.objs.size, s, H, fp, pins⟩) [] (inn js σ) H { s with heap := h1, toks := tk } := by
 subst hXN hsc
 have sub : ∀ n c, (clOf X.env scope.names []).lookup n = some c -> X.env.cells.lookup n = some c := clOf_sub fun n c h => by simp at h
 have clt : ∀ n c, (clOf X.env scope.names []).lookup n = some c -> c < s.heap.objs.size := fun n c h => by
  obtain ⟨v, q⟩ := I.cell n c (sub n c h)
  exact q.lt
 have has : ∀ x, (x, NameKind.free) ∈ scope.names -> ∃ c, (clOf X.env scope.names []).lookup x = some c := fun x hx =>
  clOf_has (.inl ⟨hx, I.ok.has x (ck.free _ hx rfl)⟩)
 refine ⟨⟨I.ok.mod, ck.kind, I.ok.glob, I.ok.blt, Nat.le_refl _, fun x y c h1 h2 => I.ok.inj x y c (sub x c h1) (sub y c h2), fun x hx => ?has, fun x c hx => ?cab, I.ok.hd, I.ok.frames, .inl rfl, fun b hb => ?exf, I.bs, ?bsz, fun b o e hb => ?noex, fun b hb => ?exfs, I.stack, I.stkFree⟩,
  rfl, I.bare, Un.kept hk, ⟨m, hn, fun i x v h1 h2 h3 => ?loc⟩, fun x c h => ?cell, I.hok.fresh (Nat.le_refl _), fun x c h => I.freeC x c (sub x c h), fun p hp => ?pin, I.hok.kept hk, ?len⟩
 case has =>
  rcases hx with hx | hx
  ·exact has x (relab_back ck.cell (.inl rfl) hx)
  ·exact has x (relab_back ck.cell (.inr rfl) hx)
 case cab => cases hx
 case exf =>
  obtain ⟨f0, f1, f2, f3, f4, f5⟩ := hf b hb
  exact ⟨Nat.ne_of_lt (hfo b hb), fun x c e => f4 x c (sub x c e)⟩
 case bsz => exact Nat.le_trans I.ok.bsz I.sz
 case noex =>
  obtain ⟨f0, f1, f2, f3, f4, f5⟩ := hf b hb
  rcases f3 with f3 | f3
  ·exact I.ok.noex b o e f3
  ·exact absurd (Nat.lt_of_lt_of_le (Heap.lt_size e) (Nat.le_trans I.ok.bsz f3)) (Nat.lt_irrefl _)
 case exfs =>
  obtain ⟨f0, f1, f2, f3, f4, f5⟩ := hf b hb
  intro z
  rcases List.mem_cons.mp (I.stkSub b z) with e | e
  ·exact f1 e
  ·exact f2 e
 case loc =>
  have hl : N.length = js.length := ck.len.symm
  have hi : i < js.length := by
   have := (List.getElem?_eq_some_iff.mp h1).1
   have e : (cxC X N scope ⟨clOf X.env scope.names [], s.heap.objs.size, s, H, fp, pins⟩).N = N := rfl
   rw [e] at this
   lia
  have hN : N[i]? = some x := h1
  have hj : js[i]? = some js[i] := List.getElem?_eq_getElem hi
  unfold inn at h2
  rw [List.getElem?_map, hj] at h2
  cases q : js[i] with
  | none => rw [q] at h2; cases h2
  | some j =>
   rw [q] at h2 hj
   have h2' : (σ[j]?).join = some v := Option.some.inj h2
   have hσ : σ[j]? = some (some v) := by
    cases e : σ[j]? with
    | none => rw [e] at h2'; cases h2'
    | some o => rw [e] at h2'; exact congrArg some h2'
   have hm : (x, some j) ∈ N.zip js := by
    refine List.mem_of_getElem? (i := i) ?_
    rw [List.getElem?_zip_eq_some]
    exact ⟨hN, hj⟩
   have hc := List.all_eq_true.mp ck.ix _ hm
   simp only [Bool.and_eq_true, decide_eq_true_eq] at hc
   obtain ⟨c1, c2⟩ := hc
   have hfr : (x, NameKind.free) ∈ scope.names := PySem.mem_of_lookup c2
   have hvis : X.env.scope.names.lookup x = some .cell \/ X.env.scope.names.lookup x = some .free := ck.free _ hfr rfl
   obtain ⟨m0, hn0, hl0⟩ := I.loc
   obtain ⟨u, r, l⟩ := hl0 j x v c1 hσ (hvis.elim (fun z => .inr (.inl z)) fun z => .inr (.inr z))
   refine ⟨u, r, .inr ⟨?_, ?_⟩⟩
   ·exact relab_free c2
   ·rcases l with ⟨k1, _⟩ | ⟨_, c, k1, k2⟩
    ·have k1' : X.env.scope.names.lookup x = some .local := k1
     rcases hvis with z | z
     ·rw [z] at k1'; cases k1'
     ·rw [z] at k1'; cases k1'
    ·obtain ⟨c', hc'⟩ := has x hfr
     have e := sub x c' hc'
     rw [k1] at e
     cases e
     obtain ⟨oc, ho, hd⟩ := k2
     exact ⟨c, hc', oc, hk _ _ ho, hd⟩
 case cell =>
  obtain ⟨v, oc, ho, hd⟩ := I.cell x c (sub x c h)
  exact ⟨v, oc, hk _ _ ho, hd⟩
 case pin =>
  have hp' : p ∈ X.pn ++ pins := by simpa [cxC] using hp
  obtain ⟨p1, p2, p3, p4, p5⟩ := I.pin p hp'
  refine ⟨hk _ _ p1, p2, Nat.ne_of_lt (Heap.lt_size p1), fun z => ?_, p5⟩
  rcases List.mem_cons.mp (I.stkSub _ z) with e | e
  ·exact p3 e
  ·exact p4 e
 case len =>
  show (inn js σ).length = N.length
  unfold inn
  rw [List.length_map]
  exact ck.len
abbrev TIf := St -> Hp -> (Bool -> Hp -> Prop) -> Prop
def PIf (X : Cx) (ifs : List Expr) (t : TIf) : Prop :=
 ∀ (pins : List (Addr × Obj)) (s : Shared) (σ : St) (H : Hp) (Q : Bool -> Hp -> Prop), Inv X pins σ H s -> t σ H Q ->
  wpAny (model X.prog X.w) X.A (forIn ifs true fun c r => if r = true then do let ok ← isTrue c X.env (eval c X.env); pure (ForInStep.yield ok) else pure (ForInStep.yield r)) (TP X pins σ Q) X.xe s
def fNone : TIf := fun _ H Q => Q true H
theorem pif_nil : PIf X [] fNone := fun _ _ _ H _ I h => wpAny_tests_nil ⟨H, I, h⟩
theorem pif_one {c : Expr} {t : TT} (h : PT X c t) : PIf X [c] t := fun pins s σ H Q I q => wpAny_tests_one (h pins s σ H Q I q)
def Lev (σ σ' : St) : Prop := σ.length = σ'.length /\ ∀ (i : Nat) (v : V), σ[i]? = some (some v) -> σ'[i]? = some (some v)
theorem Lev.refl (σ : St) : Lev σ σ := ⟨rfl, fun _ _ h => h⟩
theorem Lev.trans {a b c : St} (h : Lev a b) (k : Lev b c) : Lev a c := ⟨h.1.trans k.1, fun i v e => k.2 i v (h.2 i v e)⟩
def Sets (js : List (Option Nat)) (g : TG) : Prop := ∀ (σ0 : St) (v : V) (σ : St) (H : Hp) (Q : St -> Hp -> Prop), Lev (inn js σ0) σ -> g v σ H Q -> g v σ H fun σ' H' => Lev (inn js σ0) σ' /\ Q σ' H'
def Setss (js : List (Option Nat)) (g : TGs) : Prop := ∀ (σ0 : St) (vs : List V) (σ : St) (H : Hp) (Q : St -> Hp -> Prop), Lev (inn js σ0) σ -> g vs σ H Q -> g vs σ H fun σ' H' => Lev (inn js σ0) σ' /\ Q σ' H'
theorem st_name {i : Nat} (h : js[i]? = some none := by rfl) : Sets js (gName i) := fun σ0 v σ H Q l q => by
 refine ⟨⟨?_, fun j u e => ?_⟩, q⟩
 ·rw [List.length_set]; exact l.1
 ·by_cases hij : i = j
  ·subst hij
   unfold inn at e
   rw [List.getElem?_map, h] at e
   cases e
  ·rw [List.getElem?_set_ne hij]
   exact l.2 j u e
theorem sts_nil : Setss js gNil := fun σ0 vs σ H Q l q => ⟨q.1, l, q.2⟩
theorem sts_cons {t : TG} {u : TGs} (h : Sets js t) (k : Setss js u) (mono : ∀ v σ H (Q Q' : St -> Hp -> Prop), (∀ a b, Q a b -> Q' a b) -> t v σ H Q -> t v σ H Q') : Setss js (gCons t u) := fun σ0 vs σ H Q l q => by
 obtain ⟨v, r, e, q⟩ := q
 exact ⟨v, r, e, mono _ _ _ _ _ (fun σ' H' z => k σ0 r σ' H' Q z.1 z.2) (h σ0 v σ H _ l q)⟩
theorem gName_mono {i : Nat} : ∀ v σ H (Q Q' : St -> Hp -> Prop), (∀ a b, Q a b -> Q' a b) -> gName i v σ H Q -> gName i v σ H Q' := fun _ _ _ _ _ h q => h _ _ q
theorem st_tup {K : W.Frag} {n : Nat} {t : TGs} (h : Setss js t) : Sets js (gTup K n t) := fun σ0 v σ H Q l q => by
 obtain ⟨a, xs, e, hq, hl, q⟩ := q
 exact ⟨a, xs, e, hq, hl, h σ0 xs σ H Q l q⟩
def tComp (js : List (Option Nat)) (wi : TI) (g : TG) (tt : TIf) (te : TE) : TE := fun σ H Q => wi σ H fun J H1 => ∀ D, H1 D = none -> ∃ W : Nat -> Nat -> Hp -> Prop, (∃ m, W 0 m (upd H1 D (.lst []))) /\ ∀ i m H, W i m H ->
 (J.stop i H /\ Q (.ref D) H) \/ (J.go i H /\ ∀ x H', J.yld i H x H' -> g x (inn js σ) H' fun σ2 H2 => tt σ2 H2 fun b H3 =>
  if b = true then te σ2 H3 fun y H4 => ∃ ys, H4 D = some (.lst ys) /\ ys.length < sizeLine /\ ∃ m', m' < m /\ W (i + 1) m' (upd H4 D (.lst (ys ++ [y]))) else ∃ m', m' < m /\ W (i + 1) m' H3)
variable {tg iter elt : Expr} {ifs : List Expr} {pos : Pos} {wi : TI} {g : TG} {tt : TIf} {te : TE}
theorem comp_loop {E : Value -> Shared -> Prop} {R : Result -> Shared -> Prop} {it D : Addr} {fp : List Addr} {tn : Nat -> Heap -> Prop} {J : It} {z : CxZ} {W : Nat -> Nat -> Hp -> Prop} {n : Nat}
  (hc : X.calm = true) (T : Turn X.prog X.w X.K tg J fp it tn) (hz : ∀ b ∈ fp, ∀ H', H' b = none -> FpOk (cxC X N scope z) [] H' b)
  (hg : PG (cxC X N scope z) tg g) (hs : Sets js g) (ht : PIf (cxC X N scope z) ifs tt) (he : PE (cxC X N scope z) elt te)
  (turn : ∀ i m H, W i m H -> (J.stop i H /\ ∀ s', Inv (cxC X N scope z) [] (inn js σ) H s' -> R (.ok .next) s') \/ (J.go i H /\ ∀ x H', J.yld i H x H' -> g x (inn js σ) H' fun σ2 H2 => tt σ2 H2 fun b H3 =>
   if b = true then te σ2 H3 fun y H4 => ∃ ys, H4 D = some (.lst ys) /\ ys.length < sizeLine /\ ∃ m', m' < m /\ W (i + 1) m' (upd H4 D (.lst (ys ++ [y]))) else ∃ m', m' < m /\ W (i + 1) m' H3))
  {s1 : Shared} {H1 : Hp} (I1 : Inv (cxC X N scope z) [] (inn js σ) H1 s1) (t1 : tn 0 s1.heap) (f1 : ∀ b ∈ fp, H1 b = none) (w1 : W 0 n H1) :
  codeAny (model X.prog X.w) X.A (.compLoop (.ListComp elt [⟨tg, iter, ifs, 0⟩] scope pos) 0 (.ref it) (.ref D) (compEnvC scope z.cl z.C X.env)) R s1 := by
 refine codeAny_loop (c := .compLoop (.ListComp elt [⟨tg, iter, ifs, 0⟩] scope pos) 0 (.ref it) (.ref D) (compEnvC scope z.cl z.C X.env)) rfl
  (fun k s' => ∃ i H', Inv (cxC X N scope z) [] (inn js σ) H' s' /\ tn i s'.heap /\ (∀ b ∈ fp, H' b = none) /\ W i k H') ?_ n ⟨0, H1, I1, t1, f1, w1⟩
 rintro k s2 ⟨i, H2, I2, t2, f2, w2⟩
 show wpAny (model X.prog X.w) X.A ((compTurn (.ListComp elt [⟨tg, iter, ifs, 0⟩] scope pos) 0 (.ref it) (.ref D) (compEnvC scope z.cl z.C X.env)).onRaise fun x => do noteFrame x (compEnvC scope z.cl z.C X.env); theTreesLotGoes x) _ _ s2
 refine wpAny_noted ?_
 rw [compTurn_list]
 refine wpAny_bind (wpAny_standAt ?_)
 rcases turn i k H2 w2 with ⟨stop, fin⟩ | ⟨go, step⟩
 ·refine wpAny_bind (thn (T.done (cxC X N scope z) rfl rfl rfl hc i [] s2 (inn js σ) H2 _ I2 (fun b hb => hz b hb H2 (f2 b hb)) t2 stop) fun r s3 h3 => ?_)
  obtain ⟨rfl, I3⟩ := h3
  exact wpAny_pure (fin s3 I3)
 ·refine wpAny_bind (thn (T.item (cxC X N scope z) rfl rfl rfl hc i [] s2 (inn js σ) H2 _ I2 (fun b hb => hz b hb H2 (f2 b hb)) t2 go) fun r s3 h3 => ?_)
  obtain ⟨u, rfl, h3⟩ := h3
  refine wpAny_bind (thn h3 fun _ s4 h4 => ?_)
  obtain ⟨x, H4, I4, r4, y4, t4, f4⟩ := h4
  have P4 := I4.pinned (fun b hb => hz b hb H4 (f4 b hb)) (T.obj _ _ t4)
  have ff : ∀ {e : Value} {s' : Shared}, (cxC X N scope z).xe e s' -> False := fun h => h
  refine wpAny_bind (wpAny_mono (hg _ s4 (inn js σ) H4 x u _ P4 r4 (hs σ x (inn js σ) H4 _ (Lev.refl _) (step x H4 y4))) (fun _ s5 h5 => ?_) fun _ _ h => (ff h).elim)
  obtain ⟨σ5, H5, I5, lev, q5⟩ := h5
  refine wpAny_bind (wpAny_mono (ht _ s5 σ5 H5 _ I5 q5) (fun ok s6 h6 => ?_) fun _ _ h => (ff h).elim)
  obtain ⟨H6, I6, q6⟩ := h6
  have again : ∀ {s7 : Shared} {H7 : Hp}, Inv (cxC X N scope z) ([] ++ pinsAt fp s4.heap) σ5 H7 s7 -> (∃ m', m' < k /\ W (i + 1) m' H7) -> ∃ m, m < k /\ ∃ i H', Inv (cxC X N scope z) [] (inn js σ) H' s7 /\ tn i s7.heap /\ (∀ b ∈ fp, H' b = none) /\ W i m H' := fun {s7 H7} I7 h7 => by
   obtain ⟨m', hm, w7⟩ := h7
   refine ⟨m', hm, i + 1, H7, (I7.unpinned).weak lev.1 lev.2, T.keep _ _ _ t4 fun b hb o e => (I7.pin (b, o) (List.mem_append_right _ (List.mem_append_right _ (mem_pinsAt hb e)))).1, fun b hb => ?_, w7⟩
   obtain ⟨o, e, d⟩ := T.obj _ _ t4 b hb
   exact (I7.pin (b, o) (List.mem_append_right _ (List.mem_append_right _ (mem_pinsAt hb e)))).2.1
  cases ok with
  | false =>
   rw [if_neg (by decide)] at q6
   exact wpAny_pure ⟨rfl, again I6 q6⟩
  | true =>
   rw [if_pos rfl] at q6
   refine wpAny_bind (wpAny_bind (wpAny_mono (he _ s6 σ5 H6 _ I6 q6) (fun y s7 h7 => ?_) fun _ _ h => (ff h).elim))
   obtain ⟨vy, H7, I7, r7, ys, hD, hl, q7⟩ := h7
   refine wpAny_bind (wpAny_mono (mt_append (X := cxC X N scope z) _ s7 σ5 H7 (.ref D) [vy] (.ref D) [y] (fun _ H' => ∃ m', m' < k /\ W (i + 1) m' H') I7 rfl (.cons r7 .nil) ⟨D, ys, vy, rfl, rfl, hD, hl, q7⟩) (fun _ s8 h8 => ?_) fun _ _ h => (ff h).elim)
   obtain ⟨_, H8, I8, _, q8⟩ := h8
   exact wpAny_pure (wpAny_pure ⟨rfl, again I8 q8⟩)
theorem comp_block {E : Value -> Shared -> Prop} {RR : Value -> Addr -> Result -> Shared -> Prop} {Q : VK} {itv : Value} {s2 : Shared} (ck : CmpOk XN sc scope N js) (hXN : X.N = XN) (hsc : X.env.scope = sc) (hc : X.calm = true)
  (hg : ∀ z, PG (cxC X N scope z) tg g) (hs : Sets js g) (ht : ∀ z, PIf (cxC X N scope z) ifs tt) (he : ∀ z, PE (cxC X N scope z) elt te)
  (h2 : PIE X pins σ tg (fun J H1 => ∀ D, H1 D = none -> ∃ W : Nat -> Nat -> Hp -> Prop, (∃ m, W 0 m (upd H1 D (.lst []))) /\ ∀ i m H, W i m H ->
   (J.stop i H /\ Q (.ref D) H) \/ (J.go i H /\ ∀ x H', J.yld i H x H' -> g x (inn js σ) H' fun σ2 H2 => tt σ2 H2 fun b H3 =>
    if b = true then te σ2 H3 fun y H4 => ∃ ys, H4 D = some (.lst ys) /\ ys.length < sizeLine /\ ∃ m', m' < m /\ W (i + 1) m' (upd H4 D (.lst (ys ++ [y]))) else ∃ m', m' < m /\ W (i + 1) m' H3)) itv s2)
  (hRR : ∀ D C s' H' m o, Inv X (pins ++ [(C, o)]) σ H' s' -> s'.heap.Ns C m -> (X.s₀.heap.objs.size <= C /\ C ≠ X.env.locals /\ (∀ x c, X.env.cells.lookup x = some c -> c ≠ C) /\ ∀ p ∈ X.pn ++ pins, p.1 ≠ C) -> H' C = none -> Q (.ref D) H' -> RR (.ref D) C (.ok .next) s') :
  wpAny (model X.prog X.w) X.A (newList []) (fun acc s₃ => wpAny (model X.prog X.w) X.A (newFunctionEnv scope X.env.globals (clOf X.env scope.names []) [] X.env.qual none .none (some X.env)) (fun cenv s₄ =>
   codeAny (model X.prog X.w) X.A (.compStart (.ListComp elt [⟨tg, iter, ifs, 0⟩] scope pos) 0 itv acc { cenv with scope := relabel scope X.env }) (RR acc cenv.locals) s₄) E s₃) E s2 := by
 obtain ⟨it, fp, tn, J, H2, rfl, I2, T, t2, f2, q2⟩ := h2
 have fo : ∀ b ∈ fp, b < s2.heap.objs.size := fun b hb => by
  obtain ⟨o, e, _⟩ := T.obj _ _ t2 b hb
  exact Heap.lt_size e
 have hD : H2 s2.heap.objs.size = none := I2.fresh
 obtain ⟨W, ⟨n, w0⟩, turn⟩ := q2 _ hD
 refine wpAny_newObj_type (wpAny_newFunctionEnv ck.cell (by intro y hy; simp at hy) (fun h1 hns hsb => ?_) ck.kind)
 have I3 : Inv X pins σ (upd H2 s2.heap.objs.size (.lst [])) { s2 with heap := s2.heap.push { cls := .type "list", data := .seq ([] : List Value).toArray }, toks := s2.toks } := I2.lnew (its := []) .nil (Nat.zero_le _)
 have f3 : ∀ b ∈ fp, FpOk X pins (upd H2 s2.heap.objs.size (.lst [])) b := fun b hb => by
  obtain ⟨g0, g1⟩ := f2 b hb
  exact ⟨by rw [upd_ne (Nat.ne_of_lt (fo b hb))]; exact g0, g1⟩
 have sz : (s2.heap.push { cls := .type "list", data := .seq ([] : List Value).toArray }).objs.size = s2.heap.objs.size + 1 := Heap.size_push _ _
 have kept : ∀ b o, (s2.heap.push { cls := .type "list", data := .seq ([] : List Value).toArray }).get? b = some o -> h1.get? b = some o := fun b o e =>
  hsb.extBut b o (Nat.ne_of_lt (Heap.lt_size e)) (Heap.get?_push_of_some _ e)
 have I4 := inv_comp (tk := s2.toks + ([] : List (Str × Value)).length) ck hXN hsc I3 f3 (fun b hb => by show b < (s2.heap.push _).objs.size; rw [sz]; exact Nat.lt_succ_of_lt (fo b hb)) hns kept
 have t4 : tn 0 h1 := T.keep _ _ _ t2 fun b hb o e => kept b o (Heap.get?_push_of_some _ e)
 have fz : ∀ b ∈ fp, ∀ H', H' b = none -> FpOk (cxC X N scope ⟨clOf X.env scope.names [], (s2.heap.push { cls := .type "list", data := .seq ([] : List Value).toArray }).objs.size, { s2 with heap := s2.heap.push { cls := .type "list", data := .seq ([] : List Value).toArray }, toks := s2.toks }, upd H2 s2.heap.objs.size (.lst []), fp, pins⟩) [] H' b := fun b hb H' hn => by
  obtain ⟨g0, g1, g2, g3, g4, g5⟩ := f3 b hb
  refine ⟨hn, (I4.ok.exf b hb).1, I4.ok.exfs b hb, .inl hb, (I4.ok.exf b hb).2, fun p hp => ?_⟩
  exact g5 p (by simpa [cxC] using hp)
 have loop := comp_loop (X := X) (σ := σ) (N := N) (scope := scope) (js := js) (iter := iter) (pos := pos) (E := E) (R := RR (.ref s2.heap.objs.size) (s2.heap.push { cls := .type "list", data := .seq ([] : List Value).toArray }).objs.size) (D := s2.heap.objs.size) (W := W) (n := n)
  hc T fz (hg _) hs (ht _) (he _) (fun i m H w => (turn i m H w).imp (fun a => ⟨a.1, fun s' Y => ?_⟩) id) I4 t4 (fun b hb => (f3 b hb).1) w0
 ·exact codeAny_compStart_list loop (T.self _ 0 _ _ _ t4 loop)
 ·have bb := Y.base
  have J0 : Inv X pins σ H s' := I3.call' Y.os bb Y.hok Y.bare fun b hb => by
   obtain ⟨g0, g1, g2, g3, g4, g5⟩ := f3 b hb
   exact ⟨g3, g1, g4, g5⟩
  obtain ⟨mC, nC, _⟩ := Y.loc
  obtain ⟨oC, eC, dC⟩ : ∃ o, s'.heap.get? (s2.heap.push { cls := .type "list", data := .seq ([] : List Value).toArray }).objs.size = some o /\ ∀ v, o.data ≠ .cell v := by
   obtain ⟨o, es, ep, ho, hd, _⟩ := nC
   exact ⟨o, ho, fun v z => by rw [hd] at z; cases z⟩
  have lC : X.s₀.heap.objs.size <= (s2.heap.push { cls := .type "list", data := .seq ([] : List Value).toArray }).objs.size := I3.sz
  have cC : (s2.heap.push { cls := .type "list", data := .seq ([] : List Value).toArray }).objs.size ≠ X.env.locals := Nat.ne_of_gt I3.lt
  have kC : ∀ x c, X.env.cells.lookup x = some c -> c ≠ (s2.heap.push { cls := .type "list", data := .seq ([] : List Value).toArray }).objs.size := fun x c e => by
   obtain ⟨v, q⟩ := I3.cell x c e
   exact Nat.ne_of_lt q.lt
  have pC : ∀ p ∈ X.pn ++ pins, p.1 ≠ (s2.heap.push { cls := .type "list", data := .seq ([] : List Value).toArray }).objs.size := fun p hp => Nat.ne_of_lt (Heap.lt_size (I3.pin p hp).1)
  have J1 : Inv X (pins ++ [((s2.heap.push { cls := .type "list", data := .seq ([] : List Value).toArray }).objs.size, oC)]) σ H s' := J0.pins_of fun p hp => by
   rcases List.mem_append.mp hp with hp | hp
   ·exact J0.pin p (List.mem_append_right _ hp)
   ·rw [List.mem_singleton.mp hp]
    exact ⟨eC, Y.free, cC, I3.nofs (Nat.le_refl _), dC⟩
  exact hRR _ _ s' H mC oC J1 nC ⟨lC, cC, kC, pC⟩ Y.free a.2
theorem pe_comp (ck : CmpOk XN sc scope N js) (hi : PI X tg iter wi) (hg : ∀ z, PG (cxC X N scope z) tg g) (hs : Sets js g) (ht : ∀ z, PIf (cxC X N scope z) ifs tt) (he : ∀ z, PE (cxC X N scope z) elt te)
  (hXN : X.N = XN := by rfl) (hsc : X.env.scope = sc := by rfl) (hc : X.calm = true := by rfl) (hf : ∀ x, foldedSetIterable iter X.env x = pure x := by intro _; rfl) :
  PE X (.ListComp elt [⟨tg, iter, ifs, 0⟩] scope pos) (tComp js wi g tt te) := by
 intro pins s σ H Q I h
 rw [eval_ListComp]
 have hcl : closureFor scope X.env = pure (clOf X.env scope.names []) := closure_is fun y hy hk => I.ok.has y.1 (by
  have := ck.free y hy hk
  rw [<- hsc] at this
  exact this)
 refine wpAny_comprehension_free (use := none) rfl hf hcl ck.kind ck.loc (thn (hi pins s σ H _ I h) fun v s1 h1 => thn h1 fun itv s2 h2 => ?_)
 refine comp_block (RR := fun acc C => compPost (model X.prog X.w) X.A X.xe none (EP X pins σ Q) acc C) ck hXN hsc hc hg hs ht he h2 ?_
 intro D C s' H' m o J nC hC fC q
 refine ⟨m, nC, fun h' sb => ⟨.ref D, H', ?_, rfl, q⟩⟩
 have J0 : Inv X pins σ H' s' := J.unpinned
 exact J0.turned (t' := s'.toks) (it := C) (fun b o hb e => sb.extBut b o hb e) fC hC.2.1 (.inr hC.1) hC.2.2.1 hC.2.2.2
theorem ps_setC {i : Nat} {y : Str} {pos' spos : Pos} (ck : CmpOk XN sc scope N js) (hN : X.N.Nodup) (hi0 : X.N[i]? = some y) (hx : Loc X.env.scope y) (hi : PI X tg iter wi) (hg : ∀ z, PG (cxC X N scope z) tg g) (hs : Sets js g) (ht : ∀ z, PIf (cxC X N scope z) ifs tt) (he : ∀ z, PE (cxC X N scope z) elt te)
  (hsw : swapsWith (.ListComp elt [⟨tg, iter, ifs, 0⟩] scope pos) (some (.Name y pos')) spos.line X.env = pure true := by rfl)
  (hXN : X.N = XN := by rfl) (hsc : X.env.scope = sc := by rfl) (hc : X.calm = true := by rfl) (hf : ∀ x, foldedSetIterable iter X.env x = pure x := by intro _; rfl)
  (hfn : X.fn y = true \/ X.env.scope.names.lookup y = some .local := by first | exact .inl rfl | exact .inr rfl | assumption) :
  PS X (.Assign [.Name y pos'] (.ListComp elt [⟨tg, iter, ifs, 0⟩] scope pos) spos) (tAsg (tComp js wi g tt te) (gName i)) := by
 intro pins s σ H D I h
 rw [exec_Assign_Name_used _ _ _ _ hsw]
 have hcl : closureFor scope X.env = pure (clOf X.env scope.names []) := closure_is fun y hy hk => I.ok.has y.1 (by
  have := ck.free y hy hk
  rw [<- hsc] at this
  exact this)
 refine wpAny_bind (wpAny_standAt (wpAny_bind ?_))
 show wpAny (model X.prog X.w) X.A (comprehension (.ListComp elt [⟨tg, iter, ifs, 0⟩] scope pos) scope X.env _ (newList []) false (eval iter X.env) (some (assign (.Name y pos') X.env)) >>= fun _ => pure ()) _ _ s
 refine wpAny_bind (thn (wpAny_comprehension_free (use := some (assign (.Name y pos') X.env)) (Q := fun _ s' => SP X pins D .next s') rfl hf hcl ck.kind ck.loc (thn (hi pins s σ H _ I h) fun v s1 h1 => thn h1 fun itv s2 h2 => ?_)) fun _ s' q => wpAny_pure (wpAny_pure q))
 refine comp_block (RR := fun acc C => compPost (model X.prog X.w) X.A X.xe (some (assign (.Name y pos') X.env)) (fun _ s' => SP X pins D .next s') acc C) (Q := fun x H1 => gName i x σ H1 D.nx) ck hXN hsc hc hg hs ht he h2 ?_
 intro A C s' H' m o J nC hC fC q
 refine thn (pg_name hN hi0 hx hfn _ s' σ H' (.ref A) (.ref A) _ J rfl q) fun _ s3 h3 => ?_
 obtain ⟨σ3, H3, J3, q3⟩ := h3
 have pc := J3.pin (C, o) (List.mem_append_right _ (List.mem_append_right _ List.mem_cons_self))
 have oC : s'.heap.get? C = some o := (J.pin (C, o) (List.mem_append_right _ (List.mem_append_right _ List.mem_cons_self))).1
 refine ⟨m, nC.at' fun o' e => ?_, fun h' sb => ⟨σ3, H3, ?_, q3⟩⟩
 ·rw [oC] at e
  cases e
  exact pc.1
 ·have J0 : Inv X pins σ3 H3 s3 := J3.unpinned
  exact J0.turned (t' := s3.toks) (it := C) (fun b o hb e => sb.extBut b o hb e) pc.2.1 hC.2.1 (.inr hC.1) hC.2.2.1 hC.2.2.2
end
end L2
namespace Srt
open PySem PySem.W PyProof.Rows
section
variable {α β : Type} (lt : Nat -> Nat -> Bool) (n : Nat)
end
section
variable {lt : Nat -> Nat -> Bool} {le : Nat -> Nat -> Prop} {n : Nat} {p : Array Nat}
abbrev at' (p : Array Nat) (i : Nat) : Nat := p.getD i 0
theorem at_eq {p q : Array Nat} {i j : Nat} (h : p[i]? = q[j]?) : at' p i = at' q j := by
 have e : ∀ (r : Array Nat) (k : Nat), at' r k = (r[k]?).getD 0 := fun r k => by simp [at']
 rw [e, e, h]
def Asc (le : Nat -> Nat -> Prop) (p : Array Nat) (m : Nat) : Prop := ∀ i j, i <= j -> j < m -> le (at' p i) (at' p j)
def Bel (n : Nat) (p : Array Nat) : Prop := ∀ k, at' p k < n
structure Ord (lt : Nat -> Nat -> Bool) (le : Nat -> Nat -> Prop) : Prop where
 tr : ∀ a b c, le a b -> le b c -> le a c
 rf : ∀ a, le a a
 yes : ∀ a b, lt a b = true -> le a b
 no : ∀ a b, lt a b = false -> le b a
theorem bel_of (hn : 0 < n) (hp : p.Perm (List.range n).toArray) : Bel n p := fun k => by
 have e : at' p k = (p[k]?).getD 0 := by simp [at']
 rw [e]
 cases h : p[k]? with
 | none => exact hn
 | some v =>
  have hm : v ∈ p := Array.mem_of_getElem? h
  have := (Array.perm_iff_toList_perm.mp hp).mem_iff.mp (Array.mem_toList_iff.mpr hm)
  simpa using this
theorem at_mirror {i j : Nat} (hj : j <= p.size) (k : Nat) : at' (kas_rev p i j) k = if i <= k /\ k < j then at' p (i + j - 1 - k) else at' p k := by
 have e := getElem?_mirror_all (i := i) hj k
 by_cases h : i <= k /\ k < j
 ·rw [if_pos h] at e ⊢; exact at_eq e
 ·rw [if_neg h] at e ⊢; exact at_eq e
variable {z : Nat}
theorem at_bubble {src d : Nat} (hs : src < p.size) (hd : d <= src) (k : Nat) : at' (bubble p src d) k = if k = src - d then at' p src else if src - d < k /\ k <= src then at' p (k - 1) else at' p k := by
 have e := getElem?_bubble hs d hd k
 by_cases h1 : k = src - d
 ·rw [if_pos h1] at e ⊢; exact at_eq e
 ·rw [if_neg h1] at e ⊢
  by_cases h2 : src - d < k /\ k <= src
  ·rw [if_pos h2] at e ⊢; exact at_eq e
  ·rw [if_neg h2] at e ⊢; exact at_eq e
end
theorem out_ok {α : Type} {le : Nat -> Nat -> Prop} {p : Array Nat} {vs : List α} {d : α} (hp : p.Perm (List.range vs.length).toArray) (ha : Asc le p vs.length) :
  (p.toList.map fun i => vs.getD i d).Perm vs /\ ∀ R : α -> α -> Prop, (∀ i j, i < vs.length -> j < vs.length -> le i j -> R (vs.getD i d) (vs.getD j d)) -> (p.toList.map fun i => vs.getD i d).Pairwise R := by
 have hl : p.toList.Perm (List.range vs.length) := by simpa using Array.perm_iff_toList_perm.mp hp
 constructor
 ·have h1 : (p.toList.map fun i => vs.getD i d).Perm ((List.range vs.length).map fun i => vs.getD i d) := hl.map _
  have h2 : ((List.range vs.length).map fun i => vs.getD i d) = vs := by
   apply List.ext_getElem
   ·simp
   ·intro i h1 h2; simp at h1; simp [h1]
  rw [h2] at h1
  exact h1
 ·intro R hR
  rw [List.pairwise_map, List.pairwise_iff_getElem]
  intro i j hi hj hij
  have hs : p.toList.length = vs.length := by rw [hl.length_eq]; simp
  have m : ∀ k (hk : k < p.toList.length), p.toList[k] < vs.length := fun k hk => by simpa using hl.mem_iff.mp (List.getElem_mem hk)
  have a : ∀ k (hk : k < p.toList.length), at' p k = p.toList[k] := fun k hk => by
   have : k < p.size := by simpa using hk
   simp [at', Array.getD, this]
  refine hR _ _ (m i hi) (m j hj) ?_
  rw [<- a i hi, <- a j hj]
  exact ha i j (Nat.le_of_lt hij) (by lia)
def gallop' : Bool -> Keyed -> Array Keyed -> Nat -> Nat -> Nat -> StateT SortSt Sem (Option Nat) := sortPriv% PySem.Builtin.gallop
def mergeLo' : Array Keyed -> Array Keyed -> StateT SortSt Sem (Array Keyed) := sortPriv% PySem.Builtin.mergeLo
def mergeHi' : Array Keyed -> Array Keyed -> StateT SortSt Sem (Array Keyed) := sortPriv% PySem.Builtin.mergeHi
section
variable {prog : Program} {w : World} {A : Around} {E : Value -> Shared -> Prop} {s : Shared} {κ : SortKind} {it : Array Keyed} {n : Nat} {lt : Nat -> Nat -> Bool} {le : Nat -> Nat -> Prop}
def Asks (prog : Program) (w : World) (A : Around) (s : Shared) (κ : SortKind) (it : Array Keyed) (n : Nat) (lt : Nat -> Nat -> Bool) : Prop :=
 ∀ i j (C : Bool -> Shared -> Prop), i < n -> j < n -> C (lt i j) s -> kas_cmp prog w A κ it i j C s
theorem w_lt (hc : Asks prog w A s κ it n lt) {i j : Nat} {Q : Option Bool -> SortSt -> Prop} {st : SortSt} (hk : kindOf st = κ) (hi : i < n) (hj : j < n) (h : Q (some (lt i j)) st) : wpS (model prog w) A E s (lt' (kas_item it i) (kas_item it j)) Q st := by
 rw [lt'_eq]
 refine wpS_bind (wpS_get ?_)
 rw [hk]
 refine wpS_bind (wpS_lift (wpAny_attempt (wpAny_mono (hc i j (fun c s' => s' = s /\ c = lt i j) hi hj ⟨rfl, rfl⟩) (fun c s' h' => ?_) fun _ _ hF => hF.elim)))
 obtain ⟨rfl, rfl⟩ := h'
 exact ⟨rfl, wpS_pure h⟩
theorem w_elem {X : Array Nat} {k : Nat} {Q : Keyed -> SortSt -> Prop} {st : SortSt} (hk : k < X.size) (h : Q (kas_item it (at' X k)) st) : wpS (model prog w) A E s (elem' (X.map (kas_item it)) k) Q st := by
 rw [elem'_eq]
 have e : at' X k = X[k] := by simp [at', hk]
 rw [e] at h
 have e2 : (X.map (kas_item it))[k]? = some (kas_item it X[k]) := by simp [hk]
 rw [e2]
 exact wpS_pure h
theorem w_gallop (o : Ord lt le) (hc : Asks prog w A s κ it n lt) {left : Bool} {key : Nat} {X : Array Nat} {base m hint : Nat} {Q : Option Nat -> SortSt -> Prop} {st : SortSt} (hk : kindOf st = κ) (hb : ∀ i, i < X.size -> at' X i < n) (hkey : key < n)
  (hz : base + m <= X.size) (hh : hint < m) (hs : ∀ i j, i <= j -> j < m -> le (at' X (base + i)) (at' X (base + j)))
  (h : ∀ k, k <= m -> (∀ i, i < k -> le (at' X (base + i)) key) -> (∀ i, k <= i -> i < m -> le key (at' X (base + i))) -> Q (some k) st) :
  wpS (model prog w) A E s (gallop' left (kas_item it key) (X.map (kas_item it)) base m hint) Q st := by
 have bey : ∀ i, i < m -> ∀ (R : Option Bool -> SortSt -> Prop), (∀ c, (c = true -> le (at' X (base + i)) key) -> (c = false -> le key (at' X (base + i))) -> R (some c) st) -> wpS (model prog w) A E s (do
   let x ← elem' (X.map (kas_item it)) (base + i)
   if left = true then lt' x (kas_item it key) else do
    let r ← lt' (kas_item it key) x
    pure (Option.map (fun x => !x) r)) R st := fun i hi R hR => by
  refine wpS_bind (w_elem (by lia) ?_)
  have hx := hb (base + i) (by lia)
  cases left with
  | true =>
   rw [if_pos rfl]
   exact w_lt hc hk hx hkey (hR _ (o.yes _ _) (o.no _ _))
  | false =>
   rw [if_neg (by decide)]
   refine wpS_bind (w_lt hc hk hkey hx (wpS_pure ?_))
   refine hR _ (fun e => o.no _ _ (by simpa using e)) (fun e => o.yes _ _ (by simpa using e))
 have lo' : ∀ k, k < m -> le (at' X (base + k)) key -> ∀ i, i <= k -> le (at' X (base + i)) key := fun k hk hl i hi => o.tr _ _ _ (hs i k hi hk) hl
 have hi' : ∀ k, k < m -> le key (at' X (base + k)) -> ∀ i, k <= i -> i < m -> le key (at' X (base + i)) := fun k hk hl i hi him => o.tr _ _ _ hl (hs k i hi him)
 refine wpS_bind (bey hint hh _ fun c c1 c2 => ?_)
 dsimp only
 cases c with
 | true =>
  rw [if_pos rfl]
  refine wpS_bind (wpS_mono (wpS_forRange (I := fun x c st' => st' = st /\ ∃ l f, c = (none, l, f) /\ x + 1 <= f /\ hint + l < m /\ le (at' X (base + (hint + l))) key)
   (Q := fun c st' => st' = st /\ ∃ l f, c = (none, l, f) /\ hint + l < m /\ le (at' X (base + (hint + l))) key /\ (f < m - hint -> le key (at' X (base + (hint + f))))) ?s1 ?f1 ?i1) ?p1)
  case i1 => exact ⟨rfl, 0, 1, rfl, by lia, by lia, c1 rfl⟩
  case f1 =>
   rintro c st' ⟨rfl, l, f, rfl, h1, h2, h3⟩
   exact ⟨rfl, l, f, rfl, h2, h3, fun _ => by lia⟩
  case s1 =>
   rintro x c st' _ hx ⟨rfl, l, f, rfl, h1, h2, h3⟩
   dsimp only
   by_cases hge : f ≥ m - hint
   ·rw [if_pos hge]
    exact wpS_pure ⟨rfl, l, f, rfl, h2, h3, fun _ => by lia⟩
   ·rw [if_neg hge]
    refine wpS_bind (bey (hint + f) (by lia) _ fun c d1 d2 => ?_)
    dsimp only
    cases c with
    | true => exact wpS_pure ⟨rfl, f, 2 * f + 1, rfl, by lia, by lia, d1 rfl⟩
    | false => exact wpS_pure ⟨rfl, l, f, rfl, h2, h3, fun _ => d2 rfl⟩
  case p1 =>
   rintro c st' ⟨rfl, l, f, rfl, h2, h3, h4⟩
   dsimp only
   have g1 : ∀ i, i < hint + l + 1 -> i < m -> le (at' X (base + i)) key := fun i hi _ => lo' _ h2 h3 i (by lia)
   have g2 : ∀ i, hint + min f (m - hint) <= i -> i < m -> le key (at' X (base + i)) := fun i hi him => hi' (hint + f) (by lia) (h4 (by lia)) i (by lia) him
   have g3 : hint + min f (m - hint) <= m := by lia
   generalize hint + l + 1 = L at g1 ⊢
   generalize hint + min f (m - hint) = H at g2 g3 ⊢
   refine wpS_bind (wpS_mono (wpS_forRange (I := fun x c st2 => st2 = st' /\ ∃ l h, c = (none, l, h) /\ h <= m /\ h - l <= m - x /\ (∀ i, i < l -> i < m -> le (at' X (base + i)) key) /\ (∀ i, h <= i -> i < m -> le key (at' X (base + i))))
    (Q := fun c st2 => st2 = st' /\ ∃ l h, c = (none, l, h) /\ h <= m /\ h <= l /\ (∀ i, i < l -> i < m -> le (at' X (base + i)) key) /\ (∀ i, h <= i -> i < m -> le key (at' X (base + i)))) ?s2 ?f2 ?i2) ?p2)
   case i2 => exact ⟨rfl, L, H, rfl, g3, by lia, g1, g2⟩
   case f2 =>
    rintro c st2 ⟨rfl, l, h, rfl, k1, k2, k3, k4⟩
    exact ⟨rfl, l, h, rfl, k1, by lia, k3, k4⟩
   case s2 =>
    rintro x c st2 _ hx ⟨rfl, l, h, rfl, k1, k2, k3, k4⟩
    dsimp only
    by_cases hge : l ≥ h
    ·rw [if_pos hge]
     exact wpS_pure ⟨rfl, l, h, rfl, k1, hge, k3, k4⟩
    ·rw [if_neg hge]
     refine wpS_bind (bey (l + (h - l) / 2) (by lia) _ fun c d1 d2 => ?_)
     dsimp only
     cases c with
     | true => exact wpS_pure ⟨rfl, _, _, rfl, k1, by lia, fun i hi him => lo' _ (by lia) (d1 rfl) i (by lia), k4⟩
     | false => exact wpS_pure ⟨rfl, _, _, rfl, by lia, by lia, k3, fun i hi him => hi' _ (by lia) (d2 rfl) i hi him⟩
   case p2 =>
    rintro c st2 ⟨rfl, l, h', rfl, k1, k2, k3, k4⟩
    exact wpS_pure (h h' k1 (fun i hi => k3 i (by lia) (by lia)) k4)
 | false =>
  rw [if_neg (by decide)]
  refine wpS_bind (wpS_mono (wpS_forRange (I := fun x c st' => st' = st /\ ∃ l f, c = (none, l, f) /\ x + 1 <= f /\ l <= hint /\ le key (at' X (base + (hint - l))))
   (Q := fun c st' => st' = st /\ ∃ l f, c = (none, l, f) /\ l <= hint /\ le key (at' X (base + (hint - l))) /\ (f < hint + 1 -> le (at' X (base + (hint - f))) key)) ?s1 ?f1 ?i1) ?p1)
  case i1 => exact ⟨rfl, 0, 1, rfl, by lia, by lia, c2 rfl⟩
  case f1 =>
   rintro c st' ⟨rfl, l, f, rfl, h1, h2, h3⟩
   exact ⟨rfl, l, f, rfl, h2, h3, fun _ => by lia⟩
  case s1 =>
   rintro x c st' _ hx ⟨rfl, l, f, rfl, h1, h2, h3⟩
   dsimp only
   by_cases hge : f ≥ hint + 1
   ·rw [if_pos hge]
    exact wpS_pure ⟨rfl, l, f, rfl, h2, h3, fun _ => by lia⟩
   ·rw [if_neg hge]
    refine wpS_bind (bey (hint - f) (by lia) _ fun c d1 d2 => ?_)
    dsimp only
    cases c with
    | true => exact wpS_pure ⟨rfl, l, f, rfl, h2, h3, fun _ => d1 rfl⟩
    | false => exact wpS_pure ⟨rfl, f, 2 * f + 1, rfl, by lia, by lia, d2 rfl⟩
  case p1 =>
   rintro c st' ⟨rfl, l, f, rfl, h2, h3, h4⟩
   dsimp only
   have g1 : ∀ i, i < hint + 1 - min f (hint + 1) -> i < m -> le (at' X (base + i)) key := fun i hi _ => lo' (hint - f) (by lia) (h4 (by lia)) i (by lia)
   have g2 : ∀ i, hint - l <= i -> i < m -> le key (at' X (base + i)) := fun i hi him => hi' (hint - l) (by lia) h3 i (by lia) him
   have g3 : hint - l <= m := by lia
   generalize hint + 1 - min f (hint + 1) = L at g1 ⊢
   generalize hint - l = H at g2 g3 ⊢
   refine wpS_bind (wpS_mono (wpS_forRange (I := fun x c st2 => st2 = st' /\ ∃ l h, c = (none, l, h) /\ h <= m /\ h - l <= m - x /\ (∀ i, i < l -> i < m -> le (at' X (base + i)) key) /\ (∀ i, h <= i -> i < m -> le key (at' X (base + i))))
    (Q := fun c st2 => st2 = st' /\ ∃ l h, c = (none, l, h) /\ h <= m /\ h <= l /\ (∀ i, i < l -> i < m -> le (at' X (base + i)) key) /\ (∀ i, h <= i -> i < m -> le key (at' X (base + i)))) ?s2 ?f2 ?i2) ?p2)
   case i2 => exact ⟨rfl, L, H, rfl, g3, by lia, g1, g2⟩
   case f2 =>
    rintro c st2 ⟨rfl, l, h, rfl, k1, k2, k3, k4⟩
    exact ⟨rfl, l, h, rfl, k1, by lia, k3, k4⟩
   case s2 =>
    rintro x c st2 _ hx ⟨rfl, l, h, rfl, k1, k2, k3, k4⟩
    dsimp only
    by_cases hge : l ≥ h
    ·rw [if_pos hge]
     exact wpS_pure ⟨rfl, l, h, rfl, k1, hge, k3, k4⟩
    ·rw [if_neg hge]
     refine wpS_bind (bey (l + (h - l) / 2) (by lia) _ fun c d1 d2 => ?_)
     dsimp only
     cases c with
     | true => exact wpS_pure ⟨rfl, _, _, rfl, k1, by lia, fun i hi him => lo' _ (by lia) (d1 rfl) i (by lia), k4⟩
     | false => exact wpS_pure ⟨rfl, _, _, rfl, by lia, by lia, k3, fun i hi him => hi' _ (by lia) (d2 rfl) i hi him⟩
   case p2 =>
    rintro c st2 ⟨rfl, l, h', rfl, k1, k2, k3, k4⟩
    exact wpS_pure (h h' k1 (fun i hi => k3 i (by lia) (by lia)) k4)
end
end Srt
namespace Srt
section
variable {le : Nat -> Nat -> Prop} {tot out ra rb xs : List Nat}
def Inv (le : Nat -> Nat -> Prop) (tot out ra rb : List Nat) : Prop := (out ++ ra).Pairwise le /\ (out ++ rb).Pairwise le /\ (out ++ (ra ++ rb)).Perm tot
theorem Inv.symm (h : Inv le tot out ra rb) : Inv le tot out rb ra := ⟨h.2.1, h.1, (List.Perm.append_left _ List.perm_append_comm).trans h.2.2⟩
theorem Inv.block (h : Inv le tot out (xs ++ ra) rb) (k : ∀ x ∈ xs, ∀ y ∈ rb, le x y) : Inv le tot (out ++ xs) ra rb := by
 obtain ⟨h1, h2, h3⟩ := h
 refine ⟨by rw [List.append_assoc]; exact h1, ?_, by rw [List.append_assoc, <- List.append_assoc xs]; exact h3⟩
 rw [List.pairwise_append] at h1 h2
 rw [List.append_assoc, List.pairwise_append]
 obtain ⟨a1, a2, a3⟩ := h1
 obtain ⟨b1, b2, b3⟩ := h2
 rw [List.pairwise_append] at a2
 refine ⟨a1, List.pairwise_append.mpr ⟨a2.1, b2, k⟩, fun x hx y hy => ?_⟩
 rcases List.mem_append.mp hy with hy | hy
 ·exact a3 x hx y (List.mem_append_left _ hy)
 ·exact b3 x hx y hy
theorem Inv.doneA (h : Inv le tot out ra []) : (out ++ ra).Pairwise le /\ (out ++ ra).Perm tot := ⟨h.1, by have := h.2.2; rwa [List.append_nil] at this⟩
theorem Inv.lastA {x : Nat} (h : Inv le tot out [x] rb) (k : ∀ y ∈ rb, le y x) : (out ++ (rb ++ [x])).Pairwise le /\ (out ++ (rb ++ [x])).Perm tot := by
 refine ⟨?_, (List.Perm.append_left _ List.perm_append_comm).trans h.2.2⟩
 obtain ⟨h1, h2, _⟩ := h
 rw [List.pairwise_append] at h1 h2
 rw [List.pairwise_append]
 refine ⟨h1.1, List.pairwise_append.mpr ⟨h2.2.1, List.pairwise_singleton _ _, fun y hy z hz => ?_⟩, fun a ha b hb => ?_⟩
 ·rw [List.mem_singleton] at hz; subst hz; exact k y hy
 ·rcases List.mem_append.mp hb with hb | hb
  ·exact h2.2.2 a ha b hb
  ·exact h1.2.2 a ha b hb
end
section
variable {X Y O : Array Nat} {le : Nat -> Nat -> Prop} {tot : List Nat}
theorem at_get {i : Nat} (h : i < X.size) : at' X i = X[i] := by simp [at', h]
theorem at_list {i : Nat} (h : i < X.size) : X.toList[i]'(by simpa using h) = at' X i := by rw [at_get h]; simp
theorem drop_at {i : Nat} (h : i < X.size) : X.toList.drop i = at' X i :: X.toList.drop (i + 1) := by
 rw [List.drop_eq_getElem_cons (by simpa using h), at_list h]
theorem drop_cut {i j : Nat} (h : i <= j) : X.toList.drop i = (X.extract i j).toList ++ X.toList.drop j := by
 rw [Array.toList_extract, List.extract_eq_take_drop]
 have e : X.toList.drop j = (X.toList.drop i).drop (j - i) := by rw [List.drop_drop]; congr 1; lia
 rw [e, List.take_append_drop]
theorem mem_drop {i x : Nat} (h : x ∈ X.toList.drop i) : ∃ j, i <= j /\ j < X.size /\ at' X j = x := by
 obtain ⟨k, hk⟩ := List.getElem?_of_mem h
 rw [List.getElem?_drop] at hk
 obtain ⟨h1, h2⟩ := List.getElem?_eq_some_iff.mp hk
 have h1' : i + k < X.size := by simpa using h1
 exact ⟨i + k, by lia, h1', by rw [<- at_list h1']; exact h2⟩
theorem mem_cut {i j x : Nat} (h : x ∈ (X.extract i j).toList) : ∃ k, i <= k /\ k < j /\ k < X.size /\ at' X k = x := by
 obtain ⟨k, hk⟩ := List.getElem?_of_mem h
 rw [Array.toList_extract, List.extract_eq_take_drop, List.getElem?_take] at hk
 split at hk
 ·rw [List.getElem?_drop] at hk
  obtain ⟨h1, h2⟩ := List.getElem?_eq_some_iff.mp hk
  have h1' : i + k < X.size := by simpa using h1
  exact ⟨i + k, by lia, by lia, h1', by rw [<- at_list h1']; exact h2⟩
 ·cases hk
abbrev J (le : Nat -> Nat -> Prop) (tot : List Nat) (X Y O : Array Nat) (ia ib : Nat) : Prop := Inv le tot O.toList (X.toList.drop ia) (Y.toList.drop ib)
variable {ia ib : Nat}
theorem J.one (j : J le tot X Y O ia ib) (h : ia < X.size) (k : ∀ i, ib <= i -> i < Y.size -> le (at' X ia) (at' Y i)) : J le tot X Y (O.push (at' X ia)) (ia + 1) ib := by
 unfold J at j ⊢
 rw [drop_at h] at j
 have := Inv.block (xs := [at' X ia]) j (fun x hx y hy => by
  rw [List.mem_singleton] at hx
  subst hx
  obtain ⟨i, h1, h2, rfl⟩ := mem_drop hy
  exact k i h1 h2)
 rwa [Array.toList_push]
theorem J.blk {m : Nat} (j : J le tot X Y O ia ib) (k : ∀ i l, ia <= i -> i < ia + m -> i < X.size -> ib <= l -> l < Y.size -> le (at' X i) (at' Y l)) : J le tot X Y (O ++ X.extract ia (ia + m)) (ia + m) ib := by
 unfold J at j ⊢
 rw [drop_cut (j := ia + m) (by lia)] at j
 have := Inv.block j (fun x hx y hy => by
  obtain ⟨i, h1, h2, h3, rfl⟩ := mem_cut hx
  obtain ⟨l, h4, h5, rfl⟩ := mem_drop hy
  exact k i l h1 h2 h3 h4 h5)
 rwa [Array.toList_append]
theorem J.sy (j : J le tot X Y O ia ib) : J le tot Y X O ib ia := Inv.symm j
abbrev Good (le : Nat -> Nat -> Prop) (tot : List Nat) (R : Array Nat) : Prop := R.toList.Pairwise le /\ R.toList.Perm tot
theorem J.done1 (j : J le tot X Y O ia ib) (h : Y.size <= ib) (h2 : ia <= X.size) : Good le tot (O ++ X.extract ia X.size ++ Y.extract ib Y.size) := by
 unfold J at j
 rw [List.drop_of_length_le (l := Y.toList) (by simpa using h)] at j
 have e : (Y.extract ib Y.size) = #[] := by simp; lia
 have e2 : X.toList.drop ia = (X.extract ia X.size).toList := by rw [drop_cut h2]; simp
 rw [e, Array.append_empty]
 unfold Good
 rw [Array.toList_append, <- e2]
 exact j.doneA
theorem J.done2 (j : J le tot X Y O ia ib) (h : X.size <= ia) (h2 : ib <= Y.size) : Good le tot (O ++ X.extract ia X.size ++ Y.extract ib Y.size) := by
 have e : (X.extract ia X.size) = #[] := by simp; lia
 have := j.sy.done1 h h2
 rw [e, Array.append_empty] at this ⊢
 exact this
theorem J.last (j : J le tot X Y O ia ib) (h : ia + 1 = X.size) (h2 : ib <= Y.size) (k : ∀ i, i < Y.size -> le (at' Y i) (at' X ia)) : Good le tot (O ++ Y.extract ib Y.size ++ X.extract ia X.size) := by
 unfold J at j
 rw [drop_at (by lia), List.drop_of_length_le (l := X.toList) (i := ia + 1) (by simp; lia)] at j
 have := j.lastA fun y hy => by
  obtain ⟨i, h1, h2, rfl⟩ := mem_drop hy
  exact k i h2
 have e : (X.extract ia X.size).toList = [at' X ia] := by
  have e2 : X.toList.drop ia = (X.extract ia X.size).toList := by rw [drop_cut (j := X.size) (by lia)]; simp
  rw [<- e2, drop_at (by lia), List.drop_of_length_le (l := X.toList) (i := ia + 1) (by simp; lia)]
 have e3 : Y.toList.drop ib = (Y.extract ib Y.size).toList := by rw [drop_cut h2]; simp
 unfold Good
 rw [Array.toList_append, Array.toList_append, e, <- e3, List.append_assoc]
 exact this
end
end Srt
namespace Srt
open PySem PySem.W PyProof.Rows
section
variable {prog : Program} {w : World} {A : Around} {E : Value -> Shared -> Prop} {s : Shared} {κ : SortKind} {it : Array Keyed} {n : Nat} {lt : Nat -> Nat -> Bool} {le : Nat -> Nat -> Prop}
def Same (κ : SortKind) (st st' : SortSt) : Prop := kindOf st' = κ /\ arrOf st' = arrOf st /\ pendingOf st' = pendingOf st /\ failedOf st' = failedOf st
theorem Same.g {st st2 : SortSt} (h : Same κ st st2) (g : Nat) : Same κ st (SortSt.mk' (kindOf st2) (arrOf st2) (pendingOf st2) g (failedOf st2)) := h
theorem wpS_ite {σ α : Type} {M : Model} {c : Prop} [Decidable c] {a b : StateT σ Sem α} {Q : α -> σ -> Prop} {st : σ} (h1 : wpS M A E s a Q st) (h2 : wpS M A E s b Q st) : wpS M A E s (if c then a else b) Q st := by
 by_cases h : c
 ·rw [if_pos h]; exact h1
 ·rw [if_neg h]; exact h2
theorem exm (f : Nat -> Keyed) (Z : Array Nat) : (Z.map f).extract 0 Z.size = Z.map f := by
 have : Z.size = (Z.map f).size := by simp
 rw [this]; simp
theorem pw_of {X : Array Nat} (h : ∀ i j, i <= j -> j < X.size -> le (at' X i) (at' X j)) : X.toList.Pairwise le := by
 rw [List.pairwise_iff_getElem]
 intro i j hi hj hij
 have h2 : j < X.size := by simpa using hj
 rw [at_list (by lia), at_list h2]
 exact h i j (by lia) h2
theorem w_mergeLo (o : Ord lt le) (hc : Asks prog w A s κ it n lt) {X Y : Array Nat} {Q : Array Keyed -> SortSt -> Prop} {st : SortSt} (hk : kindOf st = κ) (hx : ∀ i, i < X.size -> at' X i < n) (hy : ∀ i, i < Y.size -> at' Y i < n)
  (x1 : 1 <= X.size) (y1 : 1 <= Y.size) (sx : ∀ i j, i <= j -> j < X.size -> le (at' X i) (at' X j)) (sy : ∀ i j, i <= j -> j < Y.size -> le (at' Y i) (at' Y j)) (hf : ∀ i, i < X.size -> le (at' Y 0) (at' X i)) (hl : ∀ i, i < Y.size -> le (at' Y i) (at' X (X.size - 1)))
  (h : ∀ R st', Same κ st st' -> Good le (X.toList ++ Y.toList) R -> Q (R.map (kas_item it)) st') :
  wpS (model prog w) A E s (mergeLo' (X.map (kas_item it)) (Y.map (kas_item it))) Q st := by
 have sm0 : Same κ st st := ⟨hk, rfl, rfl, rfl⟩
 have j0 : J le (X.toList ++ Y.toList) X Y #[] 0 0 := ⟨by simpa using pw_of sx, by simpa using pw_of sy, by simp⟩
 have j1 : J le (X.toList ++ Y.toList) X Y #[at' Y 0] 0 1 := (j0.sy.one (by lia) fun i _ h2 => hf i h2).sy
 refine wpS_bind (wpS_lift (wpAny_rule ⟨rfl, ?_⟩))
 refine wpS_bind (w_elem (by lia) ?_)
 dsimp only
 simp only [Array.size_map, beq_iff_eq]
 by_cases e1 : 1 = Y.size
 ·rw [if_pos e1]
  refine wpS_pure ?_
  have := h _ st sm0 (j1.done1 (by lia) (by lia))
  simpa [exm] using this
 rw [if_neg e1]
 by_cases e2 : 0 + 1 = X.size
 ·rw [if_pos e2]
  refine wpS_pure ?_
  have := h _ st sm0 (j1.last (by lia) (by lia) fun i hi => by have := hl i hi; rwa [show X.size - 1 = 0 by lia] at this)
  simpa [exm] using this
 rw [if_neg e2]
 refine wpS_bind (wpS_get ?_)
 refine wpS_bind (wpS_mono (wpS_forRange (I := fun x c st2 => Same κ st st2 /\ ∃ O ia ib g, c = (none, O.map (kas_item it), ia, ib, g) /\ ia + 1 < X.size /\ ib < Y.size /\ x + 1 <= ia + ib /\ J le (X.toList ++ Y.toList) X Y O ia ib)
  (Q := fun c st2 => ∃ R, c.1 = some (R.map (kas_item it)) /\ Good le (X.toList ++ Y.toList) R /\ Same κ st st2) ?s1 ?f1 ?i1) ?p1)
 case i1 => exact ⟨sm0, #[at' Y 0], 0, 1, _, by simp; rfl, by lia, by lia, by lia, j1⟩
 case f1 =>
  rintro c st2 ⟨sm, O, ia, ib, g, rfl, la, lb, ls, j⟩
  lia
 case p1 =>
  rintro ⟨c, c'⟩ st2 ⟨R, hc1, hR, sm⟩
  dsimp only at hc1
  subst hc1
  exact wpS_pure (h R st2 sm hR)
 case s1 =>
  rintro x c st2 _ hx0 ⟨sm, O, ia, ib, g, rfl, la, lb, ls, j⟩
  dsimp only
  -- one by one
  refine wpS_bind (wpS_mono (wpS_forRange (I := fun y c st2 => Same κ st st2 /\ ∃ O ia ib a b, c = (none, O.map (kas_item it), ia, ib, a, b) /\ ia + 1 < X.size /\ ib < Y.size /\ x + 1 + y <= ia + ib /\ J le (X.toList ++ Y.toList) X Y O ia ib)
   (Q := fun c st2 => (∃ R, c.1 = some (R.map (kas_item it)) /\ Good le (X.toList ++ Y.toList) R /\ Same κ st st2) \/ (Same κ st st2 /\ ∃ O ia ib a b, c = (none, O.map (kas_item it), ia, ib, a, b) /\ ia + 1 < X.size /\ ib < Y.size /\ x + 1 + 1 <= ia + ib /\ J le (X.toList ++ Y.toList) X Y O ia ib)) ?s2 ?f2 ?i2) ?p2)
  case i2 => exact ⟨sm, O, ia, ib, 0, 0, rfl, la, lb, ls, j⟩
  case f2 =>
   rintro c st2 ⟨sm, O, ia, ib, a, b, rfl, la, lb, ls, j⟩
   lia
  case s2 =>
   clear la lb ls j sm
   rintro y c st2 _ hy0 ⟨sm, O, ia, ib, a, b, rfl, la, lb, ls, j⟩
   dsimp only
   refine wpS_bind (w_elem lb ?_)
   refine wpS_bind (w_elem (by lia) ?_)
   refine wpS_bind (w_lt hc sm.1 (hy ib lb) (hx ia (by lia)) ?_)
   dsimp only
   cases cw : lt (at' Y ib) (at' X ia) with
   | true =>
    rw [if_pos rfl]
    have l0 := o.yes _ _ cw
    have j2 : J le (X.toList ++ Y.toList) X Y (O.push (at' Y ib)) ia (ib + 1) := (j.sy.one lb fun i h1 h2 => o.tr _ _ _ l0 (sx _ _ h1 h2)).sy
    refine wpS_bind (w_elem lb ?_)
    by_cases e3 : ib + 1 = Y.size
    ·rw [if_pos e3]
     refine wpS_pure (.inl ⟨(O.push (at' Y ib)) ++ X.extract ia X.size ++ Y.extract (ib + 1) Y.size, ?_, j2.done1 (by lia) (by lia), sm⟩)
     simp
    ·rw [if_neg e3]
     refine wpS_ite ?_ ?_
     ·exact wpS_pure (.inr ⟨sm, O.push (at' Y ib), ia, ib + 1, _, _, by rw [Array.map_push], by lia, by lia, by lia, j2⟩)
     ·exact wpS_pure ⟨sm, O.push (at' Y ib), ia, ib + 1, _, _, by rw [Array.map_push], by lia, by lia, by lia, j2⟩
   | false =>
    rw [if_neg (by decide)]
    have l0 := o.no _ _ cw
    have j2 := j.one (by lia) fun i h1 h2 => o.tr _ _ _ l0 (sy _ _ h1 h2)
    refine wpS_bind (w_elem (by lia) ?_)
    by_cases e3 : ia + 1 + 1 = X.size
    ·rw [if_pos e3]
     refine wpS_pure (.inl ⟨(O.push (at' X ia)) ++ Y.extract ib Y.size ++ X.extract (ia + 1) X.size, ?_, j2.last (by lia) (by lia) (fun i hi => by have := hl i hi; rwa [show X.size - 1 = ia + 1 by lia] at this), sm⟩)
     simp
    ·rw [if_neg e3]
     refine wpS_ite ?_ ?_
     ·exact wpS_pure (.inr ⟨sm, O.push (at' X ia), ia + 1, ib, _, _, by rw [Array.map_push], by lia, by lia, by lia, j2⟩)
     ·exact wpS_pure ⟨sm, O.push (at' X ia), ia + 1, ib, _, _, by rw [Array.map_push], by lia, by lia, by lia, j2⟩
  case p2 =>
   clear la lb ls j sm
   rintro ⟨c, c'⟩ st2 (⟨R, hc1, hR, sm⟩ | ⟨sm, O, ia, ib, a, b, hcc, la, lb, ls, j⟩)
   ·dsimp only at hc1
    subst hc1
    exact wpS_pure ⟨R, rfl, hR, sm⟩
   cases hcc
   dsimp only
   refine wpS_bind (wpS_lift (wpAny_rule ⟨rfl, ?_⟩))
   have hst : ∃ start, start = x + 1 + 1 := ⟨_, rfl⟩
   obtain ⟨start, hst⟩ := hst
   rw [<- hst] at ls
   refine wpS_bind (wpS_mono (wpS_forRange (I := fun y c st2 => Same κ st st2 /\ ∃ O ia ib m a b, c = (none, O.map (kas_item it), ia, ib, m, a, b) /\ ia + 1 < X.size /\ ib < Y.size /\ start <= ia + ib /\ J le (X.toList ++ Y.toList) X Y O ia ib)
    (Q := fun c st2 => (∃ R, c.1 = some (R.map (kas_item it)) /\ Good le (X.toList ++ Y.toList) R /\ Same κ st st2) \/ (Same κ st st2 /\ ∃ O ia ib m a b, c = (none, O.map (kas_item it), ia, ib, m, a, b) /\ ia + 1 < X.size /\ ib < Y.size /\ start <= ia + ib /\ J le (X.toList ++ Y.toList) X Y O ia ib)) ?s3 ?f3 ?i3) ?p3)
   case i3 => exact ⟨sm, O, ia, ib, _, _, _, rfl, la, lb, ls, j⟩
   case f3 => exact fun c st2 h => .inr h
   case p3 =>
    clear la lb ls j sm
    rintro ⟨c, c'⟩ st2 (⟨R, hc1, hR, sm⟩ | ⟨sm, O, ia, ib, m, a, b, hcc, la, lb, ls, j⟩)
    ·dsimp only at hc1
     subst hc1
     exact wpS_pure ⟨R, rfl, hR, sm⟩
    cases hcc
    dsimp only
    refine wpS_bind (wpS_modify (wpS_pure ?_))
    exact ⟨sm.g _, O, ia, ib, _, rfl, la, lb, by lia, j⟩
   case s3 =>
    clear la lb ls j sm
    rintro y c st2 _ hy0 ⟨sm, O, ia, ib, m, a, b, rfl, la, lb, ls, j⟩
    dsimp only
    by_cases hm : m > 1
    ·rw [if_pos hm]
     refine wpS_bind (wpS_modify ?_)
     replace sm := sm.g (m - 1)
     refine wpS_bind (w_elem lb ?_)
     refine wpS_bind (w_gallop o hc sm.1 hx (hy ib lb) (by lia) (by lia) (fun i k h1 h2 => sx _ _ (by lia) (by lia)) fun k k1 k2 k3 => ?_)
     dsimp only
     have k2' : ∀ i, ia <= i -> i < ia + k -> le (at' X i) (at' Y ib) := fun i h1 h2 => by
      have := k2 (i - ia) (by lia)
      rwa [show ia + (i - ia) = i by lia] at this
     have ky : ∀ i, ia + k <= i -> i < X.size -> le (at' Y ib) (at' X i) := fun i h1 h2 => by
      have := k3 (i - ia) (by lia) (by lia)
      rwa [show ia + (i - ia) = i by lia] at this
     by_cases k0 : k > 0
     ·rw [if_pos k0]
      replace j := j.blk (m := k) fun i l h1 h2 h3 h4 h5 => o.tr _ _ _ (k2' i h1 h2) (sy _ _ h4 h5)
      have eO : O.map (kas_item it) ++ (X.map (kas_item it)).extract ia (ia + k) = (O ++ X.extract ia (ia + k)).map (kas_item it) := by simp
      rw [eO]
      by_cases e1 : ia + k + 1 = X.size
      ·rw [if_pos e1]
       refine wpS_pure (.inl ⟨O ++ X.extract ia (ia + k) ++ Y.extract ib Y.size ++ X.extract (ia + k) X.size, ?_, j.last (by lia) (by lia) (fun i hi => by have := hl i hi; rwa [show X.size - 1 = ia + k by lia] at this), sm⟩)
       simp
      rw [if_neg e1]
      by_cases e2 : ia + k = X.size
      ·rw [if_pos e2]
       refine wpS_pure (.inl ⟨O ++ X.extract ia (ia + k) ++ X.extract (ia + k) X.size ++ Y.extract ib Y.size, ?_, j.done2 (by lia) (by lia), sm⟩)
       simp
      rw [if_neg e2]
      have la2 : ia + k + 1 < X.size := by lia
      have ls2 : start <= ia + k + ib := by lia
      clear k2' k2 k3 eO e1 e2
      generalize O ++ X.extract ia (ia + k) = O at j ⊢
      generalize hia : ia + k = ia at j la2 ls2 ky ⊢
      clear la ls k1 hia
      rename_i ia0 _
      clear k0
      have la := la2
      have ls := ls2
      -- y0
      refine wpS_bind (w_elem lb ?_)
      have j2 : J le (X.toList ++ Y.toList) X Y (O.push (at' Y ib)) ia (ib + 1) := (j.sy.one lb fun i h1 h2 => ky i h1 h2).sy
      by_cases e3 : ib + 1 = Y.size
      ·rw [if_pos e3]
       refine wpS_pure (.inl ⟨(O.push (at' Y ib)) ++ X.extract ia X.size ++ Y.extract (ib + 1) Y.size, ?_, j2.done1 (by lia) (by lia), sm⟩)
       simp
      ·rw [if_neg e3]
       refine wpS_bind (w_elem (by lia) ?_)
       refine wpS_bind (w_gallop o hc sm.1 hy (hx ia (by lia)) (by lia) (by lia) (fun i k h1 h2 => sy _ _ (by lia) (by lia)) fun k k1 k2 k3 => ?_)
       dsimp only
       have k2' : ∀ i, ib + 1 <= i -> i < ib + 1 + k -> le (at' Y i) (at' X ia) := fun i h1 h2 => by
        have := k2 (i - (ib + 1)) (by lia)
        rwa [show ib + 1 + (i - (ib + 1)) = i by lia] at this
       have k3' : ∀ i, ib + 1 + k <= i -> i < Y.size -> le (at' X ia) (at' Y i) := fun i h1 h2 => by
        have := k3 (i - (ib + 1)) (by lia) (by lia)
        rwa [show ib + 1 + (i - (ib + 1)) = i by lia] at this
       have j3 : J le (X.toList ++ Y.toList) X Y (O.push (at' Y ib) ++ Y.extract (ib + 1) (ib + 1 + k)) ia (ib + 1 + k) := (j2.sy.blk fun i l h1 h2 h3 h4 h5 => o.tr _ _ _ (k2' i h1 h2) (sx _ _ h4 h5)).sy
       by_cases k0 : k > 0
       ·rw [if_pos k0]
        by_cases e4 : ib + 1 + k = Y.size
        ·rw [if_pos e4]
         refine wpS_pure (.inl ⟨(O.push (at' Y ib)) ++ Y.extract (ib + 1) (ib + 1 + k) ++ X.extract ia X.size ++ Y.extract (ib + 1 + k) Y.size, ?_, j3.done1 (by lia) (by lia), sm⟩)
         simp
        ·rw [if_neg e4]
         refine wpS_bind (w_elem (by lia) ?_)
         have j4 := j3.one (by lia) fun i h1 h2 => k3' i h1 h2
         by_cases e5 : ia + 1 + 1 = X.size
         ·rw [if_pos e5]
          refine wpS_pure (.inl ⟨(O.push (at' Y ib) ++ Y.extract (ib + 1) (ib + 1 + k)).push (at' X ia) ++ Y.extract (ib + 1 + k) Y.size ++ X.extract (ia + 1) X.size, ?_, j4.last (by lia) (by lia) (fun i hi => by have := hl i hi; rwa [show X.size - 1 = ia + 1 by lia] at this), sm⟩)
          simp
         ·rw [if_neg e5]
          have fin : ∀ m c d, ∃ O' ia' ib' m' c' d', ((none, ((O.map (kas_item it)).push (kas_item it (at' Y ib)) ++ (Y.map (kas_item it)).extract (ib + 1) (ib + 1 + k)).push (kas_item it (at' X ia)), ia + 1, ib + 1 + k, m, c, d) : Option (Array Keyed) × Array Keyed × Nat × Nat × Nat × Nat × Nat) = (none, O'.map (kas_item it), ia', ib', m', c', d') /\ ia' + 1 < X.size /\ ib' < Y.size /\ start <= ia' + ib' /\ J le (X.toList ++ Y.toList) X Y O' ia' ib' := fun m c d => ⟨_, _, _, m, c, d, by rw [show (((O.map (kas_item it)).push (kas_item it (at' Y ib)) ++ (Y.map (kas_item it)).extract (ib + 1) (ib + 1 + k)).push (kas_item it (at' X ia))) = ((O.push (at' Y ib) ++ Y.extract (ib + 1) (ib + 1 + k)).push (at' X ia)).map (kas_item it) by simp], by lia, by lia, by lia, j4⟩
          refine wpS_ite ?_ ?_
          ·exact wpS_pure (.inr ⟨sm, fin _ _ _⟩)
          ·exact wpS_pure ⟨sm, fin _ _ _⟩
       ·rw [if_neg k0]
        have k00 : k = 0 := by lia
        subst k00
        have j3' : J le (X.toList ++ Y.toList) X Y (O.push (at' Y ib)) ia (ib + 1) := j2
        refine wpS_bind (w_elem (by lia) ?_)
        have j4 := j3'.one (by lia) fun i h1 h2 => k3' i (by lia) h2
        by_cases e5 : ia + 1 + 1 = X.size
        ·rw [if_pos e5]
         refine wpS_pure (.inl ⟨(O.push (at' Y ib)).push (at' X ia) ++ Y.extract (ib + 1) Y.size ++ X.extract (ia + 1) X.size, ?_, j4.last (by lia) (by lia) (fun i hi => by have := hl i hi; rwa [show X.size - 1 = ia + 1 by lia] at this), sm⟩)
         simp
        ·rw [if_neg e5]
         have fin : ∀ m c d, ∃ O' ia' ib' m' c' d', ((none, ((O.map (kas_item it)).push (kas_item it (at' Y ib))).push (kas_item it (at' X ia)), ia + 1, ib + 1, m, c, d) : Option (Array Keyed) × Array Keyed × Nat × Nat × Nat × Nat × Nat) = (none, O'.map (kas_item it), ia', ib', m', c', d') /\ ia' + 1 < X.size /\ ib' < Y.size /\ start <= ia' + ib' /\ J le (X.toList ++ Y.toList) X Y O' ia' ib' := fun m c d => ⟨_, _, _, m, c, d, by rw [show ((O.map (kas_item it)).push (kas_item it (at' Y ib))).push (kas_item it (at' X ia)) = ((O.push (at' Y ib)).push (at' X ia)).map (kas_item it) by simp], by lia, by lia, by lia, j4⟩
         refine wpS_ite ?_ ?_
         ·exact wpS_pure (.inr ⟨sm, fin _ _ _⟩)
         ·exact wpS_pure ⟨sm, fin _ _ _⟩
     ·rw [if_neg k0]
      have k00 : k = 0 := by lia
      subst k00
      replace ky : ∀ i, ia <= i -> i < X.size -> le (at' Y ib) (at' X i) := ky
      -- y0
      refine wpS_bind (w_elem lb ?_)
      have j2 : J le (X.toList ++ Y.toList) X Y (O.push (at' Y ib)) ia (ib + 1) := (j.sy.one lb fun i h1 h2 => ky i h1 h2).sy
      by_cases e3 : ib + 1 = Y.size
      ·rw [if_pos e3]
       refine wpS_pure (.inl ⟨(O.push (at' Y ib)) ++ X.extract ia X.size ++ Y.extract (ib + 1) Y.size, ?_, j2.done1 (by lia) (by lia), sm⟩)
       simp
      ·rw [if_neg e3]
       refine wpS_bind (w_elem (by lia) ?_)
       refine wpS_bind (w_gallop o hc sm.1 hy (hx ia (by lia)) (by lia) (by lia) (fun i k h1 h2 => sy _ _ (by lia) (by lia)) fun k k1 k2 k3 => ?_)
       dsimp only
       have k2' : ∀ i, ib + 1 <= i -> i < ib + 1 + k -> le (at' Y i) (at' X ia) := fun i h1 h2 => by
        have := k2 (i - (ib + 1)) (by lia)
        rwa [show ib + 1 + (i - (ib + 1)) = i by lia] at this
       have k3' : ∀ i, ib + 1 + k <= i -> i < Y.size -> le (at' X ia) (at' Y i) := fun i h1 h2 => by
        have := k3 (i - (ib + 1)) (by lia) (by lia)
        rwa [show ib + 1 + (i - (ib + 1)) = i by lia] at this
       have j3 : J le (X.toList ++ Y.toList) X Y (O.push (at' Y ib) ++ Y.extract (ib + 1) (ib + 1 + k)) ia (ib + 1 + k) := (j2.sy.blk fun i l h1 h2 h3 h4 h5 => o.tr _ _ _ (k2' i h1 h2) (sx _ _ h4 h5)).sy
       by_cases k0 : k > 0
       ·rw [if_pos k0]
        by_cases e4 : ib + 1 + k = Y.size
        ·rw [if_pos e4]
         refine wpS_pure (.inl ⟨(O.push (at' Y ib)) ++ Y.extract (ib + 1) (ib + 1 + k) ++ X.extract ia X.size ++ Y.extract (ib + 1 + k) Y.size, ?_, j3.done1 (by lia) (by lia), sm⟩)
         simp
        ·rw [if_neg e4]
         refine wpS_bind (w_elem (by lia) ?_)
         have j4 := j3.one (by lia) fun i h1 h2 => k3' i h1 h2
         by_cases e5 : ia + 1 + 1 = X.size
         ·rw [if_pos e5]
          refine wpS_pure (.inl ⟨(O.push (at' Y ib) ++ Y.extract (ib + 1) (ib + 1 + k)).push (at' X ia) ++ Y.extract (ib + 1 + k) Y.size ++ X.extract (ia + 1) X.size, ?_, j4.last (by lia) (by lia) (fun i hi => by have := hl i hi; rwa [show X.size - 1 = ia + 1 by lia] at this), sm⟩)
          simp
         ·rw [if_neg e5]
          have fin : ∀ m c d, ∃ O' ia' ib' m' c' d', ((none, ((O.map (kas_item it)).push (kas_item it (at' Y ib)) ++ (Y.map (kas_item it)).extract (ib + 1) (ib + 1 + k)).push (kas_item it (at' X ia)), ia + 1, ib + 1 + k, m, c, d) : Option (Array Keyed) × Array Keyed × Nat × Nat × Nat × Nat × Nat) = (none, O'.map (kas_item it), ia', ib', m', c', d') /\ ia' + 1 < X.size /\ ib' < Y.size /\ start <= ia' + ib' /\ J le (X.toList ++ Y.toList) X Y O' ia' ib' := fun m c d => ⟨_, _, _, m, c, d, by rw [show (((O.map (kas_item it)).push (kas_item it (at' Y ib)) ++ (Y.map (kas_item it)).extract (ib + 1) (ib + 1 + k)).push (kas_item it (at' X ia))) = ((O.push (at' Y ib) ++ Y.extract (ib + 1) (ib + 1 + k)).push (at' X ia)).map (kas_item it) by simp], by lia, by lia, by lia, j4⟩
          refine wpS_ite ?_ ?_
          ·exact wpS_pure (.inr ⟨sm, fin _ _ _⟩)
          ·exact wpS_pure ⟨sm, fin _ _ _⟩
       ·rw [if_neg k0]
        have k00 : k = 0 := by lia
        subst k00
        have j3' : J le (X.toList ++ Y.toList) X Y (O.push (at' Y ib)) ia (ib + 1) := j2
        refine wpS_bind (w_elem (by lia) ?_)
        have j4 := j3'.one (by lia) fun i h1 h2 => k3' i (by lia) h2
        by_cases e5 : ia + 1 + 1 = X.size
        ·rw [if_pos e5]
         refine wpS_pure (.inl ⟨(O.push (at' Y ib)).push (at' X ia) ++ Y.extract (ib + 1) Y.size ++ X.extract (ia + 1) X.size, ?_, j4.last (by lia) (by lia) (fun i hi => by have := hl i hi; rwa [show X.size - 1 = ia + 1 by lia] at this), sm⟩)
         simp
        ·rw [if_neg e5]
         have fin : ∀ m c d, ∃ O' ia' ib' m' c' d', ((none, ((O.map (kas_item it)).push (kas_item it (at' Y ib))).push (kas_item it (at' X ia)), ia + 1, ib + 1, m, c, d) : Option (Array Keyed) × Array Keyed × Nat × Nat × Nat × Nat × Nat) = (none, O'.map (kas_item it), ia', ib', m', c', d') /\ ia' + 1 < X.size /\ ib' < Y.size /\ start <= ia' + ib' /\ J le (X.toList ++ Y.toList) X Y O' ia' ib' := fun m c d => ⟨_, _, _, m, c, d, by rw [show ((O.map (kas_item it)).push (kas_item it (at' Y ib))).push (kas_item it (at' X ia)) = ((O.push (at' Y ib)).push (at' X ia)).map (kas_item it) by simp], by lia, by lia, by lia, j4⟩
         refine wpS_ite ?_ ?_
         ·exact wpS_pure (.inr ⟨sm, fin _ _ _⟩)
         ·exact wpS_pure ⟨sm, fin _ _ _⟩
    ·rw [if_neg hm]
     refine wpS_bind (wpS_modify ?_)
     replace sm := sm.g (m)
     refine wpS_bind (w_elem lb ?_)
     refine wpS_bind (w_gallop o hc sm.1 hx (hy ib lb) (by lia) (by lia) (fun i k h1 h2 => sx _ _ (by lia) (by lia)) fun k k1 k2 k3 => ?_)
     dsimp only
     have k2' : ∀ i, ia <= i -> i < ia + k -> le (at' X i) (at' Y ib) := fun i h1 h2 => by
      have := k2 (i - ia) (by lia)
      rwa [show ia + (i - ia) = i by lia] at this
     have ky : ∀ i, ia + k <= i -> i < X.size -> le (at' Y ib) (at' X i) := fun i h1 h2 => by
      have := k3 (i - ia) (by lia) (by lia)
      rwa [show ia + (i - ia) = i by lia] at this
     by_cases k0 : k > 0
     ·rw [if_pos k0]
      replace j := j.blk (m := k) fun i l h1 h2 h3 h4 h5 => o.tr _ _ _ (k2' i h1 h2) (sy _ _ h4 h5)
      have eO : O.map (kas_item it) ++ (X.map (kas_item it)).extract ia (ia + k) = (O ++ X.extract ia (ia + k)).map (kas_item it) := by simp
      rw [eO]
      by_cases e1 : ia + k + 1 = X.size
      ·rw [if_pos e1]
       refine wpS_pure (.inl ⟨O ++ X.extract ia (ia + k) ++ Y.extract ib Y.size ++ X.extract (ia + k) X.size, ?_, j.last (by lia) (by lia) (fun i hi => by have := hl i hi; rwa [show X.size - 1 = ia + k by lia] at this), sm⟩)
       simp
      rw [if_neg e1]
      by_cases e2 : ia + k = X.size
      ·rw [if_pos e2]
       refine wpS_pure (.inl ⟨O ++ X.extract ia (ia + k) ++ X.extract (ia + k) X.size ++ Y.extract ib Y.size, ?_, j.done2 (by lia) (by lia), sm⟩)
       simp
      rw [if_neg e2]
      have la2 : ia + k + 1 < X.size := by lia
      have ls2 : start <= ia + k + ib := by lia
      clear k2' k2 k3 eO e1 e2
      generalize O ++ X.extract ia (ia + k) = O at j ⊢
      generalize hia : ia + k = ia at j la2 ls2 ky ⊢
      clear la ls k1 hia
      rename_i ia0 _
      clear k0
      have la := la2
      have ls := ls2
      -- y0
      refine wpS_bind (w_elem lb ?_)
      have j2 : J le (X.toList ++ Y.toList) X Y (O.push (at' Y ib)) ia (ib + 1) := (j.sy.one lb fun i h1 h2 => ky i h1 h2).sy
      by_cases e3 : ib + 1 = Y.size
      ·rw [if_pos e3]
       refine wpS_pure (.inl ⟨(O.push (at' Y ib)) ++ X.extract ia X.size ++ Y.extract (ib + 1) Y.size, ?_, j2.done1 (by lia) (by lia), sm⟩)
       simp
      ·rw [if_neg e3]
       refine wpS_bind (w_elem (by lia) ?_)
       refine wpS_bind (w_gallop o hc sm.1 hy (hx ia (by lia)) (by lia) (by lia) (fun i k h1 h2 => sy _ _ (by lia) (by lia)) fun k k1 k2 k3 => ?_)
       dsimp only
       have k2' : ∀ i, ib + 1 <= i -> i < ib + 1 + k -> le (at' Y i) (at' X ia) := fun i h1 h2 => by
        have := k2 (i - (ib + 1)) (by lia)
        rwa [show ib + 1 + (i - (ib + 1)) = i by lia] at this
       have k3' : ∀ i, ib + 1 + k <= i -> i < Y.size -> le (at' X ia) (at' Y i) := fun i h1 h2 => by
        have := k3 (i - (ib + 1)) (by lia) (by lia)
        rwa [show ib + 1 + (i - (ib + 1)) = i by lia] at this
       have j3 : J le (X.toList ++ Y.toList) X Y (O.push (at' Y ib) ++ Y.extract (ib + 1) (ib + 1 + k)) ia (ib + 1 + k) := (j2.sy.blk fun i l h1 h2 h3 h4 h5 => o.tr _ _ _ (k2' i h1 h2) (sx _ _ h4 h5)).sy
       by_cases k0 : k > 0
       ·rw [if_pos k0]
        by_cases e4 : ib + 1 + k = Y.size
        ·rw [if_pos e4]
         refine wpS_pure (.inl ⟨(O.push (at' Y ib)) ++ Y.extract (ib + 1) (ib + 1 + k) ++ X.extract ia X.size ++ Y.extract (ib + 1 + k) Y.size, ?_, j3.done1 (by lia) (by lia), sm⟩)
         simp
        ·rw [if_neg e4]
         refine wpS_bind (w_elem (by lia) ?_)
         have j4 := j3.one (by lia) fun i h1 h2 => k3' i h1 h2
         by_cases e5 : ia + 1 + 1 = X.size
         ·rw [if_pos e5]
          refine wpS_pure (.inl ⟨(O.push (at' Y ib) ++ Y.extract (ib + 1) (ib + 1 + k)).push (at' X ia) ++ Y.extract (ib + 1 + k) Y.size ++ X.extract (ia + 1) X.size, ?_, j4.last (by lia) (by lia) (fun i hi => by have := hl i hi; rwa [show X.size - 1 = ia + 1 by lia] at this), sm⟩)
          simp
         ·rw [if_neg e5]
          have fin : ∀ m c d, ∃ O' ia' ib' m' c' d', ((none, ((O.map (kas_item it)).push (kas_item it (at' Y ib)) ++ (Y.map (kas_item it)).extract (ib + 1) (ib + 1 + k)).push (kas_item it (at' X ia)), ia + 1, ib + 1 + k, m, c, d) : Option (Array Keyed) × Array Keyed × Nat × Nat × Nat × Nat × Nat) = (none, O'.map (kas_item it), ia', ib', m', c', d') /\ ia' + 1 < X.size /\ ib' < Y.size /\ start <= ia' + ib' /\ J le (X.toList ++ Y.toList) X Y O' ia' ib' := fun m c d => ⟨_, _, _, m, c, d, by rw [show (((O.map (kas_item it)).push (kas_item it (at' Y ib)) ++ (Y.map (kas_item it)).extract (ib + 1) (ib + 1 + k)).push (kas_item it (at' X ia))) = ((O.push (at' Y ib) ++ Y.extract (ib + 1) (ib + 1 + k)).push (at' X ia)).map (kas_item it) by simp], by lia, by lia, by lia, j4⟩
          refine wpS_ite ?_ ?_
          ·exact wpS_pure (.inr ⟨sm, fin _ _ _⟩)
          ·exact wpS_pure ⟨sm, fin _ _ _⟩
       ·rw [if_neg k0]
        have k00 : k = 0 := by lia
        subst k00
        have j3' : J le (X.toList ++ Y.toList) X Y (O.push (at' Y ib)) ia (ib + 1) := j2
        refine wpS_bind (w_elem (by lia) ?_)
        have j4 := j3'.one (by lia) fun i h1 h2 => k3' i (by lia) h2
        by_cases e5 : ia + 1 + 1 = X.size
        ·rw [if_pos e5]
         refine wpS_pure (.inl ⟨(O.push (at' Y ib)).push (at' X ia) ++ Y.extract (ib + 1) Y.size ++ X.extract (ia + 1) X.size, ?_, j4.last (by lia) (by lia) (fun i hi => by have := hl i hi; rwa [show X.size - 1 = ia + 1 by lia] at this), sm⟩)
         simp
        ·rw [if_neg e5]
         have fin : ∀ m c d, ∃ O' ia' ib' m' c' d', ((none, ((O.map (kas_item it)).push (kas_item it (at' Y ib))).push (kas_item it (at' X ia)), ia + 1, ib + 1, m, c, d) : Option (Array Keyed) × Array Keyed × Nat × Nat × Nat × Nat × Nat) = (none, O'.map (kas_item it), ia', ib', m', c', d') /\ ia' + 1 < X.size /\ ib' < Y.size /\ start <= ia' + ib' /\ J le (X.toList ++ Y.toList) X Y O' ia' ib' := fun m c d => ⟨_, _, _, m, c, d, by rw [show ((O.map (kas_item it)).push (kas_item it (at' Y ib))).push (kas_item it (at' X ia)) = ((O.push (at' Y ib)).push (at' X ia)).map (kas_item it) by simp], by lia, by lia, by lia, j4⟩
         refine wpS_ite ?_ ?_
         ·exact wpS_pure (.inr ⟨sm, fin _ _ _⟩)
         ·exact wpS_pure ⟨sm, fin _ _ _⟩
     ·rw [if_neg k0]
      have k00 : k = 0 := by lia
      subst k00
      replace ky : ∀ i, ia <= i -> i < X.size -> le (at' Y ib) (at' X i) := ky
      -- y0
      refine wpS_bind (w_elem lb ?_)
      have j2 : J le (X.toList ++ Y.toList) X Y (O.push (at' Y ib)) ia (ib + 1) := (j.sy.one lb fun i h1 h2 => ky i h1 h2).sy
      by_cases e3 : ib + 1 = Y.size
      ·rw [if_pos e3]
       refine wpS_pure (.inl ⟨(O.push (at' Y ib)) ++ X.extract ia X.size ++ Y.extract (ib + 1) Y.size, ?_, j2.done1 (by lia) (by lia), sm⟩)
       simp
      ·rw [if_neg e3]
       refine wpS_bind (w_elem (by lia) ?_)
       refine wpS_bind (w_gallop o hc sm.1 hy (hx ia (by lia)) (by lia) (by lia) (fun i k h1 h2 => sy _ _ (by lia) (by lia)) fun k k1 k2 k3 => ?_)
       dsimp only
       have k2' : ∀ i, ib + 1 <= i -> i < ib + 1 + k -> le (at' Y i) (at' X ia) := fun i h1 h2 => by
        have := k2 (i - (ib + 1)) (by lia)
        rwa [show ib + 1 + (i - (ib + 1)) = i by lia] at this
       have k3' : ∀ i, ib + 1 + k <= i -> i < Y.size -> le (at' X ia) (at' Y i) := fun i h1 h2 => by
        have := k3 (i - (ib + 1)) (by lia) (by lia)
        rwa [show ib + 1 + (i - (ib + 1)) = i by lia] at this
       have j3 : J le (X.toList ++ Y.toList) X Y (O.push (at' Y ib) ++ Y.extract (ib + 1) (ib + 1 + k)) ia (ib + 1 + k) := (j2.sy.blk fun i l h1 h2 h3 h4 h5 => o.tr _ _ _ (k2' i h1 h2) (sx _ _ h4 h5)).sy
       by_cases k0 : k > 0
       ·rw [if_pos k0]
        by_cases e4 : ib + 1 + k = Y.size
        ·rw [if_pos e4]
         refine wpS_pure (.inl ⟨(O.push (at' Y ib)) ++ Y.extract (ib + 1) (ib + 1 + k) ++ X.extract ia X.size ++ Y.extract (ib + 1 + k) Y.size, ?_, j3.done1 (by lia) (by lia), sm⟩)
         simp
        ·rw [if_neg e4]
         refine wpS_bind (w_elem (by lia) ?_)
         have j4 := j3.one (by lia) fun i h1 h2 => k3' i h1 h2
         by_cases e5 : ia + 1 + 1 = X.size
         ·rw [if_pos e5]
          refine wpS_pure (.inl ⟨(O.push (at' Y ib) ++ Y.extract (ib + 1) (ib + 1 + k)).push (at' X ia) ++ Y.extract (ib + 1 + k) Y.size ++ X.extract (ia + 1) X.size, ?_, j4.last (by lia) (by lia) (fun i hi => by have := hl i hi; rwa [show X.size - 1 = ia + 1 by lia] at this), sm⟩)
          simp
         ·rw [if_neg e5]
          have fin : ∀ m c d, ∃ O' ia' ib' m' c' d', ((none, ((O.map (kas_item it)).push (kas_item it (at' Y ib)) ++ (Y.map (kas_item it)).extract (ib + 1) (ib + 1 + k)).push (kas_item it (at' X ia)), ia + 1, ib + 1 + k, m, c, d) : Option (Array Keyed) × Array Keyed × Nat × Nat × Nat × Nat × Nat) = (none, O'.map (kas_item it), ia', ib', m', c', d') /\ ia' + 1 < X.size /\ ib' < Y.size /\ start <= ia' + ib' /\ J le (X.toList ++ Y.toList) X Y O' ia' ib' := fun m c d => ⟨_, _, _, m, c, d, by rw [show (((O.map (kas_item it)).push (kas_item it (at' Y ib)) ++ (Y.map (kas_item it)).extract (ib + 1) (ib + 1 + k)).push (kas_item it (at' X ia))) = ((O.push (at' Y ib) ++ Y.extract (ib + 1) (ib + 1 + k)).push (at' X ia)).map (kas_item it) by simp], by lia, by lia, by lia, j4⟩
          refine wpS_ite ?_ ?_
          ·exact wpS_pure (.inr ⟨sm, fin _ _ _⟩)
          ·exact wpS_pure ⟨sm, fin _ _ _⟩
       ·rw [if_neg k0]
        have k00 : k = 0 := by lia
        subst k00
        have j3' : J le (X.toList ++ Y.toList) X Y (O.push (at' Y ib)) ia (ib + 1) := j2
        refine wpS_bind (w_elem (by lia) ?_)
        have j4 := j3'.one (by lia) fun i h1 h2 => k3' i (by lia) h2
        by_cases e5 : ia + 1 + 1 = X.size
        ·rw [if_pos e5]
         refine wpS_pure (.inl ⟨(O.push (at' Y ib)).push (at' X ia) ++ Y.extract (ib + 1) Y.size ++ X.extract (ia + 1) X.size, ?_, j4.last (by lia) (by lia) (fun i hi => by have := hl i hi; rwa [show X.size - 1 = ia + 1 by lia] at this), sm⟩)
         simp
        ·rw [if_neg e5]
         have fin : ∀ m c d, ∃ O' ia' ib' m' c' d', ((none, ((O.map (kas_item it)).push (kas_item it (at' Y ib))).push (kas_item it (at' X ia)), ia + 1, ib + 1, m, c, d) : Option (Array Keyed) × Array Keyed × Nat × Nat × Nat × Nat × Nat) = (none, O'.map (kas_item it), ia', ib', m', c', d') /\ ia' + 1 < X.size /\ ib' < Y.size /\ start <= ia' + ib' /\ J le (X.toList ++ Y.toList) X Y O' ia' ib' := fun m c d => ⟨_, _, _, m, c, d, by rw [show ((O.map (kas_item it)).push (kas_item it (at' Y ib))).push (kas_item it (at' X ia)) = ((O.push (at' Y ib)).push (at' X ia)).map (kas_item it) by simp], by lia, by lia, by lia, j4⟩
         refine wpS_ite ?_ ?_
         ·exact wpS_pure (.inr ⟨sm, fin _ _ _⟩)
         ·exact wpS_pure ⟨sm, fin _ _ _⟩
end
section
variable {X Y O : Array Nat} {le : Nat -> Nat -> Prop} {tot : List Nat} {na nb : Nat}
theorem take_at {i : Nat} (h : i < X.size) : X.toList.take (i + 1) = X.toList.take i ++ [at' X i] := by
 rw [List.take_succ_eq_append_getElem (by simpa using h), at_list h]
theorem take_cut {i j : Nat} (h : i <= j) : X.toList.take j = X.toList.take i ++ (X.extract i j).toList := by
 rw [Array.toList_extract, List.extract_eq_take_drop]
 have e : j = i + (j - i) := by lia
 conv => lhs; rw [e, List.take_add]
theorem mem_take {i x : Nat} (h : x ∈ X.toList.take i) : ∃ j, j < i /\ j < X.size /\ at' X j = x := by
 obtain ⟨k, hk⟩ := List.getElem?_of_mem h
 rw [List.getElem?_take] at hk
 split at hk
 ·obtain ⟨h1, h2⟩ := List.getElem?_eq_some_iff.mp hk
  have h1' : k < X.size := by simpa using h1
  exact ⟨k, by lia, h1', by rw [<- at_list h1']; exact h2⟩
 ·cases hk
abbrev JH (le : Nat -> Nat -> Prop) (tot : List Nat) (X Y O : Array Nat) (na nb : Nat) : Prop := Inv (fun a b => le b a) tot O.toList (X.toList.take na).reverse (Y.toList.take nb).reverse
theorem JH.sy (j : JH le tot X Y O na nb) : JH le tot Y X O nb na := Inv.symm j
theorem JH.one (j : JH le tot X Y O na nb) (h : 1 <= na) (h2 : na <= X.size) (k : ∀ i, i < nb -> le (at' Y i) (at' X (na - 1))) : JH le tot X Y (O.push (at' X (na - 1))) (na - 1) nb := by
 unfold JH at j ⊢
 obtain ⟨m, rfl⟩ : ∃ m, na = m + 1 := ⟨na - 1, by lia⟩
 rw [take_at (by lia), List.reverse_append] at j
 rw [Nat.add_sub_cancel] at k ⊢
 have := Inv.block (xs := [at' X m]) j (fun x hx y hy => by
  rw [List.mem_singleton] at hx
  subst hx
  obtain ⟨i, h1, h2, rfl⟩ := mem_take (List.mem_reverse.mp hy)
  exact k i h1)
 rwa [Array.toList_push]
theorem JH.blk {m : Nat} (j : JH le tot X Y O na nb) (h : m <= na) (h2 : na <= X.size) (k : ∀ i l, m <= i -> i < na -> l < nb -> le (at' Y l) (at' X i)) : JH le tot X Y (O ++ (X.extract m na).reverse) m nb := by
 unfold JH at j ⊢
 rw [take_cut h, List.reverse_append] at j
 have := Inv.block j (fun x hx y hy => by
  obtain ⟨i, h1, h2, h3, rfl⟩ := mem_cut (List.mem_reverse.mp hx)
  obtain ⟨l, h4, h5, rfl⟩ := mem_take (List.mem_reverse.mp hy)
  exact k i l h1 h2 h4)
 rwa [Array.toList_append, Array.toList_reverse]
theorem rev_good {l r : List Nat} (h : l.Pairwise (fun a b => le b a) /\ l.Perm tot) (e : l = r.reverse) : r.Pairwise le /\ r.Perm tot := by
 subst e
 exact ⟨List.pairwise_reverse.mp h.1, (List.reverse_perm _).symm.trans h.2⟩
theorem cut0 (m : Nat) : (X.extract 0 m).toList = X.toList.take m := by rw [Array.toList_extract, List.extract_eq_take_drop]; simp
theorem JH.done1 (j : JH le tot X Y O na nb) (h : nb = 0) (h2 : na <= X.size) : Good le tot (X.extract 0 na ++ Y.extract 0 nb ++ O.reverse) := by
 subst h
 refine rev_good (l := O.toList ++ (X.toList.take na).reverse) (Inv.doneA (by unfold JH at j; simpa using j)) ?_
 simp [cut0]
theorem JH.done2 (j : JH le tot X Y O na nb) (h : na = 0) (h2 : nb <= Y.size) : Good le tot (X.extract 0 na ++ Y.extract 0 nb ++ O.reverse) := by
 have := j.sy.done1 h h2
 subst h
 simpa using this
theorem JH.first (j : JH le tot X Y O na nb) (h : nb = 1) (y1 : 1 <= Y.size) (h2 : na <= X.size) (k : ∀ i, i < X.size -> le (at' Y 0) (at' X i)) : Good le tot (Y.extract 0 nb ++ X.extract 0 na ++ O.reverse) := by
 subst h
 have e : Y.toList.take 1 = [at' Y 0] := by rw [take_at (i := 0) (by lia)]; simp
 have j2 : Inv (fun a b => le b a) tot O.toList [at' Y 0] (X.toList.take na).reverse := by have := j.sy; unfold JH at this; rw [e] at this; exact this
 refine rev_good (j2.lastA fun y hy => ?_) ?_
 ·obtain ⟨i, h1, h2, rfl⟩ := mem_take (List.mem_reverse.mp hy)
  exact k i h2
 ·rw [Array.toList_append, Array.toList_append, cut0, cut0, e]
  simp
end
section
variable {prog : Program} {w : World} {A : Around} {E : Value -> Shared -> Prop} {s : Shared} {κ : SortKind} {it : Array Keyed} {n : Nat} {lt : Nat -> Nat -> Bool} {le : Nat -> Nat -> Prop}
theorem w_mergeHi (o : Ord lt le) (hc : Asks prog w A s κ it n lt) {X Y : Array Nat} {Q : Array Keyed -> SortSt -> Prop} {st : SortSt} (hk : kindOf st = κ) (hx : ∀ i, i < X.size -> at' X i < n) (hy : ∀ i, i < Y.size -> at' Y i < n)
  (x1 : 1 <= X.size) (y1 : 1 <= Y.size) (sx : ∀ i j, i <= j -> j < X.size -> le (at' X i) (at' X j)) (sy : ∀ i j, i <= j -> j < Y.size -> le (at' Y i) (at' Y j)) (hf : ∀ i, i < X.size -> le (at' Y 0) (at' X i)) (hl : ∀ i, i < Y.size -> le (at' Y i) (at' X (X.size - 1)))
  (h : ∀ R st', Same κ st st' -> Good le (X.toList ++ Y.toList) R -> Q (R.map (kas_item it)) st') :
  wpS (model prog w) A E s (mergeHi' (X.map (kas_item it)) (Y.map (kas_item it))) Q st := by
 have sm0 : Same κ st st := ⟨hk, rfl, rfl, rfl⟩
 have j0 : JH le (X.toList ++ Y.toList) X Y #[] X.size Y.size := by
  have ex : X.toList.take X.size = X.toList := List.take_of_length_le (by simp)
  have ey : Y.toList.take Y.size = Y.toList := List.take_of_length_le (by simp)
  unfold JH
  rw [ex, ey]
  exact ⟨by simpa using List.pairwise_reverse.mpr (pw_of sx), by simpa using List.pairwise_reverse.mpr (pw_of sy), by simpa using (List.reverse_perm X.toList).append (List.reverse_perm Y.toList)⟩
 have j1 : JH le (X.toList ++ Y.toList) X Y #[at' X (X.size - 1)] (X.size - 1) Y.size := j0.one x1 (Nat.le_refl _) fun i h2 => hl i h2
 refine wpS_bind (wpS_lift (wpAny_rule ⟨rfl, ?_⟩))
 dsimp only
 simp only [Array.size_map, beq_iff_eq]
 refine wpS_bind (w_elem (X := X) (by lia) ?_)
 by_cases e1 : X.size - 1 = 0
 ·rw [if_pos e1]
  refine wpS_pure ?_
  have := h _ st sm0 (j1.done2 e1 (by lia))
  simpa [exm] using this
 rw [if_neg e1]
 by_cases e2 : Y.size = 1
 ·rw [if_pos e2]
  refine wpS_pure ?_
  have := h _ st sm0 (j1.first e2 (by lia) (by lia) hf)
  simpa [exm] using this
 rw [if_neg e2]
 refine wpS_bind (wpS_get ?_)
 refine wpS_bind (wpS_mono (wpS_forRange (I := fun x c st2 => Same κ st st2 /\ ∃ O na nb g, c = (none, na, nb, O.map (kas_item it), g) /\ 1 <= na /\ 1 < nb /\ na < X.size /\ nb <= Y.size /\ na + nb + (x + 1) <= X.size + Y.size /\ JH le (X.toList ++ Y.toList) X Y O na nb)
  (Q := fun c st2 => ∃ R, c.1 = some (R.map (kas_item it)) /\ Good le (X.toList ++ Y.toList) R /\ Same κ st st2) ?s1 ?f1 ?i1) ?p1)
 case i1 => exact ⟨sm0, #[at' X (X.size - 1)], X.size - 1, Y.size, _, by simp; rfl, by lia, by lia, by lia, by lia, by lia, j1⟩
 case f1 =>
  rintro c st2 ⟨sm, O, na, nb, g, rfl, la, lb, lx, ly, ls, j⟩
  lia
 case p1 =>
  rintro ⟨c, c'⟩ st2 ⟨R, hc1, hR, sm⟩
  dsimp only at hc1
  subst hc1
  exact wpS_pure (h R st2 sm hR)
 case s1 =>
  rintro x c st2 _ hx0 ⟨sm, O, na, nb, g, rfl, la, lb, lx, ly, ls, j⟩
  dsimp only
  refine wpS_bind (wpS_mono (wpS_forRange (I := fun y c st2 => Same κ st st2 /\ ∃ O na nb a b, c = (none, na, nb, O.map (kas_item it), a, b) /\ 1 <= na /\ 1 < nb /\ na < X.size /\ nb <= Y.size /\ na + nb + (x + 1 + y) <= X.size + Y.size /\ JH le (X.toList ++ Y.toList) X Y O na nb)
   (Q := fun c st2 => (∃ R, c.1 = some (R.map (kas_item it)) /\ Good le (X.toList ++ Y.toList) R /\ Same κ st st2) \/ (Same κ st st2 /\ ∃ O na nb a b, c = (none, na, nb, O.map (kas_item it), a, b) /\ 1 <= na /\ 1 < nb /\ na < X.size /\ nb <= Y.size /\ na + nb + (x + 1 + 1) <= X.size + Y.size /\ JH le (X.toList ++ Y.toList) X Y O na nb)) ?s2 ?f2 ?i2) ?p2)
  case i2 => exact ⟨sm, O, na, nb, 0, 0, rfl, la, lb, lx, ly, ls, j⟩
  case f2 =>
   rintro c st2 ⟨sm, O, na, nb, a, b, rfl, la, lb, lx, ly, ls, j⟩
   lia
  case s2 =>
   clear la lb lx ly ls j sm
   rintro y c st2 _ hy0 ⟨sm, O, na, nb, a, b, rfl, la, lb, lx, ly, ls, j⟩
   dsimp only
   refine wpS_bind (w_elem (by lia) ?_)
   refine wpS_bind (w_elem (by lia) ?_)
   refine wpS_bind (w_lt hc sm.1 (hy (nb - 1) (by lia)) (hx (na - 1) (by lia)) ?_)
   dsimp only
   cases cw : lt (at' Y (nb - 1)) (at' X (na - 1)) with
   | true =>
    rw [if_pos rfl]
    have l0 := o.yes _ _ cw
    have j2 := j.one la (by lia) fun i h1 => o.tr _ _ _ (sy i (nb - 1) (by lia) (by lia)) l0
    refine wpS_bind (w_elem (by lia) ?_)
    by_cases e3 : na - 1 = 0
    ·rw [if_pos e3]
     refine wpS_pure (.inl ⟨X.extract 0 (na - 1) ++ Y.extract 0 nb ++ (O.push (at' X (na - 1))).reverse, ?_, j2.done2 e3 (by lia), sm⟩)
     simp [Array.map_reverse]
    ·rw [if_neg e3]
     refine wpS_ite ?_ ?_
     ·exact wpS_pure (.inr ⟨sm, O.push (at' X (na - 1)), na - 1, nb, _, _, by rw [Array.map_push], by lia, by lia, by lia, by lia, by lia, j2⟩)
     ·exact wpS_pure ⟨sm, O.push (at' X (na - 1)), na - 1, nb, _, _, by rw [Array.map_push], by lia, by lia, by lia, by lia, by lia, j2⟩
   | false =>
    rw [if_neg (by decide)]
    have l0 := o.no _ _ cw
    have j2 : JH le (X.toList ++ Y.toList) X Y (O.push (at' Y (nb - 1))) na (nb - 1) := (j.sy.one (by lia) (by lia) fun i h1 => o.tr _ _ _ (sx i (na - 1) (by lia) (by lia)) l0).sy
    refine wpS_bind (w_elem (by lia) ?_)
    by_cases e3 : nb - 1 = 1
    ·rw [if_pos e3]
     refine wpS_pure (.inl ⟨Y.extract 0 (nb - 1) ++ X.extract 0 na ++ (O.push (at' Y (nb - 1))).reverse, ?_, j2.first e3 (by lia) (by lia) hf, sm⟩)
     simp [Array.map_reverse]
    ·rw [if_neg e3]
     refine wpS_ite ?_ ?_
     ·exact wpS_pure (.inr ⟨sm, O.push (at' Y (nb - 1)), na, nb - 1, _, _, by rw [Array.map_push], by lia, by lia, by lia, by lia, by lia, j2⟩)
     ·exact wpS_pure ⟨sm, O.push (at' Y (nb - 1)), na, nb - 1, _, _, by rw [Array.map_push], by lia, by lia, by lia, by lia, by lia, j2⟩
  case p2 =>
   clear la lb lx ly ls j sm
   rintro ⟨c, c'⟩ st2 (⟨R, hc1, hR, sm⟩ | ⟨sm, O, na, nb, a, b, hcc, la, lb, lx, ly, ls, j⟩)
   ·dsimp only at hc1
    subst hc1
    exact wpS_pure ⟨R, rfl, hR, sm⟩
   cases hcc
   dsimp only
   refine wpS_bind (wpS_lift (wpAny_rule ⟨rfl, ?_⟩))
   have hst : ∃ start, start = x + 1 + 1 := ⟨_, rfl⟩
   obtain ⟨start, hst⟩ := hst
   rw [<- hst] at ls
   refine wpS_bind (wpS_mono (wpS_forRange (I := fun y c st2 => Same κ st st2 /\ ∃ O na nb m a b, c = (none, na, nb, O.map (kas_item it), m, a, b) /\ 1 <= na /\ 1 < nb /\ na < X.size /\ nb <= Y.size /\ na + nb + start <= X.size + Y.size /\ JH le (X.toList ++ Y.toList) X Y O na nb)
    (Q := fun c st2 => (∃ R, c.1 = some (R.map (kas_item it)) /\ Good le (X.toList ++ Y.toList) R /\ Same κ st st2) \/ (Same κ st st2 /\ ∃ O na nb m a b, c = (none, na, nb, O.map (kas_item it), m, a, b) /\ 1 <= na /\ 1 < nb /\ na < X.size /\ nb <= Y.size /\ na + nb + start <= X.size + Y.size /\ JH le (X.toList ++ Y.toList) X Y O na nb)) ?s3 ?f3 ?i3) ?p3)
   case i3 => exact ⟨sm, O, na, nb, _, _, _, rfl, la, lb, lx, ly, ls, j⟩
   case f3 => exact fun c st2 h => .inr h
   case p3 =>
    clear la lb lx ly ls j sm
    rintro ⟨c, c'⟩ st2 (⟨R, hc1, hR, sm⟩ | ⟨sm, O, na, nb, m, a, b, hcc, la, lb, lx, ly, ls, j⟩)
    ·dsimp only at hc1
     subst hc1
     exact wpS_pure ⟨R, rfl, hR, sm⟩
    cases hcc
    dsimp only
    refine wpS_bind (wpS_modify (wpS_pure ?_))
    exact ⟨sm.g _, O, na, nb, _, rfl, la, lb, lx, ly, by lia, j⟩
   case s3 =>
    clear la lb lx ly ls j sm
    rintro y c st2 _ hy0 ⟨sm, O, na, nb, m, a, b, rfl, la, lb, lx, ly, ls, j⟩
    dsimp only
    by_cases hm : m > 1
    ·rw [if_pos hm]
     refine wpS_bind (wpS_modify ?_)
     replace sm := sm.g (m - 1)
     refine wpS_bind (w_elem (by lia) ?_)
     refine wpS_bind (w_gallop o hc sm.1 hx (hy (nb - 1) (by lia)) (by lia) (by lia) (fun i k h1 h2 => sx _ _ (by lia) (by lia)) fun k k1 k2 k3 => ?_)
     dsimp only
     simp only [Nat.zero_add] at k2 k3
     by_cases k0 : na - k > 0
     ·rw [if_pos k0]
      replace j := j.blk (m := k) (by lia) (by lia) fun i l h1 h2 h3 => o.tr _ _ _ (sy l (nb - 1) (by lia) (by lia)) (k3 i h1 h2)
      have eO : O.map (kas_item it) ++ ((X.map (kas_item it)).extract k na).reverse = (O ++ (X.extract k na).reverse).map (kas_item it) := by simp [Array.map_reverse]
      rw [eO]
      by_cases e1 : k = 0
      ·rw [if_pos e1]
       refine wpS_pure (.inl ⟨X.extract 0 k ++ Y.extract 0 nb ++ (O ++ (X.extract k na).reverse).reverse, ?_, j.done2 e1 (by lia), sm⟩)
       simp [Array.map_reverse]
      rw [if_neg e1]
      have la2 : 1 <= k := by lia
      have lx2 : k < X.size := by lia
      have ls2 : k + nb + start <= X.size + Y.size := by lia
      have ky : ∀ i, i < k -> le (at' X i) (at' Y (nb - 1)) := k2
      clear k2 k3 eO e1
      generalize O ++ (X.extract k na).reverse = O at j ⊢
      generalize na - k = kk at k0 ⊢
      clear k0 k1 la lx ls
      have la := la2
      have lx := lx2
      have ls := ls2
      clear la2 lx2 ls2
      obtain ⟨na, hna⟩ : ∃ na, na = k := ⟨k, rfl⟩
      subst hna
      refine wpS_bind (w_elem (by lia) ?_)
      have j2 : JH le (X.toList ++ Y.toList) X Y (O.push (at' Y (nb - 1))) na (nb - 1) := (j.sy.one (by lia) (by lia) fun i h1 => ky i h1).sy
      by_cases e3 : nb - 1 = 1
      ·rw [if_pos e3]
       refine wpS_pure (.inl ⟨Y.extract 0 (nb - 1) ++ X.extract 0 na ++ (O.push (at' Y (nb - 1))).reverse, ?_, j2.first e3 (by lia) (by lia) hf, sm⟩)
       simp [Array.map_reverse]
      ·rw [if_neg e3]
       refine wpS_bind (w_elem (by lia) ?_)
       refine wpS_bind (w_gallop o hc sm.1 hy (hx (na - 1) (by lia)) (by lia) (by lia) (fun i k h1 h2 => sy _ _ (by lia) (by lia)) fun k k1 k2 k3 => ?_)
       dsimp only
       simp only [Nat.zero_add] at k2 k3
       have j3 : JH le (X.toList ++ Y.toList) X Y (O.push (at' Y (nb - 1)) ++ (Y.extract k (nb - 1)).reverse) na k := (j2.sy.blk (by lia) (by lia) fun i l h1 h2 h3 => o.tr _ _ _ (sx l (na - 1) (by lia) (by lia)) (k3 i h1 h2)).sy
       by_cases k0 : nb - 1 - k > 0
       ·rw [if_pos k0]
        by_cases e4 : k = 1
        ·rw [if_pos e4]
         refine wpS_pure (.inl ⟨Y.extract 0 k ++ X.extract 0 na ++ (O.push (at' Y (nb - 1)) ++ (Y.extract k (nb - 1)).reverse).reverse, ?_, j3.first e4 (by lia) (by lia) hf, sm⟩)
         simp [Array.map_reverse]
        rw [if_neg e4]
        by_cases e5 : k = 0
        ·rw [if_pos e5]
         refine wpS_pure (.inl ⟨X.extract 0 na ++ Y.extract 0 k ++ (O.push (at' Y (nb - 1)) ++ (Y.extract k (nb - 1)).reverse).reverse, ?_, j3.done1 e5 (by lia), sm⟩)
         simp [Array.map_reverse]
        rw [if_neg e5]
        refine wpS_bind (w_elem (by lia) ?_)
        have j4 := j3.one (by lia) (by lia) fun i h1 => k2 i h1
        have eO : ((O.map (kas_item it)).push (kas_item it (at' Y (nb - 1))) ++ ((Y.map (kas_item it)).extract k (nb - 1)).reverse).push (kas_item it (at' X (na - 1))) = ((O.push (at' Y (nb - 1)) ++ (Y.extract k (nb - 1)).reverse).push (at' X (na - 1))).map (kas_item it) := by simp [Array.map_reverse]
        by_cases e6 : na - 1 = 0
        ·rw [if_pos e6]
         refine wpS_pure (.inl ⟨X.extract 0 (na - 1) ++ Y.extract 0 k ++ ((O.push (at' Y (nb - 1)) ++ (Y.extract k (nb - 1)).reverse).push (at' X (na - 1))).reverse, ?_, j4.done2 e6 (by lia), sm⟩)
         simp [Array.map_reverse]
        ·rw [if_neg e6]
         have fin : ∀ m c d, ∃ O' na' nb' m' c' d', ((none, na - 1, k, ((O.map (kas_item it)).push (kas_item it (at' Y (nb - 1))) ++ ((Y.map (kas_item it)).extract k (nb - 1)).reverse).push (kas_item it (at' X (na - 1))), m, c, d) : Option (Array Keyed) × Nat × Nat × Array Keyed × Nat × Nat × Nat) = (none, na', nb', O'.map (kas_item it), m', c', d') /\ 1 <= na' /\ 1 < nb' /\ na' < X.size /\ nb' <= Y.size /\ na' + nb' + start <= X.size + Y.size /\ JH le (X.toList ++ Y.toList) X Y O' na' nb' := fun m c d => ⟨_, _, _, m, c, d, by rw [eO], by lia, by lia, by lia, by lia, by lia, j4⟩
         refine wpS_ite ?_ ?_
         ·exact wpS_pure (.inr ⟨sm, fin _ _ _⟩)
         ·exact wpS_pure ⟨sm, fin _ _ _⟩
       ·rw [if_neg k0]
        have k00 : k = nb - 1 := by lia
        subst k00
        refine wpS_bind (w_elem (by lia) ?_)
        have j4 := j2.one (by lia) (by lia) fun i h1 => k2 i h1
        have eO : ((O.map (kas_item it)).push (kas_item it (at' Y (nb - 1)))).push (kas_item it (at' X (na - 1))) = ((O.push (at' Y (nb - 1))).push (at' X (na - 1))).map (kas_item it) := by simp
        by_cases e6 : na - 1 = 0
        ·rw [if_pos e6]
         refine wpS_pure (.inl ⟨X.extract 0 (na - 1) ++ Y.extract 0 (nb - 1) ++ ((O.push (at' Y (nb - 1))).push (at' X (na - 1))).reverse, ?_, j4.done2 e6 (by lia), sm⟩)
         simp [Array.map_reverse]
        ·rw [if_neg e6]
         have fin : ∀ m c d, ∃ O' na' nb' m' c' d', ((none, na - 1, nb - 1, ((O.map (kas_item it)).push (kas_item it (at' Y (nb - 1)))).push (kas_item it (at' X (na - 1))), m, c, d) : Option (Array Keyed) × Nat × Nat × Array Keyed × Nat × Nat × Nat) = (none, na', nb', O'.map (kas_item it), m', c', d') /\ 1 <= na' /\ 1 < nb' /\ na' < X.size /\ nb' <= Y.size /\ na' + nb' + start <= X.size + Y.size /\ JH le (X.toList ++ Y.toList) X Y O' na' nb' := fun m c d => ⟨_, _, _, m, c, d, by rw [eO], by lia, by lia, by lia, by lia, by lia, j4⟩
         refine wpS_ite ?_ ?_
         ·exact wpS_pure (.inr ⟨sm, fin _ _ _⟩)
         ·exact wpS_pure ⟨sm, fin _ _ _⟩
     ·rw [if_neg k0]
      have k00 : na = k := by lia
      subst k00
      have ky : ∀ i, i < na -> le (at' X i) (at' Y (nb - 1)) := k2
      refine wpS_bind (w_elem (by lia) ?_)
      have j2 : JH le (X.toList ++ Y.toList) X Y (O.push (at' Y (nb - 1))) na (nb - 1) := (j.sy.one (by lia) (by lia) fun i h1 => ky i h1).sy
      by_cases e3 : nb - 1 = 1
      ·rw [if_pos e3]
       refine wpS_pure (.inl ⟨Y.extract 0 (nb - 1) ++ X.extract 0 na ++ (O.push (at' Y (nb - 1))).reverse, ?_, j2.first e3 (by lia) (by lia) hf, sm⟩)
       simp [Array.map_reverse]
      ·rw [if_neg e3]
       refine wpS_bind (w_elem (by lia) ?_)
       refine wpS_bind (w_gallop o hc sm.1 hy (hx (na - 1) (by lia)) (by lia) (by lia) (fun i k h1 h2 => sy _ _ (by lia) (by lia)) fun k k1 k2 k3 => ?_)
       dsimp only
       simp only [Nat.zero_add] at k2 k3
       have j3 : JH le (X.toList ++ Y.toList) X Y (O.push (at' Y (nb - 1)) ++ (Y.extract k (nb - 1)).reverse) na k := (j2.sy.blk (by lia) (by lia) fun i l h1 h2 h3 => o.tr _ _ _ (sx l (na - 1) (by lia) (by lia)) (k3 i h1 h2)).sy
       by_cases k0 : nb - 1 - k > 0
       ·rw [if_pos k0]
        by_cases e4 : k = 1
        ·rw [if_pos e4]
         refine wpS_pure (.inl ⟨Y.extract 0 k ++ X.extract 0 na ++ (O.push (at' Y (nb - 1)) ++ (Y.extract k (nb - 1)).reverse).reverse, ?_, j3.first e4 (by lia) (by lia) hf, sm⟩)
         simp [Array.map_reverse]
        rw [if_neg e4]
        by_cases e5 : k = 0
        ·rw [if_pos e5]
         refine wpS_pure (.inl ⟨X.extract 0 na ++ Y.extract 0 k ++ (O.push (at' Y (nb - 1)) ++ (Y.extract k (nb - 1)).reverse).reverse, ?_, j3.done1 e5 (by lia), sm⟩)
         simp [Array.map_reverse]
        rw [if_neg e5]
        refine wpS_bind (w_elem (by lia) ?_)
        have j4 := j3.one (by lia) (by lia) fun i h1 => k2 i h1
        have eO : ((O.map (kas_item it)).push (kas_item it (at' Y (nb - 1))) ++ ((Y.map (kas_item it)).extract k (nb - 1)).reverse).push (kas_item it (at' X (na - 1))) = ((O.push (at' Y (nb - 1)) ++ (Y.extract k (nb - 1)).reverse).push (at' X (na - 1))).map (kas_item it) := by simp [Array.map_reverse]
        by_cases e6 : na - 1 = 0
        ·rw [if_pos e6]
         refine wpS_pure (.inl ⟨X.extract 0 (na - 1) ++ Y.extract 0 k ++ ((O.push (at' Y (nb - 1)) ++ (Y.extract k (nb - 1)).reverse).push (at' X (na - 1))).reverse, ?_, j4.done2 e6 (by lia), sm⟩)
         simp [Array.map_reverse]
        ·rw [if_neg e6]
         have fin : ∀ m c d, ∃ O' na' nb' m' c' d', ((none, na - 1, k, ((O.map (kas_item it)).push (kas_item it (at' Y (nb - 1))) ++ ((Y.map (kas_item it)).extract k (nb - 1)).reverse).push (kas_item it (at' X (na - 1))), m, c, d) : Option (Array Keyed) × Nat × Nat × Array Keyed × Nat × Nat × Nat) = (none, na', nb', O'.map (kas_item it), m', c', d') /\ 1 <= na' /\ 1 < nb' /\ na' < X.size /\ nb' <= Y.size /\ na' + nb' + start <= X.size + Y.size /\ JH le (X.toList ++ Y.toList) X Y O' na' nb' := fun m c d => ⟨_, _, _, m, c, d, by rw [eO], by lia, by lia, by lia, by lia, by lia, j4⟩
         refine wpS_ite ?_ ?_
         ·exact wpS_pure (.inr ⟨sm, fin _ _ _⟩)
         ·exact wpS_pure ⟨sm, fin _ _ _⟩
       ·rw [if_neg k0]
        have k00 : k = nb - 1 := by lia
        subst k00
        refine wpS_bind (w_elem (by lia) ?_)
        have j4 := j2.one (by lia) (by lia) fun i h1 => k2 i h1
        have eO : ((O.map (kas_item it)).push (kas_item it (at' Y (nb - 1)))).push (kas_item it (at' X (na - 1))) = ((O.push (at' Y (nb - 1))).push (at' X (na - 1))).map (kas_item it) := by simp
        by_cases e6 : na - 1 = 0
        ·rw [if_pos e6]
         refine wpS_pure (.inl ⟨X.extract 0 (na - 1) ++ Y.extract 0 (nb - 1) ++ ((O.push (at' Y (nb - 1))).push (at' X (na - 1))).reverse, ?_, j4.done2 e6 (by lia), sm⟩)
         simp [Array.map_reverse]
        ·rw [if_neg e6]
         have fin : ∀ m c d, ∃ O' na' nb' m' c' d', ((none, na - 1, nb - 1, ((O.map (kas_item it)).push (kas_item it (at' Y (nb - 1)))).push (kas_item it (at' X (na - 1))), m, c, d) : Option (Array Keyed) × Nat × Nat × Array Keyed × Nat × Nat × Nat) = (none, na', nb', O'.map (kas_item it), m', c', d') /\ 1 <= na' /\ 1 < nb' /\ na' < X.size /\ nb' <= Y.size /\ na' + nb' + start <= X.size + Y.size /\ JH le (X.toList ++ Y.toList) X Y O' na' nb' := fun m c d => ⟨_, _, _, m, c, d, by rw [eO], by lia, by lia, by lia, by lia, by lia, j4⟩
         refine wpS_ite ?_ ?_
         ·exact wpS_pure (.inr ⟨sm, fin _ _ _⟩)
         ·exact wpS_pure ⟨sm, fin _ _ _⟩
    ·rw [if_neg hm]
     refine wpS_bind (wpS_modify ?_)
     replace sm := sm.g (m)
     refine wpS_bind (w_elem (by lia) ?_)
     refine wpS_bind (w_gallop o hc sm.1 hx (hy (nb - 1) (by lia)) (by lia) (by lia) (fun i k h1 h2 => sx _ _ (by lia) (by lia)) fun k k1 k2 k3 => ?_)
     dsimp only
     simp only [Nat.zero_add] at k2 k3
     by_cases k0 : na - k > 0
     ·rw [if_pos k0]
      replace j := j.blk (m := k) (by lia) (by lia) fun i l h1 h2 h3 => o.tr _ _ _ (sy l (nb - 1) (by lia) (by lia)) (k3 i h1 h2)
      have eO : O.map (kas_item it) ++ ((X.map (kas_item it)).extract k na).reverse = (O ++ (X.extract k na).reverse).map (kas_item it) := by simp [Array.map_reverse]
      rw [eO]
      by_cases e1 : k = 0
      ·rw [if_pos e1]
       refine wpS_pure (.inl ⟨X.extract 0 k ++ Y.extract 0 nb ++ (O ++ (X.extract k na).reverse).reverse, ?_, j.done2 e1 (by lia), sm⟩)
       simp [Array.map_reverse]
      rw [if_neg e1]
      have la2 : 1 <= k := by lia
      have lx2 : k < X.size := by lia
      have ls2 : k + nb + start <= X.size + Y.size := by lia
      have ky : ∀ i, i < k -> le (at' X i) (at' Y (nb - 1)) := k2
      clear k2 k3 eO e1
      generalize O ++ (X.extract k na).reverse = O at j ⊢
      generalize na - k = kk at k0 ⊢
      clear k0 k1 la lx ls
      have la := la2
      have lx := lx2
      have ls := ls2
      clear la2 lx2 ls2
      obtain ⟨na, hna⟩ : ∃ na, na = k := ⟨k, rfl⟩
      subst hna
      refine wpS_bind (w_elem (by lia) ?_)
      have j2 : JH le (X.toList ++ Y.toList) X Y (O.push (at' Y (nb - 1))) na (nb - 1) := (j.sy.one (by lia) (by lia) fun i h1 => ky i h1).sy
      by_cases e3 : nb - 1 = 1
      ·rw [if_pos e3]
       refine wpS_pure (.inl ⟨Y.extract 0 (nb - 1) ++ X.extract 0 na ++ (O.push (at' Y (nb - 1))).reverse, ?_, j2.first e3 (by lia) (by lia) hf, sm⟩)
       simp [Array.map_reverse]
      ·rw [if_neg e3]
       refine wpS_bind (w_elem (by lia) ?_)
       refine wpS_bind (w_gallop o hc sm.1 hy (hx (na - 1) (by lia)) (by lia) (by lia) (fun i k h1 h2 => sy _ _ (by lia) (by lia)) fun k k1 k2 k3 => ?_)
       dsimp only
       simp only [Nat.zero_add] at k2 k3
       have j3 : JH le (X.toList ++ Y.toList) X Y (O.push (at' Y (nb - 1)) ++ (Y.extract k (nb - 1)).reverse) na k := (j2.sy.blk (by lia) (by lia) fun i l h1 h2 h3 => o.tr _ _ _ (sx l (na - 1) (by lia) (by lia)) (k3 i h1 h2)).sy
       by_cases k0 : nb - 1 - k > 0
       ·rw [if_pos k0]
        by_cases e4 : k = 1
        ·rw [if_pos e4]
         refine wpS_pure (.inl ⟨Y.extract 0 k ++ X.extract 0 na ++ (O.push (at' Y (nb - 1)) ++ (Y.extract k (nb - 1)).reverse).reverse, ?_, j3.first e4 (by lia) (by lia) hf, sm⟩)
         simp [Array.map_reverse]
        rw [if_neg e4]
        by_cases e5 : k = 0
        ·rw [if_pos e5]
         refine wpS_pure (.inl ⟨X.extract 0 na ++ Y.extract 0 k ++ (O.push (at' Y (nb - 1)) ++ (Y.extract k (nb - 1)).reverse).reverse, ?_, j3.done1 e5 (by lia), sm⟩)
         simp [Array.map_reverse]
        rw [if_neg e5]
        refine wpS_bind (w_elem (by lia) ?_)
        have j4 := j3.one (by lia) (by lia) fun i h1 => k2 i h1
        have eO : ((O.map (kas_item it)).push (kas_item it (at' Y (nb - 1))) ++ ((Y.map (kas_item it)).extract k (nb - 1)).reverse).push (kas_item it (at' X (na - 1))) = ((O.push (at' Y (nb - 1)) ++ (Y.extract k (nb - 1)).reverse).push (at' X (na - 1))).map (kas_item it) := by simp [Array.map_reverse]
        by_cases e6 : na - 1 = 0
        ·rw [if_pos e6]
         refine wpS_pure (.inl ⟨X.extract 0 (na - 1) ++ Y.extract 0 k ++ ((O.push (at' Y (nb - 1)) ++ (Y.extract k (nb - 1)).reverse).push (at' X (na - 1))).reverse, ?_, j4.done2 e6 (by lia), sm⟩)
         simp [Array.map_reverse]
        ·rw [if_neg e6]
         have fin : ∀ m c d, ∃ O' na' nb' m' c' d', ((none, na - 1, k, ((O.map (kas_item it)).push (kas_item it (at' Y (nb - 1))) ++ ((Y.map (kas_item it)).extract k (nb - 1)).reverse).push (kas_item it (at' X (na - 1))), m, c, d) : Option (Array Keyed) × Nat × Nat × Array Keyed × Nat × Nat × Nat) = (none, na', nb', O'.map (kas_item it), m', c', d') /\ 1 <= na' /\ 1 < nb' /\ na' < X.size /\ nb' <= Y.size /\ na' + nb' + start <= X.size + Y.size /\ JH le (X.toList ++ Y.toList) X Y O' na' nb' := fun m c d => ⟨_, _, _, m, c, d, by rw [eO], by lia, by lia, by lia, by lia, by lia, j4⟩
         refine wpS_ite ?_ ?_
         ·exact wpS_pure (.inr ⟨sm, fin _ _ _⟩)
         ·exact wpS_pure ⟨sm, fin _ _ _⟩
       ·rw [if_neg k0]
        have k00 : k = nb - 1 := by lia
        subst k00
        refine wpS_bind (w_elem (by lia) ?_)
        have j4 := j2.one (by lia) (by lia) fun i h1 => k2 i h1
        have eO : ((O.map (kas_item it)).push (kas_item it (at' Y (nb - 1)))).push (kas_item it (at' X (na - 1))) = ((O.push (at' Y (nb - 1))).push (at' X (na - 1))).map (kas_item it) := by simp
        by_cases e6 : na - 1 = 0
        ·rw [if_pos e6]
         refine wpS_pure (.inl ⟨X.extract 0 (na - 1) ++ Y.extract 0 (nb - 1) ++ ((O.push (at' Y (nb - 1))).push (at' X (na - 1))).reverse, ?_, j4.done2 e6 (by lia), sm⟩)
         simp [Array.map_reverse]
        ·rw [if_neg e6]
         have fin : ∀ m c d, ∃ O' na' nb' m' c' d', ((none, na - 1, nb - 1, ((O.map (kas_item it)).push (kas_item it (at' Y (nb - 1)))).push (kas_item it (at' X (na - 1))), m, c, d) : Option (Array Keyed) × Nat × Nat × Array Keyed × Nat × Nat × Nat) = (none, na', nb', O'.map (kas_item it), m', c', d') /\ 1 <= na' /\ 1 < nb' /\ na' < X.size /\ nb' <= Y.size /\ na' + nb' + start <= X.size + Y.size /\ JH le (X.toList ++ Y.toList) X Y O' na' nb' := fun m c d => ⟨_, _, _, m, c, d, by rw [eO], by lia, by lia, by lia, by lia, by lia, j4⟩
         refine wpS_ite ?_ ?_
         ·exact wpS_pure (.inr ⟨sm, fin _ _ _⟩)
         ·exact wpS_pure ⟨sm, fin _ _ _⟩
     ·rw [if_neg k0]
      have k00 : na = k := by lia
      subst k00
      have ky : ∀ i, i < na -> le (at' X i) (at' Y (nb - 1)) := k2
      refine wpS_bind (w_elem (by lia) ?_)
      have j2 : JH le (X.toList ++ Y.toList) X Y (O.push (at' Y (nb - 1))) na (nb - 1) := (j.sy.one (by lia) (by lia) fun i h1 => ky i h1).sy
      by_cases e3 : nb - 1 = 1
      ·rw [if_pos e3]
       refine wpS_pure (.inl ⟨Y.extract 0 (nb - 1) ++ X.extract 0 na ++ (O.push (at' Y (nb - 1))).reverse, ?_, j2.first e3 (by lia) (by lia) hf, sm⟩)
       simp [Array.map_reverse]
      ·rw [if_neg e3]
       refine wpS_bind (w_elem (by lia) ?_)
       refine wpS_bind (w_gallop o hc sm.1 hy (hx (na - 1) (by lia)) (by lia) (by lia) (fun i k h1 h2 => sy _ _ (by lia) (by lia)) fun k k1 k2 k3 => ?_)
       dsimp only
       simp only [Nat.zero_add] at k2 k3
       have j3 : JH le (X.toList ++ Y.toList) X Y (O.push (at' Y (nb - 1)) ++ (Y.extract k (nb - 1)).reverse) na k := (j2.sy.blk (by lia) (by lia) fun i l h1 h2 h3 => o.tr _ _ _ (sx l (na - 1) (by lia) (by lia)) (k3 i h1 h2)).sy
       by_cases k0 : nb - 1 - k > 0
       ·rw [if_pos k0]
        by_cases e4 : k = 1
        ·rw [if_pos e4]
         refine wpS_pure (.inl ⟨Y.extract 0 k ++ X.extract 0 na ++ (O.push (at' Y (nb - 1)) ++ (Y.extract k (nb - 1)).reverse).reverse, ?_, j3.first e4 (by lia) (by lia) hf, sm⟩)
         simp [Array.map_reverse]
        rw [if_neg e4]
        by_cases e5 : k = 0
        ·rw [if_pos e5]
         refine wpS_pure (.inl ⟨X.extract 0 na ++ Y.extract 0 k ++ (O.push (at' Y (nb - 1)) ++ (Y.extract k (nb - 1)).reverse).reverse, ?_, j3.done1 e5 (by lia), sm⟩)
         simp [Array.map_reverse]
        rw [if_neg e5]
        refine wpS_bind (w_elem (by lia) ?_)
        have j4 := j3.one (by lia) (by lia) fun i h1 => k2 i h1
        have eO : ((O.map (kas_item it)).push (kas_item it (at' Y (nb - 1))) ++ ((Y.map (kas_item it)).extract k (nb - 1)).reverse).push (kas_item it (at' X (na - 1))) = ((O.push (at' Y (nb - 1)) ++ (Y.extract k (nb - 1)).reverse).push (at' X (na - 1))).map (kas_item it) := by simp [Array.map_reverse]
        by_cases e6 : na - 1 = 0
        ·rw [if_pos e6]
         refine wpS_pure (.inl ⟨X.extract 0 (na - 1) ++ Y.extract 0 k ++ ((O.push (at' Y (nb - 1)) ++ (Y.extract k (nb - 1)).reverse).push (at' X (na - 1))).reverse, ?_, j4.done2 e6 (by lia), sm⟩)
         simp [Array.map_reverse]
        ·rw [if_neg e6]
         have fin : ∀ m c d, ∃ O' na' nb' m' c' d', ((none, na - 1, k, ((O.map (kas_item it)).push (kas_item it (at' Y (nb - 1))) ++ ((Y.map (kas_item it)).extract k (nb - 1)).reverse).push (kas_item it (at' X (na - 1))), m, c, d) : Option (Array Keyed) × Nat × Nat × Array Keyed × Nat × Nat × Nat) = (none, na', nb', O'.map (kas_item it), m', c', d') /\ 1 <= na' /\ 1 < nb' /\ na' < X.size /\ nb' <= Y.size /\ na' + nb' + start <= X.size + Y.size /\ JH le (X.toList ++ Y.toList) X Y O' na' nb' := fun m c d => ⟨_, _, _, m, c, d, by rw [eO], by lia, by lia, by lia, by lia, by lia, j4⟩
         refine wpS_ite ?_ ?_
         ·exact wpS_pure (.inr ⟨sm, fin _ _ _⟩)
         ·exact wpS_pure ⟨sm, fin _ _ _⟩
       ·rw [if_neg k0]
        have k00 : k = nb - 1 := by lia
        subst k00
        refine wpS_bind (w_elem (by lia) ?_)
        have j4 := j2.one (by lia) (by lia) fun i h1 => k2 i h1
        have eO : ((O.map (kas_item it)).push (kas_item it (at' Y (nb - 1)))).push (kas_item it (at' X (na - 1))) = ((O.push (at' Y (nb - 1))).push (at' X (na - 1))).map (kas_item it) := by simp
        by_cases e6 : na - 1 = 0
        ·rw [if_pos e6]
         refine wpS_pure (.inl ⟨X.extract 0 (na - 1) ++ Y.extract 0 (nb - 1) ++ ((O.push (at' Y (nb - 1))).push (at' X (na - 1))).reverse, ?_, j4.done2 e6 (by lia), sm⟩)
         simp [Array.map_reverse]
        ·rw [if_neg e6]
         have fin : ∀ m c d, ∃ O' na' nb' m' c' d', ((none, na - 1, nb - 1, ((O.map (kas_item it)).push (kas_item it (at' Y (nb - 1)))).push (kas_item it (at' X (na - 1))), m, c, d) : Option (Array Keyed) × Nat × Nat × Array Keyed × Nat × Nat × Nat) = (none, na', nb', O'.map (kas_item it), m', c', d') /\ 1 <= na' /\ 1 < nb' /\ na' < X.size /\ nb' <= Y.size /\ na' + nb' + start <= X.size + Y.size /\ JH le (X.toList ++ Y.toList) X Y O' na' nb' := fun m c d => ⟨_, _, _, m, c, d, by rw [eO], by lia, by lia, by lia, by lia, by lia, j4⟩
         refine wpS_ite ?_ ?_
         ·exact wpS_pure (.inr ⟨sm, fin _ _ _⟩)
         ·exact wpS_pure ⟨sm, fin _ _ _⟩
end
section
variable {α : Type}
theorem putAll (lo : Nat) : ∀ (R : List α) (p : Array α) (j : Nat), lo + j + R.length <= p.size -> ((R.zipIdx j).foldl (fun a x => a.setIfInBounds (lo + x.2) x.1) p).toList = p.toList.take (lo + j) ++ R ++ p.toList.drop (lo + j + R.length)
 | [], p, j, _ => by simp
 | r :: R, p, j, h => by
  have hl : lo + j < p.toList.length := by simp at h ⊢; lia
  rw [List.zipIdx_cons, List.foldl_cons, putAll lo R _ (j + 1) (by simp at h ⊢; lia)]
  have e1 : (p.setIfInBounds (lo + j) r).toList = p.toList.set (lo + j) r := by simp
  have e2 : (p.toList.set (lo + j) r).take (lo + (j + 1)) = p.toList.take (lo + j) ++ [r] := by
   rw [<- Nat.add_assoc, List.take_succ_eq_append_getElem (by simpa using hl), List.take_set_of_le (Nat.le_refl _)]
   simp
  have e3 : (p.toList.set (lo + j) r).drop (lo + (j + 1) + R.length) = p.toList.drop (lo + j + (r :: R).length) := by
   rw [List.drop_set_of_lt (by lia), List.length_cons]
   congr 1; lia
  rw [e1, e2, e3]
  simp
end
section
variable {prog : Program} {w : World} {A : Around} {E : Value -> Shared -> Prop} {s : Shared} {κ : SortKind} {it : Array Keyed} {n : Nat} {lt : Nat -> Nat -> Bool} {le : Nat -> Nat -> Prop}
def Stt (κ : SortKind) (it : Array Keyed) (st : SortSt) (p : Array Nat) (pend : Array (Nat × Nat × Nat)) : Prop := kindOf st = κ /\ arrOf st = p.map (kas_item it) /\ pendingOf st = pend /\ failedOf st = none
structure Srtd (le : Nat -> Nat -> Prop) (p p' : Array Nat) (lo hi : Nat) : Prop where
 perm : p'.Perm p
 out : ∀ k, k < lo \/ hi <= k -> at' p' k = at' p k
 asc : ∀ i j, lo <= i -> i <= j -> j < hi -> le (at' p' i) (at' p' j)
theorem wpS_set {σ : Type} {M : Model} {x : σ} {Q : PUnit -> σ -> Prop} {st : σ} (h : Q ⟨⟩ x) : wpS M A E s (set x : StateT σ Sem PUnit) Q st := by
 unfold wpS
 rw [StateT.run_set]
 exact wpAny_pure ⟨rfl, h⟩
theorem at_l (l : List Nat) (k : Nat) : at' l.toArray k = (l[k]?).getD 0 := by simp [at']
theorem at_g (p : Array Nat) (k : Nat) : at' p k = (p.toList[k]?).getD 0 := by simp [at']
theorem put_at {p : Array Nat} {R : List Nat} {lo : Nat} (h : lo + R.length <= p.size) (k : Nat) : at' (p.toList.take lo ++ R ++ p.toList.drop (lo + R.length)).toArray k = if lo <= k /\ k < lo + R.length then (R[k - lo]?).getD 0 else at' p k := by
 rw [at_l, at_g]
 have hl : (p.toList.take lo).length = lo := by rw [List.length_take]; simp; lia
 by_cases h1 : k < lo
 ·rw [if_neg (by lia), List.append_assoc, List.getElem?_append_left (by lia), List.getElem?_take, if_pos h1]
 ·by_cases h2 : k < lo + R.length
  ·rw [if_pos ⟨by lia, h2⟩, List.append_assoc, List.getElem?_append_right (by lia), hl, List.getElem?_append_left (by lia)]
  ·rw [if_neg (by lia), List.getElem?_append_right (by rw [List.length_append, hl]; lia), List.length_append, hl, List.getElem?_drop]
   congr 2; lia
theorem put_perm {p : Array Nat} {R : List Nat} {lo : Nat} (h : R.Perm (p.extract lo (lo + R.length)).toList) : (p.toList.take lo ++ R ++ p.toList.drop (lo + R.length)).toArray.Perm p := by
 rw [Array.perm_iff_toList_perm]
 show (p.toList.take lo ++ R ++ p.toList.drop (lo + R.length)).Perm p.toList
 refine ((h.append_left _).append_right _).trans ?_
 rw [<- take_cut (by lia), List.take_append_drop]
theorem at_cut {p : Array Nat} {i j k : Nat} (h : i + k < j) : at' (p.extract i j) k = at' p (i + k) := by
 rw [at_g, at_g, Array.toList_extract, List.extract_eq_take_drop, List.getElem?_take, if_pos (by lia), List.getElem?_drop]
theorem size_cut {p : Array Nat} {i j : Nat} (h : j <= p.size) : (p.extract i j).size = j - i := by simp; lia
theorem w_mergeAt (o : Ord lt le) (hc : Asks prog w A s κ it n lt) {i sa na pw sb nb q : Nat} {p : Array Nat} {pend : Array (Nat × Nat × Nat)} {Q : Bool -> SortSt -> Prop} {st : SortSt} (S : Stt κ it st p pend) (h1 : pend[i]? = some (sa, na, pw)) (h2 : pend[i + 1]? = some (sb, nb, q))
  (hsb : sb = sa + na) (na1 : 1 <= na) (nb1 : 1 <= nb) (hz : sb + nb <= p.size) (hp : ∀ i, i < p.size -> at' p i < n) (sA : ∀ i j, i <= j -> j < na -> le (at' p (sa + i)) (at' p (sa + j))) (sB : ∀ i j, i <= j -> j < nb -> le (at' p (sb + i)) (at' p (sb + j)))
  (h : ∀ p' st', Stt κ it st' p' ((pend.setIfInBounds i (sa, na + nb, pw)).eraseIdxIfInBounds (i + 1)) -> Srtd le p p' sa (sa + (na + nb)) -> Q true st') : wpS (model prog w) A E s (mergeAt' i) Q st := by
 obtain ⟨S1, S2, S3, S4⟩ := S
 refine wpS_bind (wpS_get ?_)
 have S3' : (sortPriv% PySem.Builtin.SortState.pending) st = pend := S3
 have S2' : (sortPriv% PySem.Builtin.SortState.a) st = p.map (kas_item it) := S2
 rw [S3', h1, h2]
 refine wpS_bind (wpS_set ?_)
 rw [S2']
 generalize hst : (sortPriv% PySem.Builtin.SortState.mk) _ _ _ _ _ = st2
 have T : Stt κ it st2 p ((pend.setIfInBounds i (sa, na + nb, pw)).eraseIdxIfInBounds (i + 1)) := by subst hst; exact ⟨S1, rfl, rfl, S4⟩
 clear hst S1 S2 S3 S4 S2' S3' h1 h2
 generalize ((pend.setIfInBounds i (sa, na + nb, pw)).eraseIdxIfInBounds (i + 1)) = pend2 at T h
 have sA' : ∀ i j, sa <= i -> i <= j -> j < sb -> le (at' p i) (at' p j) := fun i j a1 a2 a3 => by
  have := sA (i - sa) (j - sa) (by lia) (by lia)
  rwa [show sa + (i - sa) = i by lia, show sa + (j - sa) = j by lia] at this
 have sB' : ∀ i j, sb <= i -> i <= j -> j < sb + nb -> le (at' p i) (at' p j) := fun i j a1 a2 a3 => by
  have := sB (i - sb) (j - sb) (by lia) (by lia)
  rwa [show sb + (i - sb) = i by lia, show sb + (j - sb) = j by lia] at this
 refine wpS_bind (w_elem (by lia) ?_)
 refine wpS_bind (w_gallop o hc T.1 hp (hp sb (by lia)) (by lia) (by lia) sA fun k k1 k2 k3 => ?_)
 have k2' : ∀ i, sa <= i -> i < sa + k -> le (at' p i) (at' p sb) := fun i a1 a2 => by
  have := k2 (i - sa) (by lia)
  rwa [show sa + (i - sa) = i by lia] at this
 have k3' : ∀ i, sa + k <= i -> i < sb -> le (at' p sb) (at' p i) := fun i a1 a2 => by
  have := k3 (i - sa) (by lia) (by lia)
  rwa [show sa + (i - sa) = i by lia] at this
 clear k2 k3
 dsimp only
 simp only [beq_iff_eq]
 by_cases e1 : na - k = 0
 ·rw [if_pos e1]
  refine wpS_pure (h p st2 T ⟨.refl _, fun _ _ => rfl, fun i j a1 a2 a3 => ?_⟩)
  by_cases b1 : j < sb
  ·exact sA' i j a1 a2 b1
  ·by_cases b2 : sb <= i
   ·exact sB' i j b2 a2 (by lia)
   ·exact o.tr _ _ _ (k2' i a1 (by lia)) (sB' sb j (Nat.le_refl _) (by lia) (by lia))
 rw [if_neg e1]
 refine wpS_bind (w_elem (by lia) ?_)
 have e2 : sa + k + (na - k) - 1 = sb - 1 := by lia
 rw [e2]
 refine wpS_bind (w_gallop o hc T.1 hp (hp (sb - 1) (by lia)) (by lia) (by lia) sB fun m m1 k2 k3 => ?_)
 have m2' : ∀ i, sb <= i -> i < sb + m -> le (at' p i) (at' p (sb - 1)) := fun i a1 a2 => by
  have := k2 (i - sb) (by lia)
  rwa [show sb + (i - sb) = i by lia] at this
 have m3' : ∀ i, sb + m <= i -> i < sb + nb -> le (at' p (sb - 1)) (at' p i) := fun i a1 a2 => by
  have := k3 (i - sb) (by lia) (by lia)
  rwa [show sb + (i - sb) = i by lia] at this
 clear k2 k3
 dsimp only
 by_cases e3 : m = 0
 ·rw [if_pos e3]
  subst e3
  refine wpS_pure (h p st2 T ⟨.refl _, fun _ _ => rfl, fun i j a1 a2 a3 => ?_⟩)
  by_cases b1 : j < sb
  ·exact sA' i j a1 a2 b1
  ·by_cases b2 : sb <= i
   ·exact sB' i j b2 a2 (by lia)
   ·exact o.tr _ _ _ (sA' i (sb - 1) a1 (by lia) (by lia)) (m3' j (by lia) (by lia))
 rw [if_neg e3]
 generalize hr : na - k = r
 have hr1 : na = k + r := by lia
 have hr0 : 0 < r := by lia
 clear hr e1 e2
 have zx : (p.extract (sa + k) sb).size = r := by rw [size_cut (by lia)]; lia
 have zy : (p.extract sb (sb + m)).size = m := by rw [size_cut (by lia)]; lia
 have ax : ∀ i, i < r -> at' (p.extract (sa + k) sb) i = at' p (sa + k + i) := fun i hi => at_cut (by lia)
 have ay : ∀ i, i < m -> at' (p.extract sb (sb + m)) i = at' p (sb + i) := fun i hi => at_cut (by lia)
 have exy : (p.extract (sa + k) sb).toList ++ (p.extract sb (sb + m)).toList = (p.extract (sa + k) (sb + m)).toList := by
  have a1 := take_cut (X := p) (i := sa + k) (j := sb) (by lia)
  have a2 := take_cut (X := p) (i := sb) (j := sb + m) (by lia)
  have a3 := take_cut (X := p) (i := sa + k) (j := sb + m) (by lia)
  rw [a1, a3, List.append_assoc] at a2
  exact (List.append_cancel_left a2).symm
 have key : ∀ R : Array Nat, Good le ((p.extract (sa + k) sb).toList ++ (p.extract sb (sb + m)).toList) R -> R.toList.length = r + m /\ Srtd le p (p.toList.take (sa + k) ++ R.toList ++ p.toList.drop (sa + k + R.toList.length)).toArray sa (sa + (na + nb)) := fun R g => by
  have hlen : R.toList.length = r + m := by
   rw [g.2.length_eq, List.length_append, Array.length_toList, Array.length_toList, zx, zy]
  refine ⟨hlen, ?_, fun i hi => ?_, fun i j a1 a2 a3 => ?_⟩
  ·refine put_perm ?_
   rw [hlen, show sa + k + (r + m) = sb + m by lia, <- exy]
   exact g.2
  ·rw [put_at (by lia), if_neg (by lia)]
  ·rw [put_at (by lia), put_at (by lia), hlen]
   have memR : ∀ i, i < r + m -> ∃ c, (R.toList[i]?).getD 0 = at' p c /\ ((sa + k <= c /\ c < sb) \/ (sb <= c /\ c < sb + m)) := fun i hi => by
    have hi' : i < R.toList.length := by lia
    have hm : R.toList[i] ∈ R.toList := List.getElem_mem hi'
    have e : (R.toList[i]?).getD 0 = R.toList[i] := by rw [List.getElem?_eq_getElem hi']; rfl
    rw [e]
    rcases List.mem_append.mp (g.2.mem_iff.mp hm) with hm | hm
    ·obtain ⟨c, c1, c2, c3, c4⟩ := mem_cut hm
     exact ⟨c, c4.symm, .inl ⟨c1, c2⟩⟩
    ·obtain ⟨c, c1, c2, c3, c4⟩ := mem_cut hm
     exact ⟨c, c4.symm, .inr ⟨c1, c2⟩⟩
   by_cases b1 : sa + k <= i /\ i < sa + k + (r + m)
   ·rw [if_pos b1]
    by_cases b2 : sa + k <= j /\ j < sa + k + (r + m)
    ·rw [if_pos b2]
     by_cases b3 : i = j
     ·subst b3; exact o.rf _
     ·have := List.pairwise_iff_getElem.mp g.1 (i - (sa + k)) (j - (sa + k)) (by lia) (by lia) (by lia)
      rw [List.getElem?_eq_getElem (by lia), List.getElem?_eq_getElem (by lia)]
      exact this
    ·rw [if_neg b2]
     obtain ⟨c, c1, c2⟩ := memR (i - (sa + k)) (by lia)
     rw [c1]
     rcases c2 with c2 | c2
     ·exact o.tr _ _ _ (sA' c (sb - 1) (by lia) (by lia) (by lia)) (m3' j (by lia) (by lia))
     ·exact sB' c j (by lia) (by lia) (by lia)
   ·rw [if_neg b1]
    by_cases b2 : sa + k <= j /\ j < sa + k + (r + m)
    ·rw [if_pos b2]
     obtain ⟨c, c1, c2⟩ := memR (j - (sa + k)) (by lia)
     rw [c1]
     rcases c2 with c2 | c2
     ·exact sA' i c (by lia) (by lia) (by lia)
     ·exact o.tr _ _ _ (k2' i (by lia) (by lia)) (sB' sb c (Nat.le_refl _) (by lia) (by lia))
    ·rw [if_neg b2]
     by_cases b3 : j < sb
     ·exact sA' i j a1 a2 b3
     ·by_cases b4 : sb <= i
      ·exact sB' i j b4 a2 (by lia)
      ·exact o.tr _ _ _ (k2' i a1 (by lia)) (sB' sb j (Nat.le_refl _) (by lia) (by lia))
 have fin : ∀ (R : Array Nat) (st3 : SortSt), Same κ st2 st3 -> Good le ((p.extract (sa + k) sb).toList ++ (p.extract sb (sb + m)).toList) R ->
   Q (failedOf st3).isNone (setArr st3 ((R.map (kas_item it)).toList.zipIdx.foldl (fun a x => a.setIfInBounds (sa + k + x.2) x.1) (arrOf st3))) := fun R st3 sm g => by
  obtain ⟨hlen, S⟩ := key R g
  have ea : arrOf st3 = p.map (kas_item it) := sm.2.1.trans T.2.1
  have ef : failedOf st3 = none := sm.2.2.2.trans T.2.2.2
  rw [ef]
  refine h _ _ ⟨sm.1, ?_, sm.2.2.1.trans T.2.2.1, ef⟩ S
  show (R.map (kas_item it)).toList.zipIdx.foldl (fun a x => a.setIfInBounds (sa + k + x.2) x.1) (arrOf st3) = _
  rw [ea]
  apply Array.toList_inj.mp
  rw [putAll (sa + k) _ _ 0 (by simp at hlen ⊢; lia)]
  simp
 have cx : (p.map (kas_item it)).extract (sa + k) sb = (p.extract (sa + k) sb).map (kas_item it) := by simp
 have cy : (p.map (kas_item it)).extract sb (sb + m) = (p.extract sb (sb + m)).map (kas_item it) := by simp
 rw [cx, cy]
 have hx : ∀ i, i < (p.extract (sa + k) sb).size -> at' (p.extract (sa + k) sb) i < n := fun i hi => by rw [ax i (by lia)]; exact hp _ (by lia)
 have hy : ∀ i, i < (p.extract sb (sb + m)).size -> at' (p.extract sb (sb + m)) i < n := fun i hi => by rw [ay i (by lia)]; exact hp _ (by lia)
 have sx : ∀ i j, i <= j -> j < (p.extract (sa + k) sb).size -> le (at' (p.extract (sa + k) sb) i) (at' (p.extract (sa + k) sb) j) := fun i j a1 a2 => by rw [ax i (by lia), ax j (by lia)]; exact sA' _ _ (by lia) (by lia) (by lia)
 have sy : ∀ i j, i <= j -> j < (p.extract sb (sb + m)).size -> le (at' (p.extract sb (sb + m)) i) (at' (p.extract sb (sb + m)) j) := fun i j a1 a2 => by rw [ay i (by lia), ay j (by lia)]; exact sB' _ _ (by lia) (by lia) (by lia)
 have hf : ∀ i, i < (p.extract (sa + k) sb).size -> le (at' (p.extract sb (sb + m)) 0) (at' (p.extract (sa + k) sb) i) := fun i a1 => by rw [ay 0 (by lia), ax i (by lia)]; exact k3' _ (by lia) (by lia)
 have hl : ∀ i, i < (p.extract sb (sb + m)).size -> le (at' (p.extract sb (sb + m)) i) (at' (p.extract (sa + k) sb) ((p.extract (sa + k) sb).size - 1)) := fun i a1 => by
  rw [zx, ay i (by lia), ax _ (by lia), show sa + k + (r - 1) = sb - 1 by lia]
  exact m2' _ (by lia) (by lia)
 by_cases e4 : r <= m
 ·rw [if_pos e4]
  refine wpS_bind (w_mergeLo o hc T.1 hx hy (by lia) (by lia) sx sy hf hl fun R st3 sm g => ?_)
  exact wpS_bind (wpS_modify (wpS_bind (wpS_get (wpS_pure (fin R st3 sm g)))))
 ·rw [if_neg e4]
  refine wpS_bind (w_mergeHi o hc T.1 hx hy (by lia) (by lia) sx sy hf hl fun R st3 sm g => ?_)
  exact wpS_bind (wpS_modify (wpS_bind (wpS_get (wpS_pure (fin R st3 sm g)))))
end
section
variable {le : Nat -> Nat -> Prop} {lt : Nat -> Nat -> Bool} {p p' p2 : Array Nat} {a b c : Nat}
def Up (le : Nat -> Nat -> Prop) (p : Array Nat) (a b : Nat) : Prop := ∀ i j, a <= i -> i <= j -> j < b -> le (at' p i) (at' p j)
def Dn (le : Nat -> Nat -> Prop) (p : Array Nat) (a b : Nat) : Prop := ∀ i j, a <= i -> i <= j -> j < b -> le (at' p j) (at' p i)
def Es (le : Nat -> Nat -> Prop) (p : Array Nat) (a b : Nat) : Prop := ∀ k, a <= k -> k < b -> le (at' p k) (at' p (b - 1)) /\ le (at' p (b - 1)) (at' p k)
def Near (p p' : Array Nat) (lo hi : Nat) : Prop := p'.Perm p /\ ∀ k, k < lo \/ hi <= k -> at' p' k = at' p k
theorem Near.rf : Near p p a b := ⟨.refl _, fun _ _ => rfl⟩
theorem Near.tr (h : Near p p' a b) (h2 : Near p' p2 a b) : Near p p2 a b := ⟨h2.1.trans h.1, fun k hk => (h2.2 k hk).trans (h.2 k hk)⟩
theorem Near.wide {d e : Nat} (h : Near p p' a b) (h1 : d <= a) (h2 : b <= e) : Near p p' d e := ⟨h.1, fun k hk => h.2 k (by lia)⟩
theorem Near.size (h : Near p p' a b) : p'.size = p.size := h.1.size_eq
theorem near_rev (h : b <= p.size) : Near p (kas_rev p a b) a b := ⟨mirror_perm _ _ _ _, fun k hk => by rw [at_mirror h, if_neg (by lia)]⟩
theorem near_bubble {d : Nat} (h : b < p.size) (hd : d <= b) : Near p (bubble p b d) (b - d) (b + 1) := ⟨bubble_perm _ _ _, fun k hk => by rw [at_bubble h hd, if_neg (by lia), if_neg (by lia)]⟩
theorem Up.succ (o : Ord lt le) (h : Up le p a b) (hab : a < b) (hl : le (at' p (b - 1)) (at' p b)) : Up le p a (b + 1) := fun i j h1 h2 h3 => by
 by_cases e : j = b
 ·subst e
  by_cases e2 : i = j
  ·subst e2; exact o.rf _
  ·exact o.tr _ _ _ (h i (j - 1) h1 (by lia) (by lia)) hl
 ·exact h i j h1 h2 (by lia)
theorem Dn.succ (o : Ord lt le) (h : Dn le p a b) (hab : a < b) (hl : le (at' p b) (at' p (b - 1))) : Dn le p a (b + 1) := fun i j h1 h2 h3 => by
 by_cases e : j = b
 ·subst e
  by_cases e2 : i = j
  ·subst e2; exact o.rf _
  ·exact o.tr _ _ _ hl (h i (j - 1) h1 (by lia) (by lia))
 ·exact h i j h1 h2 (by lia)
theorem up_one (o : Ord lt le) : Up le p a (a + 1) := fun i j h1 h2 h3 => by
 have : i = j := by lia
 subst this; exact o.rf _
theorem Up.of (h : Up le p a b) (k : ∀ i, a <= i -> i < b -> at' p' i = at' p i) : Up le p' a b := fun i j h1 h2 h3 => by
 rw [k i h1 (by lia), k j (by lia) h3]; exact h i j h1 h2 h3
theorem Dn.rev (o : Ord lt le) (h : Dn le p a b) (hb : b <= p.size) (hc : a <= c) (he : Es le p c b) : Dn le (kas_rev p c b) a b := by
 have key : ∀ k, a <= k -> k < b -> ∃ k', a <= k' /\ k' < b /\ at' (kas_rev p c b) k = at' p k' /\ le (at' p k') (at' p k) /\ le (at' p k) (at' p k') := fun k hk0 hk => by
  rw [at_mirror hb]
  split
  ·rename_i h1
   refine ⟨c + b - 1 - k, by lia, by lia, rfl, ?_⟩
   obtain ⟨a1, a2⟩ := he k h1.1 hk
   obtain ⟨b1, b2⟩ := he (c + b - 1 - k) (by lia) (by lia)
   exact ⟨o.tr _ _ _ b1 a2, o.tr _ _ _ a1 b2⟩
  ·exact ⟨k, hk0, hk, rfl, o.rf _, o.rf _⟩
 intro i j h0 hij hj
 obtain ⟨i', _, _, e1, x1, x2⟩ := key i h0 (by lia)
 obtain ⟨j', _, _, e2, y1, y2⟩ := key j (by lia) hj
 rw [e1, e2]
 exact o.tr _ _ _ y1 (o.tr _ _ _ (h i j h0 hij hj) x2)
theorem Dn.turn (h : Dn le p a b) (hb : b <= p.size) : Up le (kas_rev p a b) a b := by
 intro i j h0 hij hj
 rw [at_mirror hb, at_mirror hb, if_pos ⟨h0, by lia⟩, if_pos ⟨by lia, hj⟩]
 exact h _ _ (by lia) (by lia) (by lia)
theorem es_one (o : Ord lt le) (h : a + 1 = b) : Es le p a b := fun k h1 h2 => by
 have : k = b - 1 := by lia
 subst this
 exact ⟨o.rf _, o.rf _⟩
end
section
variable {prog : Program} {w : World} {A : Around} {E : Value -> Shared -> Prop} {s : Shared} {κ : SortKind} {it : Array Keyed} {n : Nat} {lt : Nat -> Nat -> Bool} {le : Nat -> Nat -> Prop} {p : Array Nat} {pend : Array (Nat × Nat × Nat)} {st : SortSt}
theorem w_ltAt (hc : Asks prog w A s κ it n lt) (S : Stt κ it st p pend) (hp : ∀ i, i < p.size -> at' p i < n) {i j : Nat} {Q : Option Bool -> SortSt -> Prop} (hi : i < p.size) (hj : j < p.size) (h : Q (some (lt (at' p i) (at' p j))) st) : wpS (model prog w) A E s (ltAt' i j) Q st := by
 rw [ltAt'_eq]
 refine wpS_bind (wpS_get ?_)
 dsimp only
 rw [S.2.1]
 exact wpS_bind (w_elem hi (wpS_bind (w_elem hj (w_lt hc S.1 (hp _ hi) (hp _ hj) h))))
theorem w_rev (S : Stt κ it st p pend) {i j : Nat} {Q : Unit -> SortSt -> Prop} (h : ∀ st', Stt κ it st' (kas_rev p i j) pend -> Q () st') : wpS (model prog w) A E s (reverseSlice' i j) Q st := by
 rw [reverseSlice'_eq]
 refine wpS_modify (h _ ⟨S.1, ?_, S.2.2⟩)
 show mirror (arrOf st) i j ((j - i) / 2) = _
 rw [S.2.1]
 exact kas_swaps_map (kas_item it) (fun k => i + k) (fun k => j - 1 - k) _ p
theorem w_move (S : Stt κ it st p pend) {i j : Nat} {Q : Unit -> SortSt -> Prop} (h : ∀ st', Stt κ it st' (bubble p i (i - j)) pend -> Q () st') : wpS (model prog w) A E s (moveDown' i j) Q st := by
 rw [moveDown'_eq]
 refine wpS_modify (h _ ⟨S.1, ?_, S.2.2⟩)
 show bubble (arrOf st) i (i - j) = _
 rw [S.2.1]
 exact kas_swaps_map (kas_item it) (fun k => i - k) (fun k => i - k - 1) _ p
theorem w_bin (o : Ord lt le) (hc : Asks prog w A s κ it n lt) (S : Stt κ it st p pend) (hp : ∀ p' : Array Nat, p'.Perm p -> ∀ i, i < p'.size -> at' p' i < n) {lo m ok : Nat} {Q : Bool -> SortSt -> Prop} (hz : lo + m <= p.size) (hok : ok <= m) (ok1 : 1 <= ok) (hs : Up le p lo (lo + ok))
  (h : ∀ p' st', Stt κ it st' p' pend -> Near p p' lo (lo + m) -> Up le p' lo (lo + m) -> Q true st') : wpS (model prog w) A E s (binarySort' lo m ok) Q st := by
 refine wpS_bind (wpS_mono (wpS_forRange (I := fun k c st' => c = (none, ()) /\ ∃ p', Stt κ it st' p' pend /\ Near p p' lo (lo + m) /\ Up le p' lo (lo + min k m))
  (Q := fun c st' => c = (none, ()) /\ ∃ p', Stt κ it st' p' pend /\ Near p p' lo (lo + m) /\ Up le p' lo (lo + m)) ?step ?fin ?init) ?post)
 case post =>
  rintro c st' ⟨rfl, p', S', N, U⟩
  exact wpS_pure (h p' st' S' N U)
 case init => exact ⟨rfl, p, S, .rf, by rw [show min (max ok 1) m = ok by lia]; exact hs⟩
 case fin =>
  rintro c st' ⟨hc', p', S', N, U⟩
  exact ⟨hc', p', S', N, by rwa [show min (max (max ok 1) m) m = m by lia] at U⟩
 case step =>
  rintro k c st' hak hkn ⟨rfl, p', S', N, U⟩
  rw [show min k m = k by lia] at U
  have hsz := N.size
  have hk1 : 1 <= k := by lia
  have hkm : k < m := by lia
  clear hak hkn hok ok1 hs
  refine wpS_bind (wpS_mono (wpS_forRange (I := fun x c st'' => st'' = st' /\ ∃ l r, c = (none, l, r) /\ l <= r /\ r <= k /\ r - l <= k - x /\
    (∀ i, i < l -> le (at' p' (lo + i)) (at' p' (lo + k))) /\ (∀ i, r <= i -> i < k -> le (at' p' (lo + k)) (at' p' (lo + i))))
   (Q := fun c st'' => st'' = st' /\ ∃ l r, c = (none, l, r) /\ l <= k /\
    (∀ i, i < l -> le (at' p' (lo + i)) (at' p' (lo + k))) /\ (∀ i, l <= i -> i < k -> le (at' p' (lo + k)) (at' p' (lo + i)))) ?istep ?ifin ?iinit) ?ipost)
  case iinit => exact ⟨rfl, 0, k, rfl, by lia, by lia, by lia, fun i hi => by lia, fun i h1 h2 => by lia⟩
  case ifin =>
   rintro c st'' ⟨rfl, l, r, rfl, hlr, hrk, hm, hlo, hhi⟩
   have : l = r := by lia
   subst this
   exact ⟨rfl, l, l, rfl, hrk, hlo, hhi⟩
  case istep =>
   rintro x c st'' _ hxk ⟨rfl, l, r, rfl, hlr, hrk, hm, hlo, hhi⟩
   dsimp only
   by_cases hge : l ≥ r
   ·rw [if_pos hge]
    have : l = r := by lia
    subst this
    exact wpS_pure ⟨rfl, l, l, rfl, hrk, hlo, hhi⟩
   ·rw [if_neg hge]
    refine wpS_bind (w_ltAt hc S' (hp _ N.1) (by lia) (by lia) ?_)
    dsimp only
    cases cw : lt (at' p' (lo + k)) (at' p' (lo + (l + r) / 2)) with
    | true =>
     rw [if_pos rfl]
     exact wpS_pure ⟨rfl, l, (l + r) / 2, rfl, by lia, by lia, by lia, hlo, fun i h1 h2 => o.tr _ _ _ (o.yes _ _ cw) (U _ _ (by lia) (by lia) (by lia))⟩
    | false =>
     rw [if_neg (by decide)]
     exact wpS_pure ⟨rfl, (l + r) / 2 + 1, r, rfl, by lia, by lia, by lia, fun i h1 => o.tr _ _ _ (U _ _ (by lia) (by lia) (by lia)) (o.no _ _ cw), hhi⟩
  case ipost =>
   rintro c st'' ⟨rfl, l, r, rfl, hlk, hlo, hhi⟩
   dsimp only
   refine wpS_bind (w_move S' fun st3 S3 => wpS_pure ⟨rfl, _, S3, N.tr ((near_bubble (by lia) (by lia)).wide (by lia) (by lia)), ?_⟩)
   rw [show min (k + 1) m = k + 1 by lia, show lo + k - (lo + l) = k - l by lia]
   intro i j h1 h2 h3
   rw [at_bubble (by lia) (by lia), at_bubble (by lia) (by lia)]
   rw [show lo + k - (k - l) = lo + l by lia]
   by_cases i1 : i = lo + l
   ·rw [if_pos i1]
    by_cases j1 : j = lo + l
    ·rw [if_pos j1]; exact o.rf _
    ·rw [if_neg j1]
     rw [if_pos (by lia)]
     have := hhi (j - 1 - lo) (by lia) (by lia)
     rwa [show lo + (j - 1 - lo) = j - 1 by lia] at this
   ·rw [if_neg i1]
    by_cases j1 : j = lo + l
    ·rw [if_pos j1, if_neg (by lia)]
     have := hlo (i - lo) (by lia)
     rwa [show lo + (i - lo) = i by lia] at this
    ·rw [if_neg j1]
     by_cases i2 : lo + l < i /\ i <= lo + k
     ·rw [if_pos i2, if_pos (by lia)]
      exact U _ _ (by lia) (by lia) (by lia)
     ·rw [if_neg i2]
      by_cases j2 : lo + l < j /\ j <= lo + k
      ·rw [if_pos j2]
       exact U _ _ (by lia) (by lia) (by lia)
      ·rw [if_neg j2]
       exact U _ _ (by lia) (by lia) (by lia)
end
section
variable {prog : Program} {w : World} {A : Around} {E : Value -> Shared -> Prop} {s : Shared} {κ : SortKind} {it : Array Keyed} {n : Nat} {lt : Nat -> Nat -> Bool} {le : Nat -> Nat -> Prop} {p : Array Nat} {pend : Array (Nat × Nat × Nat)} {st : SortSt}
theorem w_count (o : Ord lt le) (hc : Asks prog w A s κ it n lt) (S : Stt κ it st p pend) (hp : ∀ p' : Array Nat, p'.Perm p -> ∀ i, i < p'.size -> at' p' i < n) {lo nrem : Nat} {Q : Option Nat -> SortSt -> Prop} (h1 : 1 <= nrem) (hz : lo + nrem <= p.size)
  (h : ∀ m p' st', Stt κ it st' p' pend -> 1 <= m -> m <= nrem -> Near p p' lo (lo + m) -> Up le p' lo (lo + m) -> Q (some m) st') : wpS (model prog w) A E s (countRun' lo nrem) Q st := by
 refine wpS_bind (wpS_mono (wpS_forRange (I := fun x c st' => st' = st /\ c = (none, x) /\ x <= nrem /\ Up le p lo (lo + x))
  (Q := fun c st' => st' = st /\ ∃ m, c = (none, m) /\ 1 <= m /\ m <= nrem /\ Up le p lo (lo + m) /\ (m < nrem -> le (at' p (lo + m)) (at' p (lo + m - 1)))) ?s1 ?f1 ?i1) ?p1)
 case i1 => exact ⟨rfl, rfl, h1, up_one o⟩
 case f1 =>
  rintro c st' ⟨rfl, rfl, k1, k2⟩
  exact ⟨rfl, _, rfl, by lia, k1, k2, fun _ => by lia⟩
 case s1 =>
  rintro x c st' hx0 hx ⟨rfl, rfl, k1, k2⟩
  dsimp only
  refine wpS_bind (w_ltAt hc S (hp p (.refl _)) (by lia) (by lia) ?_)
  dsimp only
  cases cw : lt (at' p (lo + x)) (at' p (lo + x - 1)) with
  | true =>
   rw [if_pos rfl]
   exact wpS_pure ⟨rfl, x, rfl, hx0, k1, k2, fun _ => o.yes _ _ cw⟩
  | false =>
   rw [if_neg (by decide)]
   exact wpS_pure ⟨rfl, rfl, by lia, Up.succ (b := lo + x) o k2 (by lia) (o.no _ _ cw)⟩
 case p1 =>
  rintro c st' ⟨rfl, m, rfl, m1, m2, U, hd⟩
  dsimp only
  simp only [beq_iff_eq]
  by_cases e1 : m = nrem
  ·rw [if_pos e1]
   exact wpS_pure (h m p st' S m1 m2 .rf U)
  rw [if_neg e1]
  have e1' : m < nrem := by lia
  clear e1
  by_cases e2 : m > 1
  ·rw [if_pos e2]
   refine wpS_bind (w_ltAt hc S (hp p (.refl _)) (by lia) (by lia) ?_)
   dsimp only
   cases cw : lt (at' p lo) (at' p (lo + m - 1)) with
   | true =>
    rw [if_pos rfl]
    exact wpS_pure (h m p st' S m1 m2 .rf U)
   | false =>
    rw [if_neg (by decide)]
    have g0 := o.no _ _ cw
    refine wpS_bind (w_rev S fun stx Sx => ?_)
    have same : ∀ i j, lo <= i -> i < lo + m -> lo <= j -> j < lo + m -> le (at' p i) (at' p j) := fun i j a1 a2 a3 a4 => o.tr _ _ _ (U i (lo + m - 1) a1 (by lia) (by lia)) (o.tr _ _ _ g0 (U lo j (Nat.le_refl _) a3 a4))
    have d0 : Dn le (kas_rev p lo (lo + m)) lo (lo + m) := fun i j a1 a2 a3 => by
     rw [at_mirror (by lia), at_mirror (by lia), if_pos (by lia), if_pos (by lia)]
     exact same _ _ (by lia) (by lia) (by lia) (by lia)
    have Dx : Dn le (kas_rev p lo (lo + m)) lo (lo + (m + 1)) := Dn.succ (b := lo + m) o d0 (by lia) (by
     rw [at_mirror (by lia), at_mirror (by lia), if_neg (by lia), if_pos (by lia)]
     exact o.tr _ _ _ (hd (by lia)) (same _ _ (by lia) (by lia) (by lia) (by lia)))
    have Nx : Near p (kas_rev p lo (lo + m)) lo (lo + (m + 1)) := (near_rev (by lia)).wide (Nat.le_refl _) (by lia)
    generalize kas_rev p lo (lo + m) = px at Sx Dx Nx
    refine wpS_bind (wpS_lift (wpAny_rule ⟨rfl, ?_⟩))
    refine wpS_bind (wpS_mono (wpS_forRange (I := fun x c st' => ∃ q p', c = (none, x, q) /\ Stt κ it st' p' pend /\ Near p p' lo (lo + x) /\ x <= nrem /\ q + 1 <= x /\ Dn le p' lo (lo + x) /\ Es le p' (lo + x - (q + 1)) (lo + x))
     (Q := fun c st' => ∃ x q p', c = (none, x, q) /\ m + 1 <= x /\ Stt κ it st' p' pend /\ Near p p' lo (lo + x) /\ x <= nrem /\ q + 1 <= x /\ Dn le p' lo (lo + x) /\ Es le p' (lo + x - (q + 1)) (lo + x)) ?s2 ?f2 ?i2) ?p2)
    case i2 => exact ⟨0, px, rfl, Sx, Nx, by lia, by lia, Dx, es_one o (by lia)⟩
    case f2 =>
     rintro c st' ⟨q, p', rfl, S', N', k1, k2, D', E'⟩
     exact ⟨_, q, p', rfl, by lia, S', N', k1, k2, D', E'⟩
    case s2 =>
     rintro x c st' hx0 hx ⟨q, p', rfl, S', N', k1, k2, D', E'⟩
     dsimp only
     have hs2 := N'.size
     refine wpS_bind (w_ltAt hc S' (hp _ N'.1) (by lia) (by lia) ?_)
     dsimp only
     cases cw : lt (at' p' (lo + x)) (at' p' (lo + x - 1)) with
     | true =>
      rw [if_pos rfl]
      have hl := o.yes _ _ cw
      by_cases q0 : q > 0
      ·rw [if_pos q0]
       refine wpS_bind (w_rev S' fun st4 S4 => wpS_pure ?_)
       have d1 := D'.rev o (by lia) (by lia) E'
       have b1 : at' (kas_rev p' (lo + x - (q + 1)) (lo + x)) (lo + x) = at' p' (lo + x) := by rw [at_mirror (by lia), if_neg (by lia)]
       have b2 : at' (kas_rev p' (lo + x - (q + 1)) (lo + x)) (lo + x - 1) = at' p' (lo + x - (q + 1)) := by
        rw [at_mirror (by lia), if_pos (by lia)]
        congr 1; lia
       exact ⟨0, _, rfl, S4, (N'.tr ((near_rev (by lia)).wide (by lia) (by lia))).wide (by lia) (by lia), by lia, by lia, Dn.succ (b := lo + x) o d1 (by lia) (by rw [b1, b2]; exact o.tr _ _ _ hl (E' _ (Nat.le_refl _) (by lia)).2), es_one o (by lia)⟩
      ·rw [if_neg q0]
       exact wpS_pure ⟨0, p', rfl, S', N'.wide (by lia) (by lia), by lia, by lia, Dn.succ (b := lo + x) o D' (by lia) hl, es_one o (by lia)⟩
     | false =>
      rw [if_neg (by decide)]
      have g1 := o.no _ _ cw
      refine wpS_bind (w_ltAt hc S' (hp _ N'.1) (by lia) (by lia) ?_)
      dsimp only
      cases cw2 : lt (at' p' (lo + x - 1)) (at' p' (lo + x)) with
      | true =>
       rw [if_pos rfl]
       exact wpS_pure ⟨x, q, p', rfl, hx0, S', N', k1, k2, D', E'⟩
      | false =>
       rw [if_neg (by decide)]
       have g2 := o.no _ _ cw2
       refine wpS_pure ⟨q + 1, p', rfl, S', N'.wide (by lia) (by lia), by lia, by lia, Dn.succ (b := lo + x) o D' (by lia) g2, fun k a1 a2 => ?_⟩
       rw [show lo + (x + 1) - 1 = lo + x by lia]
       by_cases hk : k = lo + x
       ·subst hk; exact ⟨o.rf _, o.rf _⟩
       ·obtain ⟨x1, x2⟩ := E' k (by lia) (by lia)
        exact ⟨o.tr _ _ _ x1 g1, o.tr _ _ _ g2 x2⟩
    case p2 =>
     rintro c st' ⟨x, q, p', rfl, x1, S', N', x2, x3, D', E'⟩
     dsimp only
     have hs2 := N'.size
     by_cases q0 : q > 0
     ·rw [if_pos q0]
      refine wpS_bind (w_rev S' fun stX SX => ?_)
      have DX := D'.rev o (by lia) (by lia) E'
      have NX := N'.tr ((near_rev (by lia)).wide (a := lo + x - (q + 1)) (b := lo + x) (d := lo) (e := lo + x) (by lia) (by lia))
      generalize kas_rev p' (lo + x - (q + 1)) (lo + x) = pX at SX DX NX
      refine wpS_bind (w_rev SX fun st4 S4 => ?_)
      have hs4 := NX.size
      have N4 := NX.tr (near_rev (a := lo) (b := lo + x) (by lia))
      have U4 := DX.turn (by lia)
      refine wpS_bind (wpS_mono (wpS_forRange (I := fun y c st' => st' = st4 /\ c = (none, y) /\ y <= nrem /\ Up le (kas_rev pX lo (lo + x)) lo (lo + y))
       (Q := fun c st' => st' = st4 /\ ∃ y, c = (none, y) /\ x <= y /\ y <= nrem /\ Up le (kas_rev pX lo (lo + x)) lo (lo + y)) ?s3 ?f3 ?i3) ?p3)
      case i3 => exact ⟨rfl, rfl, x2, U4⟩
      case f3 =>
       rintro c st' ⟨rfl, rfl, k1, k2⟩
       exact ⟨rfl, _, rfl, by lia, k1, k2⟩
      case s3 =>
       rintro y c st' hy0 hy ⟨rfl, rfl, k1, k2⟩
       dsimp only
       have hs5 := N4.size
       refine wpS_bind (w_ltAt hc S4 (hp _ N4.1) (by lia) (by lia) ?_)
       dsimp only
       cases cw : lt (at' (kas_rev pX lo (lo + x)) (lo + y)) (at' (kas_rev pX lo (lo + x)) (lo + y - 1)) with
       | true =>
        rw [if_pos rfl]
        exact wpS_pure ⟨rfl, y, rfl, hy0, k1, k2⟩
       | false =>
        rw [if_neg (by decide)]
        exact wpS_pure ⟨rfl, rfl, by lia, Up.succ (b := lo + y) o k2 (by lia) (o.no _ _ cw)⟩
      case p3 =>
       rintro c st' ⟨rfl, y, rfl, y1, y2, U⟩
       exact wpS_pure (h y _ st' S4 (by lia) y2 (N4.wide (Nat.le_refl _) (by lia)) U)
     ·rw [if_neg q0]
      have DX := D'
      have NX := N'
      have SX := S'
      generalize p' = pX at SX DX NX
      refine wpS_bind (w_rev SX fun st4 S4 => ?_)
      have hs4 := NX.size
      have N4 := NX.tr (near_rev (a := lo) (b := lo + x) (by lia))
      have U4 := DX.turn (by lia)
      refine wpS_bind (wpS_mono (wpS_forRange (I := fun y c st' => st' = st4 /\ c = (none, y) /\ y <= nrem /\ Up le (kas_rev pX lo (lo + x)) lo (lo + y))
       (Q := fun c st' => st' = st4 /\ ∃ y, c = (none, y) /\ x <= y /\ y <= nrem /\ Up le (kas_rev pX lo (lo + x)) lo (lo + y)) ?s3 ?f3 ?i3) ?p3)
      case i3 => exact ⟨rfl, rfl, x2, U4⟩
      case f3 =>
       rintro c st' ⟨rfl, rfl, k1, k2⟩
       exact ⟨rfl, _, rfl, by lia, k1, k2⟩
      case s3 =>
       rintro y c st' hy0 hy ⟨rfl, rfl, k1, k2⟩
       dsimp only
       have hs5 := N4.size
       refine wpS_bind (w_ltAt hc S4 (hp _ N4.1) (by lia) (by lia) ?_)
       dsimp only
       cases cw : lt (at' (kas_rev pX lo (lo + x)) (lo + y)) (at' (kas_rev pX lo (lo + x)) (lo + y - 1)) with
       | true =>
        rw [if_pos rfl]
        exact wpS_pure ⟨rfl, y, rfl, hy0, k1, k2⟩
       | false =>
        rw [if_neg (by decide)]
        exact wpS_pure ⟨rfl, rfl, by lia, Up.succ (b := lo + y) o k2 (by lia) (o.no _ _ cw)⟩
      case p3 =>
       rintro c st' ⟨rfl, y, rfl, y1, y2, U⟩
       exact wpS_pure (h y _ st' S4 (by lia) y2 (N4.wide (Nat.le_refl _) (by lia)) U)
  ·rw [if_neg e2]
   have m11 : m = 1 := by lia
   have Sx := S
   have Dx : Dn le p lo (lo + (m + 1)) := Dn.succ (b := lo + m) o (fun i j a1 a2 a3 => by
    have : i = j := by lia
    subst this; exact o.rf _) (by lia) (hd (by lia))
   have Nx : Near p p lo (lo + (m + 1)) := .rf
   obtain ⟨px, hpx⟩ : ∃ px, px = p := ⟨p, rfl⟩
   rw [<- hpx] at Sx Dx
   replace Nx : Near p px lo (lo + (m + 1)) := by rw [hpx]; exact .rf
   refine wpS_bind (wpS_lift (wpAny_rule ⟨rfl, ?_⟩))
   refine wpS_bind (wpS_mono (wpS_forRange (I := fun x c st' => ∃ q p', c = (none, x, q) /\ Stt κ it st' p' pend /\ Near p p' lo (lo + x) /\ x <= nrem /\ q + 1 <= x /\ Dn le p' lo (lo + x) /\ Es le p' (lo + x - (q + 1)) (lo + x))
    (Q := fun c st' => ∃ x q p', c = (none, x, q) /\ m + 1 <= x /\ Stt κ it st' p' pend /\ Near p p' lo (lo + x) /\ x <= nrem /\ q + 1 <= x /\ Dn le p' lo (lo + x) /\ Es le p' (lo + x - (q + 1)) (lo + x)) ?s2 ?f2 ?i2) ?p2)
   case i2 => exact ⟨0, px, rfl, Sx, Nx, by lia, by lia, Dx, es_one o (by lia)⟩
   case f2 =>
    rintro c st' ⟨q, p', rfl, S', N', k1, k2, D', E'⟩
    exact ⟨_, q, p', rfl, by lia, S', N', k1, k2, D', E'⟩
   case s2 =>
    rintro x c st' hx0 hx ⟨q, p', rfl, S', N', k1, k2, D', E'⟩
    dsimp only
    have hs2 := N'.size
    refine wpS_bind (w_ltAt hc S' (hp _ N'.1) (by lia) (by lia) ?_)
    dsimp only
    cases cw : lt (at' p' (lo + x)) (at' p' (lo + x - 1)) with
    | true =>
     rw [if_pos rfl]
     have hl := o.yes _ _ cw
     by_cases q0 : q > 0
     ·rw [if_pos q0]
      refine wpS_bind (w_rev S' fun st4 S4 => wpS_pure ?_)
      have d1 := D'.rev o (by lia) (by lia) E'
      have b1 : at' (kas_rev p' (lo + x - (q + 1)) (lo + x)) (lo + x) = at' p' (lo + x) := by rw [at_mirror (by lia), if_neg (by lia)]
      have b2 : at' (kas_rev p' (lo + x - (q + 1)) (lo + x)) (lo + x - 1) = at' p' (lo + x - (q + 1)) := by
       rw [at_mirror (by lia), if_pos (by lia)]
       congr 1; lia
      exact ⟨0, _, rfl, S4, (N'.tr ((near_rev (by lia)).wide (by lia) (by lia))).wide (by lia) (by lia), by lia, by lia, Dn.succ (b := lo + x) o d1 (by lia) (by rw [b1, b2]; exact o.tr _ _ _ hl (E' _ (Nat.le_refl _) (by lia)).2), es_one o (by lia)⟩
     ·rw [if_neg q0]
      exact wpS_pure ⟨0, p', rfl, S', N'.wide (by lia) (by lia), by lia, by lia, Dn.succ (b := lo + x) o D' (by lia) hl, es_one o (by lia)⟩
    | false =>
     rw [if_neg (by decide)]
     have g1 := o.no _ _ cw
     refine wpS_bind (w_ltAt hc S' (hp _ N'.1) (by lia) (by lia) ?_)
     dsimp only
     cases cw2 : lt (at' p' (lo + x - 1)) (at' p' (lo + x)) with
     | true =>
      rw [if_pos rfl]
      exact wpS_pure ⟨x, q, p', rfl, hx0, S', N', k1, k2, D', E'⟩
     | false =>
      rw [if_neg (by decide)]
      have g2 := o.no _ _ cw2
      refine wpS_pure ⟨q + 1, p', rfl, S', N'.wide (by lia) (by lia), by lia, by lia, Dn.succ (b := lo + x) o D' (by lia) g2, fun k a1 a2 => ?_⟩
      rw [show lo + (x + 1) - 1 = lo + x by lia]
      by_cases hk : k = lo + x
      ·subst hk; exact ⟨o.rf _, o.rf _⟩
      ·obtain ⟨x1, x2⟩ := E' k (by lia) (by lia)
       exact ⟨o.tr _ _ _ x1 g1, o.tr _ _ _ g2 x2⟩
   case p2 =>
    rintro c st' ⟨x, q, p', rfl, x1, S', N', x2, x3, D', E'⟩
    dsimp only
    have hs2 := N'.size
    by_cases q0 : q > 0
    ·rw [if_pos q0]
     refine wpS_bind (w_rev S' fun stX SX => ?_)
     have DX := D'.rev o (by lia) (by lia) E'
     have NX := N'.tr ((near_rev (by lia)).wide (a := lo + x - (q + 1)) (b := lo + x) (d := lo) (e := lo + x) (by lia) (by lia))
     generalize kas_rev p' (lo + x - (q + 1)) (lo + x) = pX at SX DX NX
     refine wpS_bind (w_rev SX fun st4 S4 => ?_)
     have hs4 := NX.size
     have N4 := NX.tr (near_rev (a := lo) (b := lo + x) (by lia))
     have U4 := DX.turn (by lia)
     refine wpS_bind (wpS_mono (wpS_forRange (I := fun y c st' => st' = st4 /\ c = (none, y) /\ y <= nrem /\ Up le (kas_rev pX lo (lo + x)) lo (lo + y))
      (Q := fun c st' => st' = st4 /\ ∃ y, c = (none, y) /\ x <= y /\ y <= nrem /\ Up le (kas_rev pX lo (lo + x)) lo (lo + y)) ?s3 ?f3 ?i3) ?p3)
     case i3 => exact ⟨rfl, rfl, x2, U4⟩
     case f3 =>
      rintro c st' ⟨rfl, rfl, k1, k2⟩
      exact ⟨rfl, _, rfl, by lia, k1, k2⟩
     case s3 =>
      rintro y c st' hy0 hy ⟨rfl, rfl, k1, k2⟩
      dsimp only
      have hs5 := N4.size
      refine wpS_bind (w_ltAt hc S4 (hp _ N4.1) (by lia) (by lia) ?_)
      dsimp only
      cases cw : lt (at' (kas_rev pX lo (lo + x)) (lo + y)) (at' (kas_rev pX lo (lo + x)) (lo + y - 1)) with
      | true =>
       rw [if_pos rfl]
       exact wpS_pure ⟨rfl, y, rfl, hy0, k1, k2⟩
      | false =>
       rw [if_neg (by decide)]
       exact wpS_pure ⟨rfl, rfl, by lia, Up.succ (b := lo + y) o k2 (by lia) (o.no _ _ cw)⟩
     case p3 =>
      rintro c st' ⟨rfl, y, rfl, y1, y2, U⟩
      exact wpS_pure (h y _ st' S4 (by lia) y2 (N4.wide (Nat.le_refl _) (by lia)) U)
    ·rw [if_neg q0]
     have DX := D'
     have NX := N'
     have SX := S'
     generalize p' = pX at SX DX NX
     refine wpS_bind (w_rev SX fun st4 S4 => ?_)
     have hs4 := NX.size
     have N4 := NX.tr (near_rev (a := lo) (b := lo + x) (by lia))
     have U4 := DX.turn (by lia)
     refine wpS_bind (wpS_mono (wpS_forRange (I := fun y c st' => st' = st4 /\ c = (none, y) /\ y <= nrem /\ Up le (kas_rev pX lo (lo + x)) lo (lo + y))
      (Q := fun c st' => st' = st4 /\ ∃ y, c = (none, y) /\ x <= y /\ y <= nrem /\ Up le (kas_rev pX lo (lo + x)) lo (lo + y)) ?s3 ?f3 ?i3) ?p3)
     case i3 => exact ⟨rfl, rfl, x2, U4⟩
     case f3 =>
      rintro c st' ⟨rfl, rfl, k1, k2⟩
      exact ⟨rfl, _, rfl, by lia, k1, k2⟩
     case s3 =>
      rintro y c st' hy0 hy ⟨rfl, rfl, k1, k2⟩
      dsimp only
      have hs5 := N4.size
      refine wpS_bind (w_ltAt hc S4 (hp _ N4.1) (by lia) (by lia) ?_)
      dsimp only
      cases cw : lt (at' (kas_rev pX lo (lo + x)) (lo + y)) (at' (kas_rev pX lo (lo + x)) (lo + y - 1)) with
      | true =>
       rw [if_pos rfl]
       exact wpS_pure ⟨rfl, y, rfl, hy0, k1, k2⟩
      | false =>
       rw [if_neg (by decide)]
       exact wpS_pure ⟨rfl, rfl, by lia, Up.succ (b := lo + y) o k2 (by lia) (o.no _ _ cw)⟩
     case p3 =>
      rintro c st' ⟨rfl, y, rfl, y1, y2, U⟩
      exact wpS_pure (h y _ st' S4 (by lia) y2 (N4.wide (Nat.le_refl _) (by lia)) U)
end
section
variable {le : Nat -> Nat -> Prop} {p p' : Array Nat} {a b c : Nat}
def Rn (le : Nat -> Nat -> Prop) (p : Array Nat) : Nat -> List (Nat × Nat × Nat) -> Nat -> Prop
 | a, [], b => a = b
 | a, e :: es, b => e.1 = a /\ 1 <= e.2.1 /\ Up le p a (a + e.2.1) /\ Rn le p (a + e.2.1) es b
theorem Rn.len_le : ∀ {l : List (Nat × Nat × Nat)} {a : Nat}, Rn le p a l b -> a + l.length <= b
 | [], a, h => by have : a = b := h; simp [this]
 | e :: es, a, h => by
  have := Rn.len_le h.2.2.2
  have := h.2.1
  simp; lia
theorem Rn.of : ∀ {l : List (Nat × Nat × Nat)} {a : Nat}, Rn le p a l b -> (∀ k, a <= k -> k < b -> at' p' k = at' p k) -> Rn le p' a l b
 | [], a, h, _ => h
 | e :: es, a, h, k => ⟨h.1, h.2.1, h.2.2.1.of fun i h1 h2 => k i h1 (by have := Rn.len_le h.2.2.2; lia), Rn.of h.2.2.2 fun i h1 h2 => k i (by lia) h2⟩
theorem Rn.app : ∀ {l l' : List (Nat × Nat × Nat)} {a : Nat}, Rn le p a (l ++ l') b -> ∃ c, Rn le p a l c /\ Rn le p c l' b
 | [], l', a, h => ⟨a, rfl, h⟩
 | e :: es, l', a, h => by
  obtain ⟨c, h1, h2⟩ := Rn.app h.2.2.2
  exact ⟨c, ⟨h.1, h.2.1, h.2.2.1, h1⟩, h2⟩
theorem Rn.put : ∀ {l l' : List (Nat × Nat × Nat)} {a : Nat}, Rn le p a l c -> Rn le p c l' b -> Rn le p a (l ++ l') b
 | [], l', a, h, h2 => by have : a = c := h; subst this; exact h2
 | e :: es, l', a, h, h2 => ⟨h.1, h.2.1, h.2.2.1, Rn.put h.2.2.2 h2⟩
theorem Rn.same : ∀ {l l' : List (Nat × Nat × Nat)} {a : Nat}, (l.map fun e => (e.1, e.2.1)) = (l'.map fun e => (e.1, e.2.1)) -> Rn le p a l b -> Rn le p a l' b
 | [], [], a, _, h => h
 | [], _ :: _, a, h, _ => by simp at h
 | _ :: _, [], a, h, _ => by simp at h
 | e :: es, e' :: es', a, h, k => by
  simp only [List.map_cons, List.cons.injEq, Prod.mk.injEq] at h
  obtain ⟨⟨h1, h2⟩, h3⟩ := h
  obtain ⟨k1, k2, k3, k4⟩ := k
  rw [h1] at k1
  rw [h2] at k2 k3 k4
  exact ⟨k1, k2, k3, Rn.same h3 k4⟩
theorem ite_idx {c : Prop} [Decidable c] {k m : Nat} (h : k + 1 < m) : (if c then k - 1 else k) + 1 < m := by split <;> lia
theorem set_at {α : Type} (x z : α) (r : List α) : ∀ pre : List α, (pre ++ x :: r).set pre.length z = pre ++ z :: r
 | [] => rfl
 | y :: pre => by simp
theorem era_at {α : Type} (z y : α) (r : List α) : ∀ pre : List α, (pre ++ z :: y :: r).eraseIdx (pre.length + 1) = pre ++ z :: r
 | [] => rfl
 | x :: pre => by
  have := era_at z y r pre
  simp only [List.cons_append, List.length_cons, List.eraseIdx_cons_succ, this]
theorem split2 {α : Type} {l : List α} {i : Nat} (h : i + 1 < l.length) : ∃ pre x y post, l = pre ++ x :: y :: post /\ pre.length = i := by
 refine ⟨l.take i, l[i], l[i + 1], l.drop (i + 2), ?_, by rw [List.length_take]; lia⟩
 rw [<- List.drop_eq_getElem_cons h, <- List.drop_eq_getElem_cons (by lia), List.take_append_drop]
end
section
variable {prog : Program} {w : World} {A : Around} {E : Value -> Shared -> Prop} {s : Shared} {κ : SortKind} {it : Array Keyed} {n : Nat} {lt : Nat -> Nat -> Bool} {le : Nat -> Nat -> Prop} {p : Array Nat} {pend : Array (Nat × Nat × Nat)} {st : SortSt}
theorem w_mergeRn (o : Ord lt le) (hc : Asks prog w A s κ it n lt) (S : Stt κ it st p pend) (hp : ∀ i, i < p.size -> at' p i < n) {i b : Nat} {Q : Bool -> SortSt -> Prop} (hi : i + 1 < pend.size) (R : Rn le p 0 pend.toList b) (hb : b <= p.size)
  (h : ∀ p' pend' st', Stt κ it st' p' pend' -> Near p p' 0 b -> Rn le p' 0 pend'.toList b -> pend'.size + 1 = pend.size -> Q true st') : wpS (model prog w) A E s (mergeAt' i) Q st := by
 obtain ⟨pre, ⟨sa, na, pw⟩, ⟨sb, nb, q⟩, post, e, hl⟩ := split2 (l := pend.toList) (i := i) (by simpa using hi)
 rw [e] at R
 obtain ⟨c, R1, R2⟩ := R.app
 obtain ⟨r1, r2, r3, r4, r5, r6, r7⟩ := R2
 dsimp only at r1 r2 r3 r4 r5 r6 r7
 subst r1
 have hle := r7.len_le
 have g1 : pend[i]? = some (sa, na, pw) := by rw [<- Array.getElem?_toList, e, List.getElem?_append_right (by lia)]; simp [hl]
 have g2 : pend[i + 1]? = some (sb, nb, q) := by rw [<- Array.getElem?_toList, e, List.getElem?_append_right (by lia)]; simp [hl]
 refine w_mergeAt o hc S g1 g2 r4 r2 r5 (by lia) hp (fun i j a1 a2 => r3 _ _ (by lia) (by lia) (by lia)) (fun i j a1 a2 => r6 _ _ (by lia) (by lia) (by lia)) fun p' st' S' so => ?_
 have en : ((pend.setIfInBounds i (sa, na + nb, pw)).eraseIdxIfInBounds (i + 1)).toList = pre ++ (sa, na + nb, pw) :: post := by
  have h2 : i + 1 < (pend.setIfInBounds i (sa, na + nb, pw)).size := by simpa using hi
  rw [Array.eraseIdxIfInBounds, dif_pos h2, Array.toList_eraseIdx, Array.toList_setIfInBounds, e, <- hl]
  rw [set_at, era_at]
 have hle1 := R1.len_le
 refine h p' _ st' S' ⟨so.perm, fun k hk => so.out k (by lia)⟩ ?_ ?_
 ·rw [en]
  refine Rn.put (R1.of fun k _ h2 => so.out k (by lia)) ⟨rfl, by dsimp only; lia, fun i j a1 a2 a3 => so.asc i j a1 a2 a3, ?_⟩
  dsimp only
  rw [show sa + (na + nb) = sa + na + nb by lia]
  exact r7.of fun k h1 h2 => so.out k (by lia)
 ·have e4 := congrArg List.length en
  have e3 := congrArg List.length e
  rw [Array.length_toList] at e4 e3
  rw [e4, e3]
  simp only [List.length_append, List.length_cons]
  lia
theorem w_runs (o : Ord lt le) (hc : Asks prog w A s κ it n lt) (S : Stt κ it st p #[]) (hp : ∀ p' : Array Nat, p'.Perm p -> ∀ i, i < p'.size -> at' p' i < n) {Q : Unit -> SortSt -> Prop}
  (h : ∀ p' pend' st', Stt κ it st' p' pend' -> p'.Perm p -> Up le p' 0 p.size -> Q () st') : wpS (model prog w) A E s sortRuns' Q st := by
 rw [sortRuns'_eq]
 refine wpS_bind (wpS_get ?_)
 dsimp only
 rw [S.2.1, Array.size_map]
 generalize minRun' p.size p.size 0 = minrun
 refine wpS_bind (wpS_mono (wpS_forRange (I := fun x c st' => ∃ lo p' pend', c = (none, lo) /\ Stt κ it st' p' pend' /\ p'.Perm p /\ Rn le p' 0 pend'.toList lo /\ lo <= p.size /\ x <= lo)
  (Q := fun c st' => ∃ p' pend', c.1 = none /\ Stt κ it st' p' pend' /\ p'.Perm p /\ Rn le p' 0 pend'.toList p.size) ?s1 ?f1 ?i1) ?p1)
 case i1 => exact ⟨0, p, #[], rfl, S, .refl _, rfl, by lia, by lia⟩
 case f1 =>
  rintro c st' ⟨lo, p', pend', rfl, S', P', R', l1, l2⟩
  have : lo = p.size := by lia
  subst this
  exact ⟨p', pend', rfl, S', P', R'⟩
 case s1 =>
  rintro x c st' _ hx ⟨lo, p', pend', rfl, S', P', R', l1, l2⟩
  dsimp only
  by_cases e1 : lo ≥ p.size
  ·rw [if_pos e1]
   have : lo = p.size := by lia
   subst this
   exact wpS_pure ⟨p', pend', rfl, S', P', R'⟩
  rw [if_neg e1]
  have hs' := P'.size_eq
  refine wpS_bind (w_count o hc S' (fun q hq => hp q (hq.trans P')) (by lia) (by lia) fun m p2 st2 S2 m1 m2 N2 U2 => ?_)
  have P2 := N2.1.trans P'
  have hs2 := P2.size_eq
  have R2 : Rn le p2 0 pend'.toList lo := R'.of fun k _ h2 => N2.2 k (.inl h2)
  dsimp only
  by_cases e2 : m < minrun
  ·rw [if_pos e2]
   refine wpS_bind (wpS_lift (wpAny_rule ⟨rfl, ?_⟩))
   refine wpS_bind (w_bin o hc S2 (fun q hq => hp q (hq.trans P2)) (m := min (p.size - lo) minrun) (by lia) (by lia) m1 U2 fun p3 st3 S3 N3 U3 => ?_)
   replace R2 : Rn le p3 0 pend'.toList lo := R2.of fun k _ h2 => N3.2 k (.inl h2)
   replace P2 := N3.1.trans P2
   replace S2 := S3
   replace U2 := U3
   have hnn : 1 <= min (p.size - lo) minrun := by lia
   have hnn2 : lo + min (p.size - lo) minrun <= p.size := by lia
   clear S3 U3 N3 N2 hs2
   generalize min (p.size - lo) minrun = nn at *
   rw [if_neg (by decide)]
   clear st2 p2
   generalize p3 = p2 at *
   generalize st3 = st2 at *
   refine wpS_bind (wpS_get ?_)
   rw [S2.2.2.1]
   cases hbk : pend'.back? with
   | none =>
    dsimp only
    refine wpS_bind (wpS_modify (wpS_pure ⟨lo + nn, p2, pend'.push (lo, nn, 0), rfl, ⟨S2.1, S2.2.1, ?_, S2.2.2.2⟩, P2, ?_, by lia, by lia⟩))
    ·show (pendingOf st2).push _ = _
     rw [S2.2.2.1]
    ·rw [Array.toList_push]
     exact R2.put ⟨rfl, hnn, U2, rfl⟩
   | some e =>
    obtain ⟨s1, n1, z1⟩ := e
    dsimp only
    generalize power' _ _ _ _ = pw
    refine wpS_bind (wpS_mono (wpS_forRange (I := fun y c st3 => c = (none, ()) /\ ∃ p3 pend3, Stt κ it st3 p3 pend3 /\ p3.Perm p /\ Rn le p3 0 pend3.toList lo /\ Up le p3 lo (lo + nn))
     (Q := fun c st3 => c = (none, ()) /\ ∃ p3 pend3, Stt κ it st3 p3 pend3 /\ p3.Perm p /\ Rn le p3 0 pend3.toList lo /\ Up le p3 lo (lo + nn)) ?s2 ?f2 ?i2) ?p2)
    case i2 => exact ⟨rfl, p2, pend', S2, P2, R2, U2⟩
    case f2 => exact fun c st3 h => h
    case s2 =>
     rintro y c st3 _ hy ⟨rfl, p3, pend3, S3, P3, R3, U3⟩
     refine wpS_bind (wpS_get ?_)
     rw [S3.2.2.1]
     by_cases c1 : pend3.size > 1
     ·rw [if_pos c1]
      cases hg : pend3[pend3.size - 2]? with
      | none => exact wpS_pure ⟨rfl, p3, pend3, S3, P3, R3, U3⟩
      | some e =>
       obtain ⟨z2, z3, older⟩ := e
       dsimp only
       by_cases c2 : older <= pw
       ·rw [if_pos c2]
        exact wpS_pure ⟨rfl, p3, pend3, S3, P3, R3, U3⟩
       ·rw [if_neg c2]
        have hs3 := P3.size_eq
        refine wpS_bind (w_mergeRn o hc S3 (hp _ P3) (i := pend3.size - 2) (by lia) R3 (by lia) fun p4 pend4 st4 S4 N4 R4 _ => ?_)
        exact wpS_pure ⟨rfl, p4, pend4, S4, N4.1.trans P3, R4, U3.of fun i h1 h2 => N4.2 i (.inr h1)⟩
     ·rw [if_neg c1]
      exact wpS_pure ⟨rfl, p3, pend3, S3, P3, R3, U3⟩
    case p2 =>
     rintro c st3 ⟨rfl, p3, pend3, S3, P3, R3, U3⟩
     dsimp only
     refine wpS_bind (wpS_modify (wpS_bind (wpS_modify (wpS_pure ⟨lo + nn, p3, (pend3.modify (pend3.size - 1) fun e => (e.1, e.2.1, pw)).push (lo, nn, 0), rfl, ⟨S3.1, S3.2.1, ?_, S3.2.2.2⟩, P3, ?_, by lia, by lia⟩))))
     ·show ((pendingOf st3).modify ((pendingOf st3).size - 1) _).push _ = _
      rw [S3.2.2.1]
     ·rw [Array.toList_push]
      refine Rn.put (R3.same ?_) ⟨rfl, hnn, U3, rfl⟩
      apply List.ext_getElem?
      intro k
      rw [List.getElem?_map, List.getElem?_map, Array.getElem?_toList, Array.getElem?_toList, Array.getElem?_modify]
      split
      ·cases pend3[k]? <;> rfl
      ·rfl
  ·rw [if_neg e2]
   have hnn := m1
   have hnn2 : lo + m <= p.size := by lia
   refine wpS_bind (wpS_get ?_)
   rw [S2.2.2.1]
   cases hbk : pend'.back? with
   | none =>
    dsimp only
    refine wpS_bind (wpS_modify (wpS_pure ⟨lo + m, p2, pend'.push (lo, m, 0), rfl, ⟨S2.1, S2.2.1, ?_, S2.2.2.2⟩, P2, ?_, by lia, by lia⟩))
    ·show (pendingOf st2).push _ = _
     rw [S2.2.2.1]
    ·rw [Array.toList_push]
     exact R2.put ⟨rfl, hnn, U2, rfl⟩
   | some e =>
    obtain ⟨s1, n1, z1⟩ := e
    dsimp only
    generalize power' _ _ _ _ = pw
    refine wpS_bind (wpS_mono (wpS_forRange (I := fun y c st3 => c = (none, ()) /\ ∃ p3 pend3, Stt κ it st3 p3 pend3 /\ p3.Perm p /\ Rn le p3 0 pend3.toList lo /\ Up le p3 lo (lo + m))
     (Q := fun c st3 => c = (none, ()) /\ ∃ p3 pend3, Stt κ it st3 p3 pend3 /\ p3.Perm p /\ Rn le p3 0 pend3.toList lo /\ Up le p3 lo (lo + m)) ?s2 ?f2 ?i2) ?p2)
    case i2 => exact ⟨rfl, p2, pend', S2, P2, R2, U2⟩
    case f2 => exact fun c st3 h => h
    case s2 =>
     rintro y c st3 _ hy ⟨rfl, p3, pend3, S3, P3, R3, U3⟩
     refine wpS_bind (wpS_get ?_)
     rw [S3.2.2.1]
     by_cases c1 : pend3.size > 1
     ·rw [if_pos c1]
      cases hg : pend3[pend3.size - 2]? with
      | none => exact wpS_pure ⟨rfl, p3, pend3, S3, P3, R3, U3⟩
      | some e =>
       obtain ⟨z2, z3, older⟩ := e
       dsimp only
       by_cases c2 : older <= pw
       ·rw [if_pos c2]
        exact wpS_pure ⟨rfl, p3, pend3, S3, P3, R3, U3⟩
       ·rw [if_neg c2]
        have hs3 := P3.size_eq
        refine wpS_bind (w_mergeRn o hc S3 (hp _ P3) (i := pend3.size - 2) (by lia) R3 (by lia) fun p4 pend4 st4 S4 N4 R4 _ => ?_)
        exact wpS_pure ⟨rfl, p4, pend4, S4, N4.1.trans P3, R4, U3.of fun i h1 h2 => N4.2 i (.inr h1)⟩
     ·rw [if_neg c1]
      exact wpS_pure ⟨rfl, p3, pend3, S3, P3, R3, U3⟩
    case p2 =>
     rintro c st3 ⟨rfl, p3, pend3, S3, P3, R3, U3⟩
     dsimp only
     refine wpS_bind (wpS_modify (wpS_bind (wpS_modify (wpS_pure ⟨lo + m, p3, (pend3.modify (pend3.size - 1) fun e => (e.1, e.2.1, pw)).push (lo, m, 0), rfl, ⟨S3.1, S3.2.1, ?_, S3.2.2.2⟩, P3, ?_, by lia, by lia⟩))))
     ·show ((pendingOf st3).modify ((pendingOf st3).size - 1) _).push _ = _
      rw [S3.2.2.1]
     ·rw [Array.toList_push]
      refine Rn.put (R3.same ?_) ⟨rfl, hnn, U3, rfl⟩
      apply List.ext_getElem?
      intro k
      rw [List.getElem?_map, List.getElem?_map, Array.getElem?_toList, Array.getElem?_toList, Array.getElem?_modify]
      split
      ·cases pend3[k]? <;> rfl
      ·rfl
 case p1 =>
  rintro ⟨c, c'⟩ st' ⟨p', pend', hc1, S', P', R'⟩
  dsimp only at hc1
  subst hc1
  dsimp only
  refine wpS_bind (wpS_mono (wpS_forRange (I := fun x c st' => ∃ p' pend', c = (none, ()) /\ Stt κ it st' p' pend' /\ p'.Perm p /\ Rn le p' 0 pend'.toList p.size /\ pend'.size + x <= p.size)
   (Q := fun c st' => ∃ p' pend', c = (none, ()) /\ Stt κ it st' p' pend' /\ p'.Perm p /\ Rn le p' 0 pend'.toList p.size /\ pend'.size <= 1) ?s5 ?f5 ?i5) ?p5)
  case i5 => exact ⟨p', pend', rfl, S', P', R', by have := R'.len_le; rw [Array.length_toList] at this; lia⟩
  case f5 =>
   rintro c st' ⟨p', pend', rfl, S', P', R', hl⟩
   exact ⟨p', pend', rfl, S', P', R', by lia⟩
  case s5 =>
   rintro x c st' _ hx ⟨p', pend', rfl, S', P', R', hl⟩
   refine wpS_bind (wpS_get ?_)
   rw [S'.2.2.1]
   by_cases e1 : pend'.size <= 1
   ·rw [if_pos e1]
    exact wpS_pure ⟨p', pend', rfl, S', P', R', e1⟩
   rw [if_neg e1]
   have hs' := P'.size_eq
   refine wpS_bind (w_mergeRn o hc S' (hp _ P') ?_ R' (by lia) fun p4 pend4 st4 S4 N4 R4 h4 => ?_)
   ·exact ite_idx (by lia)
   ·exact wpS_pure ⟨p4, pend4, rfl, S4, N4.1.trans P', R4, by lia⟩
  case p5 =>
   rintro c st' ⟨p', pend', rfl, S', P', R', hl⟩
   refine wpS_pure (h p' pend' st' S' P' ?_)
   cases hq : pend'.toList with
   | nil =>
    rw [hq] at R'
    have : 0 = p.size := R'
    intro i j _ _ h3
    lia
   | cons e es =>
    cases es with
    | nil =>
     rw [hq] at R'
     obtain ⟨r1, r2, r3, r4⟩ := R'
     have r4' : 0 + e.2.1 = p.size := r4
     rw [<- r4']
     exact r3
    | cons e2 es =>
     have := congrArg List.length hq
     rw [Array.length_toList] at this
     simp at this
     lia
end
section
variable {prog : Program} {w : World} {A : Around} {E : Value -> Shared -> Prop} {s : Shared}
structure Known (prog : Program) (w : World) (s : Shared) (vs : List Value) (κ : SortKind) (lt : Nat -> Nat -> Bool) : Prop where
 kind : ∀ (A : Around) (E : Value -> Shared -> Prop) (h' : Heap) (Q : SortKind -> Shared -> Prop), (∀ b o, s.heap.get? b = some o -> h'.get? b = some o) -> 2 <= vs.length -> Q κ { s with heap := h' } -> wpAny (model prog w) A (keyKind' vs.toArray) Q E { s with heap := h' }
 ask : ∀ (A : Around) (h' : Heap) (i j : Nat) (C : Bool -> Shared -> Prop), (∀ b o, s.heap.get? b = some o -> h'.get? b = some o) -> i < vs.length -> j < vs.length -> C (lt i j) { s with heap := h' } -> kas_ask prog w A κ vs i j C { s with heap := h' }
theorem Known.on {vs : List Value} {κ : SortKind} {lt : Nat -> Nat -> Bool} {h : Heap} (k : Known prog w s vs κ lt) (hk : ∀ b o, s.heap.get? b = some o -> h.get? b = some o) : Known prog w { s with heap := h } vs κ lt :=
 ⟨fun A E h' Q h2 => k.kind A E h' Q fun b o e => h2 b o (hk b o e), fun A h' i j C h2 => k.ask A h' i j C fun b o e => h2 b o (hk b o e)⟩
def outOf (vs : List Value) (p : Array Nat) : Array Value := (p.toList.map fun i => vs.getD i Value.none).toArray
theorem outOf_size {vs : List Value} {p : Array Nat} (h : p.size = vs.length) : (outOf vs p).size = vs.length := by
 unfold outOf; simp [h]
theorem outOf_range {vs : List Value} : outOf vs (List.range vs.length).toArray = vs.toArray := by
 unfold outOf
 congr 1
 apply List.ext_getElem
 ·simp
 ·intro i h1 h2
  simp at h1
  simp [h1]
theorem asc_few {le : Nat -> Nat -> Prop} (rf : ∀ a, le a a) {n : Nat} (h : n < 2) (p : Array Nat) : Asc le p n := fun i j hij hj => by
 have e : i = j := by lia
 subst e; exact rf _
theorem lsort_by {a : Addr} {vs : List Value} {n : Nat} {κ : SortKind} {lt : Nat -> Nat -> Bool} {le : Nat -> Nat -> Prop} {P : PySem.Fin -> Shared -> Prop} (o : Ord lt le) (ho : s.heap.get? a = some (seqObj "list" vs.toArray n)) (hN : vs.length <= sizeLine)
  (hk : ∀ h', (∀ b o, b ≠ a -> s.heap.get? b = some o -> h'.get? b = some o) -> Known prog w { s with heap := h' } vs κ lt)
  (h : ∀ p : Array Nat, p.Perm (List.range vs.length).toArray -> Asc le p vs.length -> P (.done (.ret .none)) { s with heap := sortedHeap s.heap a vs (outOf vs p) }) : wpAny (model prog w) A (Builtin.«list.sort» ⟨[.ref a], []⟩) P E s := by
 have ha : a < s.heap.objs.size := Heap.lt_size ho
 obtain ⟨e1, ho1⟩ : ∃ e1, (s.heap.update a (Obj.mapSeq fun _ => #[])).get? a = some (seqObj "list" #[] e1) := ⟨_, get?_update_seq ho fun _ => #[]⟩
 have ne1 : a ≠ ((s.heap.update a (Obj.mapSeq fun _ => #[])).push (seqObj "tuple" vs.toArray 0)).objs.size := by rw [size_push', Heap.size_update]; exact Nat.ne_of_lt (Nat.lt_succ_of_lt ha)
 have ne2 : a ≠ (s.heap.update a (Obj.mapSeq fun _ => #[])).objs.size := by rw [Heap.size_update]; exact Nat.ne_of_lt ha
 have ho6 : (((s.heap.update a (Obj.mapSeq fun _ => #[])).push (seqObj "tuple" vs.toArray 0)).push (seqObj "list" #[] 0)).get? a = some (seqObj "list" #[] e1) := by rw [Heap.get?_push_ne _ _ _ ne1, Heap.get?_push_ne _ _ _ ne2, ho1]
 have keep : ∀ b q, b ≠ a -> s.heap.get? b = some q -> (((s.heap.update a (Obj.mapSeq fun _ => #[])).push (seqObj "tuple" vs.toArray 0)).push (seqObj "list" #[] 0)).get? b = some q := fun b q hb hq =>
  Heap.get?_push_of_some _ (Heap.get?_push_of_some _ ((Heap.get?_update_ne _ _ _ _ hb).trans hq))
 have K := hk _ keep
 rw [list_sort_plain]; refine wpAny_bind (listItems_at ho rfl (wpAny_bind (listUpdate_at ho rfl (wpAny_bind (seqEpoch_at ho1 rfl (wpAny_bind (wpAny_newTuple (wpAny_bind (wpAny_newList (wpAny_holding ?_))))))))))
 dsimp only
 have hn : vs.toArray.size = vs.length := by simp
 have fin : ∀ (p : Array Nat) (st : SortSt), p.Perm (List.range vs.length).toArray -> Asc le p vs.length -> (arrOf st).map (·.2) = outOf vs p -> failedOf st = none ->
   wpAny (model prog w) A (do
    let touched := (← seqEpoch a) != e1
    Builtin.List.listUpdate (.ref a) fun _ => (arrOf st).map (·.2)
    if let some e := failedOf st then rule "list.sort.comparison-raised"; throw e
    if touched then rule "list.sort.modified"; raiseError "ValueError" "list modified during sort"
    ret .none) P E { s with heap := ((s.heap.update a (Obj.mapSeq fun _ => #[])).push (seqObj "tuple" vs.toArray 0)).push (seqObj "list" #[] 0) } := fun p st hp hs ho2 hf => by
  have hz : (outOf vs p).size <= sizeLine + 1 := by
   rw [outOf_size (by rw [hp.size_eq]; simp)]; lia
  rw [ho2, hf]
  refine wpAny_bind (seqEpoch_at ho6 rfl (wpAny_bind (listUpdate_at ho6 rfl ?_ (hsz2 := hz))))
  simp only [bne_self_eq_false, Bool.false_eq_true, if_false]
  exact wpAny_pure (h p hp hs)
 by_cases h2 : vs.toArray.size < 2
 ·rw [if_pos h2, if_pos h2]
  refine wpAny_bind (wpAny_pure ?_)
  rw [StateT.run_pure]
  refine wpAny_bind (wpAny_pure (fin (List.range vs.length).toArray _ (Array.Perm.refl _) (asc_few o.rf (by lia) _) ?_ rfl))
  rw [outOf_range]
  show ((vs.toArray.zip vs.toArray).map (·.2)) = vs.toArray
  apply Array.ext
  ·simp
  ·intro i h1 h2; simp
 ·rw [if_neg h2, if_neg h2]
  refine wpAny_bind (K.kind _ _ _ _ (fun _ _ e => e) (by lia) ?_)
  have pos : 0 < vs.length := by lia
  have perm0 : ∀ p' : Array Nat, p'.Perm (List.range vs.length).toArray -> ∀ i, i < p'.size -> at' p' i < vs.length := fun p' h' i _ => bel_of pos h' i
  have esz : (vs.toArray.zip vs.toArray).size = vs.length := by simp
  have er := kas_range (vs.toArray.zip vs.toArray)
  rw [esz] at er
  have run := w_runs (prog := prog) (w := w) (A := A) (E := E) (κ := κ) (it := vs.toArray.zip vs.toArray) (n := vs.length) (lt := lt) (le := le) (p := (List.range vs.length).toArray) (st := SortSt.mk' κ (vs.toArray.zip vs.toArray) #[] 7 none)
   (s := { s with heap := ((s.heap.update a (Obj.mapSeq fun _ => #[])).push (seqObj "tuple" vs.toArray 0)).push (seqObj "list" #[] 0) })
   (Q := fun _ st => ∃ p : Array Nat, (arrOf st).map (·.2) = outOf vs p /\ failedOf st = none /\ p.Perm (List.range vs.length).toArray /\ Asc le p vs.length) o
   (fun i j C hi hj hc => by rw [<- kat_ask_eq (ks := vs) (vs := vs) rfl]; exact K.ask _ _ i j C (fun _ _ e => e) hi hj hc) ⟨rfl, er.symm, rfl, rfl⟩ perm0
   (fun p' pend' st' S' hp hu => ⟨p', kat_snds rfl S'.2.1, S'.2.2.2, hp, fun i j hij hj => hu i j (Nat.zero_le _) hij (by simpa using hj)⟩)
  refine wpAny_bind (wpAny_mono run (fun r s' hr => ?_) fun _ _ e => e)
  ·obtain ⟨rfl, p, e2, hf, hp, hs⟩ := hr
   exact fin p r.2 hp hs e2 hf
theorem sorted_by {l : Addr} {vs : List Value} {κ : SortKind} {lt : Nat -> Nat -> Bool} {le : Nat -> Nat -> Prop} {Q : Value -> Shared -> Prop} (o : Ord lt le) (hl : s.heap.IsList l vs.toArray) (hN : vs.length <= sizeLine) (hk : Known prog w s vs κ lt)
  (h : ∀ p : Array Nat, p.Perm (List.range vs.length).toArray -> Asc le p vs.length -> Q (.ref (s.heap.objs.size + 1)) { s with heap := sortedAll s.heap vs (outOf vs p) }) : wpAny (model prog w) A (call (.builtin "sorted") [.ref l]) Q E s := by
 have hz : vs.length <= sizeLine := hN
 have sz : ((s.heap.push (seqObj "list" #[] 0)).update s.heap.objs.size (Obj.mapSeq (· ++ vs.toArray))).objs.size = s.heap.objs.size + 1 := by rw [Heap.size_update, size_push']
 have at1 : (((s.heap.push (seqObj "list" #[] 0)).update s.heap.objs.size (Obj.mapSeq (· ++ vs.toArray))).push (seqObj "list" vs.toArray 0)).get? (s.heap.objs.size + 1) = some (seqObj "list" vs.toArray 0) := by rw [<- sz]; exact Heap.get?_push_size _ rfl
 have old : ∀ b q, s.heap.get? b = some q -> b ≠ s.heap.objs.size + 1 /\ (((s.heap.push (seqObj "list" #[] 0)).update s.heap.objs.size (Obj.mapSeq (· ++ vs.toArray))).push (seqObj "list" vs.toArray 0)).get? b = some q := fun b q e => by
  have hb := Heap.lt_size e
  refine ⟨Nat.ne_of_lt (Nat.lt_succ_of_lt hb), Heap.get?_push_of_some _ ?_⟩
  rw [Heap.get?_update_ne _ _ _ _ (Nat.ne_of_lt hb)]
  exact Heap.get?_push_of_some _ e
 refine Calls.call_function_entry kind_sorted plain_sorted entry_sorted (args_sorted1 (.ref l)) ?_; unfold Builtin.«sorted»
 refine wpAny_bind (m := checkCount "sorted" 1 1 _) (wpAny_pure (wpAny_bind (collect_list hl (wpAny_bind (wpAny_newList ?_ hz)) hz)))
 show wpAny (model prog w) _ _ _ _ { s with heap := ((s.heap.push (seqObj "list" #[] 0)).update s.heap.objs.size (Obj.mapSeq (· ++ vs.toArray))).push (seqObj "list" vs.toArray 0) }
 rw [sz]
 refine wpAny_bind (wpAny_holding (wpAny_call_entry slot_list_sort ⟨_, at1, rfl⟩ entry_list_sort (lsort_by (κ := κ) (le := le) o at1 hN (fun h' kp => ?_) fun p hp hs => ⟨_, rfl, wpAny_pure ⟨_, rfl, h p hp hs⟩⟩) (args_list_sort _)))
 exact hk.on fun b q e => kp b q (old b q e).1 (old b q e).2
end
section
variable {prog : Program} {w : World} {A : Around} {E : Value -> Shared -> Prop} {s : Shared}
def lexI : List Int -> List Int -> Bool
 | [], [] => false
 | [], _ :: _ => true
 | _ :: _, [] => false
 | x :: xs, y :: ys => if x = y then lexI xs ys else decide (x < y)
theorem lexI_irrefl : ∀ a : List Int, lexI a a = false
 | [] => rfl
 | x :: xs => by unfold lexI; rw [if_pos rfl]; exact lexI_irrefl xs
theorem lexI_asymm : ∀ a b : List Int, lexI a b = true -> lexI b a = false
 | [], [], h => by unfold lexI at h; cases h
 | [], _ :: _, _ => by unfold lexI; rfl
 | _ :: _, [], h => by unfold lexI at h; cases h
 | x :: xs, y :: ys, h => by
  unfold lexI at h ⊢
  by_cases e : x = y
  ·rw [if_pos e] at h; rw [if_pos e.symm]; exact lexI_asymm xs ys h
  ·rw [if_neg e] at h
   rw [if_neg (Ne.symm e)]
   have := of_decide_eq_true h
   exact decide_eq_false (by lia)
theorem lexI_trans : ∀ a b c : List Int, lexI b a = false -> lexI c b = false -> lexI c a = false
 | [], _, [], _, _ => rfl
 | [], [], _ :: _, _, h => by unfold lexI at h; cases h <;> rfl
 | [], _ :: _, _ :: _, _, _ => by unfold lexI; rfl
 | _ :: _, [], _, h, _ => by unfold lexI at h; cases h
 | x :: xs, y :: ys, [], _, h => by unfold lexI at h; cases h
 | x :: xs, y :: ys, z :: zs, h1, h2 => by
  unfold lexI at h1 h2 ⊢
  by_cases e1 : y = x
  ·rw [if_pos e1] at h1
   by_cases e2 : z = y
   ·rw [if_pos e2] at h2
    rw [if_pos (e2.trans e1)]
    exact lexI_trans xs ys zs h1 h2
   ·rw [if_neg e2] at h2
    rw [if_neg (by lia)]
    have := of_decide_eq_false h2
    exact decide_eq_false (by lia)
  ·rw [if_neg e1] at h1
   have g1 := of_decide_eq_false h1
   by_cases e2 : z = y
   ·rw [if_neg (by lia)]
    exact decide_eq_false (by lia)
   ·rw [if_neg e2] at h2
    have g2 := of_decide_eq_false h2
    rw [if_neg (by lia)]
    exact decide_eq_false (by lia)
theorem lexI_ord (f : Nat -> List Int) : Ord (fun i j => lexI (f i) (f j)) (fun i j => lexI (f j) (f i) = false) :=
 ⟨fun a b c h1 h2 => lexI_trans _ _ _ h1 h2, fun a => lexI_irrefl _, fun a b h => lexI_asymm _ _ h, fun a b h => h⟩
def TupI (h : Heap) (v : Value) (ns : List Int) : Prop := ∃ a o xs n, v = .ref a /\ h.get? a = some o /\ o.cls = .type "tuple" /\ o.data = .seq xs n /\ IntsAre xs.toList ns
theorem lex_int : ∀ (xs ys : List Value) (ns ms : List Int) (i : Nat) (fin : Bool) (Q : Bool -> Shared -> Prop), IntsAre xs ns -> IntsAre ys ms -> (fin = decide (xs.length < ys.length)) -> Q (lexI ns ms) s ->
  KatLex prog w A true fin Q (xs.zip ys) i s := by
 intro xs
 induction xs with
 | nil =>
  intro ys ns ms i fin Q hx hy hf hq
  cases hx
  rw [List.zip_nil_left]
  show Q fin s
  rw [hf]
  cases hy with
  | nil => exact hq
  | cons b u ty => exact hq
 | cons x xs ih =>
  intro ys ns ms i fin Q hx hy hf hq
  cases hx with
  | cons a t tx =>
   cases hy with
   | nil =>
    rw [List.zip_nil_right]
    show Q fin s
    rw [hf]
    exact hq
   | @cons c u ys' ms' ty =>
    rw [List.zip_cons_cons]
    refine kat_cons ((SeqAt.EqAt.int_int a t c u) prog w _ _ ?_)
    unfold lexI at hq
    by_cases e : a = c
    ·rw [if_pos e] at hq
     have eb : (a == c) = true := by simpa using e
     rw [eb]
     exact kat_yes (ih ys' _ ms' (i + 1) fin Q tx ty (by rw [hf]; simp) hq)
    ·rw [if_neg e] at hq
     have eb : (a == c) = false := by simpa using e
     rw [eb]
     refine kat_no ?_
     cases q : i == 0 with
     | true => exact oneLt_int hq
     | false => exact kat_one _ _ (lt_int hq)
theorem known_tups {vs : List Value} {f : Nat -> List Int} (hv : ∀ i, i < vs.length -> TupI s.heap (vs.getD i Value.none) (f i) /\ f i ≠ []) : Known prog w s vs (tuples' true) fun i j => lexI (f i) (f j) := by
 refine ⟨fun A E h' Q hk h2 hq => ?_, fun A h' i j C hk hi hj hc => ?_⟩
 ·have hv' : ∀ v ∈ vs, ∃ n t rest a o xs k, v = .ref a /\ h'.get? a = some o /\ o.cls = .type "tuple" /\ o.data = .seq xs k /\ xs.toList = Value.int n t :: rest := fun v hm => by
   obtain ⟨i, hi, e⟩ := List.getElem_of_mem hm
   obtain ⟨⟨a, o, xs, k, e1, e2, e3, e4, e5⟩, ne⟩ := hv i hi
   have ev : vs.getD i Value.none = v := by rw [List.getD_eq_getElem?_getD, List.getElem?_eq_getElem hi]; exact e
   rw [ev] at e1
   revert e5 ne
   generalize f i = ns
   generalize ex : xs.toList = L
   intro ne e5
   cases e5 with
   | nil => exact absurd rfl ne
   | @cons n t vs' ns' tl => exact ⟨n, t, vs', a, o, xs, k, e1, hk _ _ e2, e3, e4, ex⟩
  have fs : ∀ L : List Value, (∀ v ∈ L, ∃ n t rest a o xs k, v = .ref a /\ h'.get? a = some o /\ o.cls = .type "tuple" /\ o.data = .seq xs k /\ xs.toList = Value.int n t :: rest) -> ∃ gs, KatTups h' L gs /\ gs.length = L.length /\ ∀ v ∈ gs, ∃ n t, v = Value.int n t := by
   intro L
   induction L with
   | nil => exact fun _ => ⟨[], .nil, rfl, fun _ h => (by cases h)⟩
   | cons v L ih =>
    intro hL
    obtain ⟨gs, g1, g2, g3⟩ := ih fun u hu => hL u (List.mem_cons_of_mem _ hu)
    obtain ⟨n, t, rest, a, o, xs, k, rfl, e2, e3, e4, e5⟩ := hL v List.mem_cons_self
    refine ⟨.int n t :: gs, .cons e2 e3 e4 (by rw [<- Array.getElem?_toList, e5]; rfl) g1, by rw [List.length_cons, List.length_cons, g2], fun u hu => ?_⟩
    rcases List.mem_cons.mp hu with rfl | hu
    ·exact ⟨n, t, rfl⟩
    ·exact g3 u hu
  obtain ⟨gs, g1, g2, g3⟩ := fs vs hv'
  refine kat_kind (s := { s with heap := h' }) (T := .type "int") g1 (by lia) (fun v hm => ?_) (by decide) hq
  obtain ⟨n, t, rfl⟩ := g3 v hm
  exact Looks.of_pure rfl
 ·obtain ⟨⟨a, o, xs, k, e1, e2, e3, e4, e5⟩, _⟩ := hv i hi
  obtain ⟨⟨a', o', xs', k', e1', e2', e3', e4', e5'⟩, _⟩ := hv j hj
  unfold kas_ask
  rw [e1, e1']
  refine kat_lt (s := { s with heap := h' }) (hk _ _ e2) e4 (hk _ _ e2') e4' ?_
  refine lex_int (s := { s with heap := h' }) _ _ _ _ _ _ _ e5 e5' ?_ hc
  simp
theorem ints_at : ∀ {vs : List Value} {ns : List Int}, IntsAre vs ns -> ∀ i, i < vs.length -> ∃ t, vs.getD i Value.none = .int (ns.getD i 0) t
 | _, _, .nil, i, h => by simp at h
 | _, _, .cons n t _, 0, _ => ⟨t, rfl⟩
 | _, _, .cons n t tl, i + 1, h => by
  obtain ⟨u, e⟩ := ints_at tl i (by simpa using h)
  exact ⟨u, by simpa using e⟩
theorem known_ints {vs : List Value} {ns : List Int} (hI : IntsAre vs ns) : Known prog w s vs oneType' fun i j => decide (ns.getD i 0 < ns.getD j 0) := by
 refine ⟨fun A E h' Q hk h2 hq => ?_, fun A h' i j C hk hi hj hc => ?_⟩
 ·rw [ksk_kind (keys := vs.toArray) (kz := ns) (by simpa using hI) (by simpa using h2)]
  exact wpAny_pure hq
 ·obtain ⟨t, e1⟩ := ints_at hI i hi
  obtain ⟨u, e2⟩ := ints_at hI j hj
  unfold kas_ask
  rw [e1, e2, keyLt'_oneType]
  exact oneLt_int hc
theorem ord_ints (f : Nat -> Int) : Ord (fun i j => decide (f i < f j)) (fun i j => f i <= f j) :=
 ⟨fun _ _ _ h k => Int.le_trans h k, fun _ => Int.le_refl _, fun a b h => Int.le_of_lt (of_decide_eq_true h), fun a b h => by have := of_decide_eq_false h; show f b <= f a; lia⟩
theorem ints_map {vs : List Value} {ns : List Int} (hI : IntsAre vs ns) : ∀ L : List Nat, (∀ i ∈ L, i < vs.length) -> IntsAre (L.map fun i => vs.getD i Value.none) (L.map fun i => ns.getD i 0)
 | [], _ => .nil
 | i :: L, h => by
  obtain ⟨t, e⟩ := ints_at hI i (h i List.mem_cons_self)
  rw [List.map_cons, List.map_cons, e]
  exact .cons _ t (ints_map hI L fun j hj => h j (List.mem_cons_of_mem _ hj))
theorem ints_len : ∀ {vs : List Value} {ns : List Int}, IntsAre vs ns -> vs.length = ns.length
 | _, _, .nil => rfl
 | _, _, .cons n t tl => by rw [List.length_cons, List.length_cons, ints_len tl]
theorem sorted_ints' {l : Addr} {vs : List Value} {ns : List Int} {Q : Value -> Shared -> Prop} (hl : s.heap.IsList l vs.toArray) (hI : IntsAre vs ns) (hN : vs.length <= sizeLine)
  (h : ∀ (out : Array Value) ms, IntsAre out.toList ms -> ms.Perm ns -> ms.Pairwise (· <= ·) -> Q (.ref (s.heap.objs.size + 1)) { s with heap := sortedAll s.heap vs out }) : wpAny (model prog w) A (call (.builtin "sorted") [.ref l]) Q E s := by
 refine sorted_by (ord_ints fun i => ns.getD i 0) hl hN (known_ints hI) fun p hp ha => ?_
 have e := ints_len hI
 have hb : ∀ i ∈ p.toList, i < vs.length := fun i hi => by simpa using (Array.perm_iff_toList_perm.mp hp).mem_iff.mp hi
 rw [e] at hp ha
 obtain ⟨p1, p2⟩ := out_ok (vs := ns) (d := 0) hp ha
 exact h (outOf vs p) _ (by simpa [outOf] using ints_map hI p.toList hb) p1 (p2 _ fun i j _ _ h => h)
end
end Srt
namespace L2
open PySem
def rTuple (K : W.Frag) : List V -> Hp -> VK -> Prop := fun xs H Q => ∃ p ys, xs = [.ref p] /\ ((SqL K H p ys /\ ∀ l, H l = none -> Q (.ref l) (upd H l (.tup ys))) \/ (SqT K H p ys /\ Q (.ref p) H))
def rMax2 : List V -> Hp -> VK -> Prop := fun xs H Q => ∃ i j, xs = [.int i, .int j] /\ Q (.int (if j > i then j else i)) H
def rMin2 : List V -> Hp -> VK -> Prop := fun xs H Q => ∃ i j, xs = [.int i, .int j] /\ Q (.int (if j < i then j else i)) H
def rNotN : R2 := fun x y H Q => y = .non /\ Q (.bl (!decide (x = .non))) H
def tTru (K : W.Frag) (ta : TE) : TT := fun σ H Q => ta σ H fun x H' => ∃ k, TruV K x H' k /\ Q k H'
def rSortedI (K : W.Frag) : List V -> Hp -> VK -> Prop := fun xs H Q => ∃ p, ∃ ns : List Int, xs = [.ref p] /\ SqL K H p (ns.map V.int) /\ ns.length < 30000 /\
 ∀ (ms : List Int) l, ms.Perm ns -> ms.Pairwise (· <= ·) -> H l = none -> Q (.ref l) (upd H l (.lst (ms.map V.int)))
def rSumL (K : W.Frag) : List V -> Hp -> VK -> Prop := fun xs H Q => ∃ p, ∃ ns : List Int, xs = [.ref p] /\ SqL K H p (ns.map V.int) /\ Q (.int ns.sum) H
def iSeq (K : W.Frag) (tl : TE) : TI := fun σ H R => tl σ H fun x H1 => ∃ a, x = .ref a /\ (((∃ xs, SqL K H1 a xs) /\ R (Itl K a) H1) \/ ((∃ xs, SqT K H1 a xs) /\ R (Itt K a) H1))
end L2
namespace M
open PySem L2
inductive D where
 | non | bl (b : Bool) | int (i : Int) | str (x : Str) | ty (n : String) | lst (l : List D) | tup (l : List D) | scr (l : List D) | ins (N : Str) (ns : List Str) (l : List D) | dic (ks : List (List Int))
 deriving Inhabited
theorem rd_mono {S S' : Hp} (s : Same S S') {a : Addr} {u : HO} (h : Rd S a u) : Rd S' a u := h.elim (fun e => .inl (s _ _ e)) fun ⟨o, e⟩ => .inr ⟨o, s _ _ e⟩
theorem sqL_mono {K : W.Frag} {S S' : Hp} (s : Same S S') {a : Addr} {xs : List V} (h : SqL K S a xs) : SqL K S' a xs := h.elim (fun e => .inl (rd_mono s e)) .inr
theorem sqT_mono {K : W.Frag} {S S' : Hp} (s : Same S S') {a : Addr} {xs : List V} (h : SqT K S a xs) : SqT K S' a xs := h.elim (fun e => .inl (rd_mono s e)) .inr
def TpA (K : W.Frag) (S : Hp) (a : Addr) (xs : List V) : Prop := S a = some (.tup xs)
theorem TpA.of {K : W.Frag} {S : Hp} {a : Addr} {xs : List V} (h : S a = some (.tup xs)) : TpA K S a xs := h
theorem TpA.sq {K : W.Frag} {S : Hp} {a : Addr} {xs : List V} (h : TpA K S a xs) : SqT K S a xs := SqT.of h
theorem TpA.mono {K : W.Frag} {S S' : Hp} (s : Same S S') {a : Addr} {xs : List V} (h : TpA K S a xs) : TpA K S' a xs := s _ _ h
def dicV (ks : List (List Int)) : List (List Key × V) := ks.map fun k => (k.map Sum.inl, V.bl true)
mutual
def Den (K : W.Frag) (S : Hp) : D -> V -> Prop
 | .non, v => v = .non
 | .bl b, v => v = .bl b
 | .int i, v => v = .int i
 | .str x, v => v = .str x
 | .ty x, v => v = .ty x
 | .lst l, v => ∃ p xs, v = .ref p /\ Rd S p (.lst xs) /\ Dens K S l xs
 | .tup l, v => ∃ p xs, v = .ref p /\ TpA K S p xs /\ Dens K S l xs
 | .scr l, v => ∃ p xs, v = .ref p /\ SqL K S p xs /\ Dens K S l xs
 | .ins N ns l, v => ∃ p C dx fs, v = .ref p /\ W.nsIn K mainGlobals N = some (some (.ref C)) /\ S p = some (.ins C dx fs) /\ fs.map (·.1) = ns /\ Dens K S l (fs.map (·.2))
 | .dic ks, v => ∃ p, v = .ref p /\ Rd S p (.dT (dicV ks))
def Dens (K : W.Frag) (S : Hp) : List D -> List V -> Prop
 | [], xs => xs = []
 | d :: ds, xs => ∃ y ys, xs = y :: ys /\ Den K S d y /\ Dens K S ds ys
end
section
variable {K : W.Frag} {S S' H H' : Hp}
theorem Dens.nil : Dens K S [] [] := by unfold Dens; rfl
theorem Dens.cons {d : D} {ds : List D} {y : V} {ys : List V} (h : Den K S d y) (k : Dens K S ds ys) : Dens K S (d :: ds) (y :: ys) := by unfold Dens; exact ⟨y, ys, rfl, h, k⟩
theorem Dens.nil_of {xs : List V} (h : Dens K S [] xs) : xs = [] := by unfold Dens at h; exact h
theorem Dens.cons_of {d : D} {ds : List D} {xs : List V} (h : Dens K S (d :: ds) xs) : ∃ y ys, xs = y :: ys /\ Den K S d y /\ Dens K S ds ys := by unfold Dens at h; exact h
theorem Dens.length : ∀ {ds : List D} {xs : List V}, Dens K S ds xs -> ds.length = xs.length
 | [], _, h => by rw [h.nil_of]; rfl
 | _ :: _, _, h => by
  obtain ⟨y, ys, rfl, _, k⟩ := h.cons_of
  rw [List.length_cons, List.length_cons, k.length]
theorem Dens.append : ∀ {ds es : List D} {xs ys : List V}, Dens K S ds xs -> Dens K S es ys -> Dens K S (ds ++ es) (xs ++ ys)
 | [], _, _, _, h, k => by rw [h.nil_of]; exact k
 | _ :: _, _, _, _, h, k => by
  obtain ⟨y, ys, rfl, a, b⟩ := h.cons_of
  exact .cons a (b.append k)
theorem Dens.get : ∀ {ds : List D} {xs : List V} {i : Nat} {d : D}, Dens K S ds xs -> ds[i]? = some d -> ∃ x, xs[i]? = some x /\ Den K S d x
 | [], _, _, _, _, e => by simp at e
 | _ :: _, _, 0, _, h, e => by
  obtain ⟨y, ys, rfl, a, b⟩ := h.cons_of
  simp at e; subst e
  exact ⟨y, rfl, a⟩
 | _ :: _, _, i + 1, _, h, e => by
  obtain ⟨y, ys, rfl, a, b⟩ := h.cons_of
  obtain ⟨x, e1, h1⟩ := b.get (i := i) (by simpa using e)
  exact ⟨x, by simpa using e1, h1⟩
theorem Dens.set : ∀ {ds : List D} {xs : List V} {d : D} {x : V} (i : Nat), Dens K S ds xs -> Den K S d x -> Dens K S (ds.set i d) (xs.set i x)
 | [], _, _, _, _, h, _ => by rw [h.nil_of]; exact .nil
 | _ :: _, _, _, _, 0, h, k => by
  obtain ⟨y, ys, rfl, a, b⟩ := h.cons_of
  exact .cons k b
 | _ :: _, _, _, _, i + 1, h, k => by
  obtain ⟨y, ys, rfl, a, b⟩ := h.cons_of
  exact .cons a (b.set i k)
mutual
theorem Den.mono (s : Same S S') : ∀ {d : D} {v : V}, Den K S d v -> Den K S' d v
 | .dic _, _, h => by
  unfold Den at *
  obtain ⟨p, e, h1⟩ := h
  exact ⟨p, e, rd_mono s h1⟩
 | .non, _, h => by unfold Den at *; exact h
 | .bl _, _, h => by unfold Den at *; exact h
 | .int _, _, h => by unfold Den at *; exact h
 | .str _, _, h => by unfold Den at *; exact h
 | .ty _, _, h => by unfold Den at *; exact h
 | .lst _, _, h => by
  unfold Den at *
  obtain ⟨p, xs, e, h1, h2⟩ := h
  exact ⟨p, xs, e, rd_mono s h1, Dens.mono s h2⟩
 | .tup _, _, h => by
  unfold Den at *
  obtain ⟨p, xs, e, h1, h2⟩ := h
  exact ⟨p, xs, e, TpA.mono s h1, Dens.mono s h2⟩
 | .scr _, _, h => by
  unfold Den at *
  obtain ⟨p, xs, e, h1, h2⟩ := h
  exact ⟨p, xs, e, sqL_mono s h1, Dens.mono s h2⟩
 | .ins _ _ _, _, h => by
  unfold Den at *
  obtain ⟨p, C, dx, fs, e, h0, h1, h2, h3⟩ := h
  exact ⟨p, C, dx, fs, e, h0, s _ _ h1, h2, Dens.mono s h3⟩
theorem Dens.mono (s : Same S S') : ∀ {ds : List D} {xs : List V}, Dens K S ds xs -> Dens K S' ds xs
 | [], _, h => by rw [h.nil_of]; exact .nil
 | _ :: _, _, h => by
  obtain ⟨y, ys, rfl, a, b⟩ := h.cons_of
  exact .cons (Den.mono s a) (Dens.mono s b)
end
theorem den_int {i : Int} {v : V} : Den K S (.int i) v ↔ v = .int i := by unfold Den; exact Iff.rfl
theorem den_bl {b : Bool} {v : V} : Den K S (.bl b) v ↔ v = .bl b := by unfold Den; exact Iff.rfl
theorem den_non {v : V} : Den K S .non v ↔ v = .non := by unfold Den; exact Iff.rfl
theorem den_str {x : Str} {v : V} : Den K S (.str x) v ↔ v = .str x := by unfold Den; exact Iff.rfl
theorem den_ty {x : String} {v : V} : Den K S (.ty x) v ↔ v = .ty x := by unfold Den; exact Iff.rfl
theorem den_tup {l : List D} {v : V} : Den K S (.tup l) v ↔ ∃ p xs, v = .ref p /\ TpA K S p xs /\ Dens K S l xs := by
 constructor
 ·intro h; unfold Den at h; exact h
 ·intro h; unfold Den; exact h
theorem den_tupS {l : List D} {v : V} (h : Den K S (.tup l) v) : ∃ p xs, v = .ref p /\ SqT K S p xs /\ Dens K S l xs := by
 obtain ⟨p, xs, e, h1, h2⟩ := den_tup.mp h
 exact ⟨p, xs, e, h1.sq, h2⟩
theorem den_lst {l : List D} {v : V} : Den K S (.lst l) v ↔ ∃ p xs, v = .ref p /\ Rd S p (.lst xs) /\ Dens K S l xs := by
 constructor
 ·intro h; unfold Den at h; exact h
 ·intro h; unfold Den; exact h
theorem den_scr {l : List D} {v : V} : Den K S (.scr l) v ↔ ∃ p xs, v = .ref p /\ SqL K S p xs /\ Dens K S l xs := by
 constructor
 ·intro h; unfold Den at h; exact h
 ·intro h; unfold Den; exact h
theorem den_ins {N : Str} {ns : List Str} {l : List D} {v : V} : Den K S (.ins N ns l) v ↔ ∃ p C dx fs, v = .ref p /\ W.nsIn K mainGlobals N = some (some (.ref C)) /\ S p = some (.ins C dx fs) /\ fs.map (·.1) = ns /\ Dens K S l (fs.map (·.2)) := by
 constructor
 ·intro h; unfold Den at h; exact h
 ·intro h; unfold Den; exact h
def DenP (K : W.Frag) (S H : Hp) (d : D) (v : V) : Prop := Den K S d v \/ ∃ l p xs, d = .lst l /\ v = .ref p /\ H p = some (.lst xs) /\ Dens K S l xs
theorem DenP.lst {l : List D} {v : V} (s : Same S H) (h : DenP K S H (.lst l) v) : ∃ p xs, v = .ref p /\ Rd H p (.lst xs) /\ Dens K S l xs := by
 rcases h with h | ⟨l', p, xs, e, e1, e2, e3⟩
 ·obtain ⟨p, xs, e, e1, e2⟩ := den_lst.mp h
  exact ⟨p, xs, e, rd_mono s e1, e2⟩
 ·cases e
  exact ⟨p, xs, e1, .inl e2, e3⟩
theorem DenP.tup {l : List D} {v : V} (s : Same S H) (h : DenP K S H (.tup l) v) : ∃ p xs, v = .ref p /\ SqT K H p xs /\ Dens K S l xs := by
 rcases h with h | ⟨l', p, xs, e, e1, e2, e3⟩
 ·obtain ⟨p, xs, e, e1, e2⟩ := den_tupS h
  exact ⟨p, xs, e, sqT_mono s e1, e2⟩
 ·cases e
theorem DenP.scr {l : List D} {v : V} (s : Same S H) (h : DenP K S H (.scr l) v) : ∃ p xs, v = .ref p /\ SqL K H p xs /\ Dens K S l xs := by
 rcases h with h | ⟨l', p, xs, e, e1, e2, e3⟩
 ·obtain ⟨p, xs, e, e1, e2⟩ := den_scr.mp h
  exact ⟨p, xs, e, sqL_mono s e1, e2⟩
 ·cases e
theorem DenP.int {i : Int} {v : V} (h : DenP K S H (.int i) v) : v = .int i := by
 rcases h with h | ⟨l', p, xs, e, _⟩
 ·exact den_int.mp h
 ·cases e
theorem DenP.bl {i : Bool} {v : V} (h : DenP K S H (.bl i) v) : v = .bl i := by
 rcases h with h | ⟨l', p, xs, e, _⟩
 ·exact den_bl.mp h
 ·cases e
theorem DenP.str {i : Str} {v : V} (h : DenP K S H (.str i) v) : v = .str i := by
 rcases h with h | ⟨l', p, xs, e, _⟩
 ·exact den_str.mp h
 ·cases e
theorem DenP.non {v : V} (h : DenP K S H .non v) : v = .non := by
 rcases h with h | ⟨l', p, xs, e, _⟩
 ·exact den_non.mp h
 ·cases e
theorem DenP.ty {i : String} {v : V} (h : DenP K S H (.ty i) v) : v = .ty i := by
 rcases h with h | ⟨l', p, xs, e, _⟩
 ·exact den_ty.mp h
 ·cases e
structure Ext (S H S' H' : Hp) : Prop where
 sh : Same S S'
 sub : Same S' H'
 al : ∀ b o, H b = some o -> S b = none -> H' b = some o /\ S' b = none
theorem Ext.refl (h : Same S H) : Ext S H S H := ⟨Same.refl _, h, fun _ _ h n => ⟨h, n⟩⟩
theorem Ext.trans {S1 H1 S2 H2 : Hp} (a : Ext S H S1 H1) (b : Ext S1 H1 S2 H2) : Ext S H S2 H2 := ⟨a.sh.trans b.sh, b.sub, fun c o h n => b.al c o (a.al c o h n).1 (a.al c o h n).2⟩
theorem Ext.same (a : Ext S H S' H') (s : Same S H) : Same H H' := fun b o h => by
 cases q : S b with
 | none => exact (a.al b o h q).1
 | some u =>
  have := s b u q
  rw [h] at this
  cases this
  exact a.sub b o (a.sh b o q)
theorem Ext.new (s : Same S H) {p : Addr} {o : HO} (h : H p = none) : Ext S H (upd S p o) (upd H p o) where
 sh := fun b u e => by rw [upd_ne (ne_of_none e (s.free h))]; exact e
 sub := fun b u e => by
  by_cases hb : b = p
  ·subst hb; rw [upd_same] at e ⊢; exact e
  ·rw [upd_ne hb] at e ⊢; exact s b u e
 al := fun b u e n => by
  have hb := ne_of_none e h
  rw [upd_ne hb, upd_ne hb]
  exact ⟨e, n⟩
theorem Ext.own (s : Same S H) {p : Addr} {o : HO} (h : H p = none) : Ext S H S (upd H p o) where
 sh := Same.refl _
 sub := fun b u e => by rw [upd_ne (ne_of_none (s b u e) h)]; exact s b u e
 al := fun b u e n => by
  have hb := ne_of_none e h
  rw [upd_ne hb]
  exact ⟨e, n⟩
theorem DenP.mono {d : D} {v : V} (e : Ext S H S' H') (s : Same S H) (h : DenP K S H d v) : DenP K S' H' d v := by
 rcases h with h | ⟨l, p, xs, h1, h2, h3, h4⟩
 ·exact .inl (h.mono e.sh)
 ·exact .inr ⟨l, p, xs, h1, h2, e.same s _ _ h3, h4.mono e.sh⟩
inductive DensP (K : W.Frag) (S H : Hp) : List D -> List V -> Prop where
 | nil : DensP K S H [] []
 | cons {d ds v vs} : DenP K S H d v -> DensP K S H ds vs -> DensP K S H (d :: ds) (v :: vs)
inductive O where
 | sh (d : D) | lst (l : List O) | tup (l : List O) | dic (ks : List (List Int))
 deriving Inhabited
mutual
def O.d : O -> D
 | .sh d => d
 | .dic ks => .dic ks
 | .lst l => .lst (O.ds l)
 | .tup l => .tup (O.ds l)
def O.ds : List O -> List D
 | [] => []
 | o :: l => o.d :: O.ds l
end
mutual
def Own (K : W.Frag) (S H : Hp) : O -> V -> List Addr -> Prop
 | .sh d, v, fp => fp = [] /\ Den K S d v
 | .lst l, v, fp => ∃ a xs f, v = .ref a /\ fp = a :: f /\ H a = some (.lst xs) /\ Owns K S H l xs f
 | .tup l, v, fp => ∃ a xs f, v = .ref a /\ fp = a :: f /\ H a = some (.tup xs) /\ Owns K S H l xs f
 | .dic ks, v, fp => ∃ a, v = .ref a /\ fp = [a] /\ H a = some (.dT (dicV ks))
def Owns (K : W.Frag) (S H : Hp) : List O -> List V -> List Addr -> Prop
 | [], xs, fp => xs = [] /\ fp = []
 | o :: l, xs, fp => ∃ y ys f g, xs = y :: ys /\ fp = f ++ g /\ Own K S H o y f /\ Owns K S H l ys g
end
theorem den_dic {ks : List (List Int)} {v : V} : Den K S (.dic ks) v ↔ ∃ p, v = .ref p /\ Rd S p (.dT (dicV ks)) := by unfold Den; exact Iff.rfl
theorem own_dic {ks : List (List Int)} {v : V} {fp : List Addr} : Own K S H (.dic ks) v fp ↔ ∃ a, v = .ref a /\ fp = [a] /\ H a = some (.dT (dicV ks)) := by unfold Own; exact Iff.rfl
theorem own_sh {d : D} {v : V} {fp : List Addr} : Own K S H (.sh d) v fp ↔ fp = [] /\ Den K S d v := by unfold Own; exact Iff.rfl
theorem own_lst {l : List O} {v : V} {fp : List Addr} : Own K S H (.lst l) v fp ↔ ∃ a xs f, v = .ref a /\ fp = a :: f /\ H a = some (.lst xs) /\ Owns K S H l xs f := by
 constructor
 ·intro h; unfold Own at h; exact h
 ·intro h; unfold Own; exact h
theorem own_tup {l : List O} {v : V} {fp : List Addr} : Own K S H (.tup l) v fp ↔ ∃ a xs f, v = .ref a /\ fp = a :: f /\ H a = some (.tup xs) /\ Owns K S H l xs f := by
 constructor
 ·intro h; unfold Own at h; exact h
 ·intro h; unfold Own; exact h
theorem Owns.nil : Owns K S H [] [] [] := by unfold Owns; exact ⟨rfl, rfl⟩
theorem Owns.cons {o : O} {l : List O} {y : V} {ys : List V} {f g : List Addr} (h : Own K S H o y f) (k : Owns K S H l ys g) : Owns K S H (o :: l) (y :: ys) (f ++ g) := by unfold Owns; exact ⟨y, ys, f, g, rfl, rfl, h, k⟩
theorem Owns.nil_of {xs : List V} {fp : List Addr} (h : Owns K S H [] xs fp) : xs = [] /\ fp = [] := by unfold Owns at h; exact h
theorem Owns.cons_of {o : O} {l : List O} {xs : List V} {fp : List Addr} (h : Owns K S H (o :: l) xs fp) : ∃ y ys f g, xs = y :: ys /\ fp = f ++ g /\ Own K S H o y f /\ Owns K S H l ys g := by unfold Owns at h; exact h
theorem Owns.length : ∀ {l : List O} {xs : List V} {fp : List Addr}, Owns K S H l xs fp -> l.length = xs.length
 | [], _, _, h => by rw [h.nil_of.1]; rfl
 | _ :: _, _, _, h => by
  obtain ⟨y, ys, f, g, rfl, rfl, _, k⟩ := h.cons_of
  rw [List.length_cons, List.length_cons, k.length]
theorem Owns.append : ∀ {l m : List O} {xs ys : List V} {f g : List Addr}, Owns K S H l xs f -> Owns K S H m ys g -> Owns K S H (l ++ m) (xs ++ ys) (f ++ g)
 | [], _, _, _, _, _, h, k => by rw [h.nil_of.1, h.nil_of.2]; exact k
 | _ :: _, _, _, _, _, _, h, k => by
  obtain ⟨y, ys, f, g, rfl, rfl, a, b⟩ := h.cons_of
  rw [List.append_assoc]
  exact .cons a (b.append k)
theorem owns_sh : ∀ {ds : List D} {xs : List V}, Dens K S ds xs -> Owns K S H (ds.map .sh) xs []
 | [], _, h => by rw [h.nil_of]; exact .nil
 | _ :: _, _, h => by
  obtain ⟨y, ys, rfl, a, b⟩ := h.cons_of
  exact .cons (f := []) (own_sh.mpr ⟨rfl, a⟩) (owns_sh b)
theorem of_owns_sh : ∀ {ds : List D} {xs : List V} {fp : List Addr}, Owns K S H (ds.map .sh) xs fp -> Dens K S ds xs /\ fp = []
 | [], _, _, h => by rw [h.nil_of.1, h.nil_of.2]; exact ⟨.nil, rfl⟩
 | _ :: _, _, _, h => by
  obtain ⟨y, ys, f, g, rfl, rfl, a, b⟩ := h.cons_of
  obtain ⟨e, a⟩ := own_sh.mp a
  obtain ⟨b, e2⟩ := of_owns_sh b
  exact ⟨.cons a b, by rw [e, e2]; rfl⟩
mutual
theorem Own.mono (s : Same S S') : ∀ {o : O} {v : V} {fp : List Addr}, (∀ b ∈ fp, H' b = H b) -> Own K S H o v fp -> Own K S' H' o v fp
 | .dic _, _, _, k, h => by
  obtain ⟨a, e, rfl, h1⟩ := own_dic.mp h
  exact own_dic.mpr ⟨a, e, rfl, by rw [k a List.mem_cons_self]; exact h1⟩
 | .sh _, _, _, k, h => by
  obtain ⟨e, d⟩ := own_sh.mp h
  exact own_sh.mpr ⟨e, d.mono s⟩
 | .lst _, _, _, k, h => by
  obtain ⟨a, xs, f, e, rfl, h1, h2⟩ := own_lst.mp h
  exact own_lst.mpr ⟨a, xs, f, e, rfl, by rw [k a List.mem_cons_self]; exact h1, Owns.mono s (fun b hb => k b (List.mem_cons_of_mem _ hb)) h2⟩
 | .tup _, _, _, k, h => by
  obtain ⟨a, xs, f, e, rfl, h1, h2⟩ := own_tup.mp h
  exact own_tup.mpr ⟨a, xs, f, e, rfl, by rw [k a List.mem_cons_self]; exact h1, Owns.mono s (fun b hb => k b (List.mem_cons_of_mem _ hb)) h2⟩
theorem Owns.mono (s : Same S S') : ∀ {l : List O} {xs : List V} {fp : List Addr}, (∀ b ∈ fp, H' b = H b) -> Owns K S H l xs fp -> Owns K S' H' l xs fp
 | [], _, _, k, h => by rw [h.nil_of.1, h.nil_of.2]; exact .nil
 | _ :: _, _, _, k, h => by
  obtain ⟨y, ys, f, g, rfl, rfl, a, b⟩ := h.cons_of
  exact .cons (Own.mono s (fun b hb => k b (List.mem_append_left _ hb)) a) (Owns.mono s (fun b hb => k b (List.mem_append_right _ hb)) b)
end
mutual
theorem Own.there : ∀ {o : O} {v : V} {fp : List Addr}, Own K S H o v fp -> ∀ b ∈ fp, H b ≠ none
 | .dic _, _, _, h => by
  obtain ⟨a, e, rfl, h1⟩ := own_dic.mp h
  intro b hb
  rw [List.mem_singleton] at hb
  subst hb
  rw [h1]; exact fun z => by cases z
 | .sh _, _, _, h => by
  obtain ⟨e, d⟩ := own_sh.mp h
  rw [e]; intro b hb; cases hb
 | .lst _, _, _, h => by
  obtain ⟨a, xs, f, e, rfl, h1, h2⟩ := own_lst.mp h
  intro b hb
  rcases List.mem_cons.mp hb with rfl | hb
  ·rw [h1]; exact fun z => by cases z
  ·exact Owns.there h2 b hb
 | .tup _, _, _, h => by
  obtain ⟨a, xs, f, e, rfl, h1, h2⟩ := own_tup.mp h
  intro b hb
  rcases List.mem_cons.mp hb with rfl | hb
  ·rw [h1]; exact fun z => by cases z
  ·exact Owns.there h2 b hb
theorem Owns.there : ∀ {l : List O} {xs : List V} {fp : List Addr}, Owns K S H l xs fp -> ∀ b ∈ fp, H b ≠ none
 | [], _, _, h => by rw [h.nil_of.2]; intro b hb; cases hb
 | _ :: _, _, _, h => by
  obtain ⟨y, ys, f, g, rfl, rfl, a, b⟩ := h.cons_of
  intro c hc
  rcases List.mem_append.mp hc with hc | hc
  ·exact Own.there a c hc
  ·exact Owns.there b c hc
end
mutual
theorem Own.den {S2 : Hp} (s : Same S S2) : ∀ {o : O} {v : V} {fp : List Addr}, (∀ b ∈ fp, S2 b = H b) -> Own K S H o v fp -> Den K S2 o.d v
 | .dic _, _, _, k, h => by
  obtain ⟨a, e, rfl, h1⟩ := own_dic.mp h
  rw [O.d]
  exact den_dic.mpr ⟨a, e, .inl (by rw [k a List.mem_cons_self]; exact h1)⟩
 | .sh _, _, _, k, h => by
  obtain ⟨e, d⟩ := own_sh.mp h
  exact d.mono s
 | .lst l, _, _, k, h => by
  obtain ⟨a, xs, f, e, rfl, h1, h2⟩ := own_lst.mp h
  rw [O.d]
  exact den_lst.mpr ⟨a, xs, e, .inl (by rw [k a List.mem_cons_self]; exact h1), Owns.den s (fun b hb => k b (List.mem_cons_of_mem _ hb)) h2⟩
 | .tup l, _, _, k, h => by
  obtain ⟨a, xs, f, e, rfl, h1, h2⟩ := own_tup.mp h
  rw [O.d]
  exact den_tup.mpr ⟨a, xs, e, TpA.of (by rw [k a List.mem_cons_self]; exact h1), Owns.den s (fun b hb => k b (List.mem_cons_of_mem _ hb)) h2⟩
theorem Owns.den {S2 : Hp} (s : Same S S2) : ∀ {l : List O} {xs : List V} {fp : List Addr}, (∀ b ∈ fp, S2 b = H b) -> Owns K S H l xs fp -> Dens K S2 (O.ds l) xs
 | [], _, _, k, h => by rw [h.nil_of.1, O.ds]; exact .nil
 | _ :: _, _, _, k, h => by
  obtain ⟨y, ys, f, g, rfl, rfl, a, b⟩ := h.cons_of
  rw [O.ds]
  exact .cons (Own.den s (fun b hb => k b (List.mem_append_left _ hb)) a) (Owns.den s (fun b hb => k b (List.mem_append_right _ hb)) b)
end
theorem Own.denH {o : O} {v : V} {fp : List Addr} (s : Same S H) (h : Own K S H o v fp) : Den K H o.d v := h.den s fun _ _ => rfl
theorem Ext.keeps {fp : List Addr} (e : Ext S H S' H') (h : ∀ b ∈ fp, S b = none) (t : ∀ b ∈ fp, H b ≠ none) : (∀ b ∈ fp, H' b = H b) /\ ∀ b ∈ fp, S' b = none := by
 have key : ∀ b ∈ fp, H' b = H b /\ S' b = none := fun b hb => by
  cases q : H b with
  | none => exact absurd q (t b hb)
  | some o => exact e.al b o q (h b hb)
 exact ⟨fun b hb => (key b hb).1, fun b hb => (key b hb).2⟩
inductive Sl where
 | un | lo | sh (d : D) | ow (o : O)
 deriving Inhabited
abbrev Env := List Sl
structure RlF (K : W.Frag) (A : Hp) (Λ : Nat -> Option Addr) (Φ : Nat -> List Addr) (ρ : Env) (σ : St) (S H : Hp) : Prop where
 len : σ.length = ρ.length
 sub : Same S H
 sh : ∀ (i : Nat) d, ρ[i]? = some (.sh d) -> ∃ v, σ[i]? = some (some v) /\ Den K S d v
 ow : ∀ (i : Nat) o, ρ[i]? = some (.ow o) -> ∃ v, σ[i]? = some (some v) /\ Own K S H o v (Φ i) /\ (Φ i).Nodup /\ ∀ b ∈ Φ i, S b = none /\ A b = none
 dj : ∀ (i j : Nat) o o', i ≠ j -> ρ[i]? = some (.ow o) -> ρ[j]? = some (.ow o') -> ∀ b ∈ Φ i, b ∉ Φ j
 lo : ∀ (i : Nat), ρ[i]? = some .lo -> ∃ a, Λ i = some a /\ σ[i]? = some (some (.ref a))
 asub : Same A H
 adis : ∀ b, S b = none \/ A b = none
def RlA (K : W.Frag) (A : Hp) (Λ : Nat -> Option Addr) (ρ : Env) (σ : St) (S H : Hp) : Prop := ∃ Φ, RlF K A Λ Φ ρ σ S H
def Rl (K : W.Frag) (ρ : Env) (σ : St) (S H : Hp) : Prop := ∃ A Λ Φ, RlF K A Λ Φ ρ σ S H
theorem RlF.ext {A : Hp} {Λ : Nat -> Option Addr} {Φ : Nat -> List Addr} {ρ : Env} {σ : St} (r : RlF K A Λ Φ ρ σ S H) (e : Ext S H S' H') : RlF K A Λ Φ ρ σ S' H' where
 len := r.len
 sub := e.sub
 sh := fun i d h => by
  obtain ⟨v, h1, h2⟩ := r.sh i d h
  exact ⟨v, h1, h2.mono e.sh⟩
 ow := fun i o h => by
  obtain ⟨v, h1, h2, h3, h4⟩ := r.ow i o h
  obtain ⟨k1, k2⟩ := e.keeps (fun b hb => (h4 b hb).1) h2.there
  exact ⟨v, h1, h2.mono e.sh k1, h3, fun b hb => ⟨k2 b hb, (h4 b hb).2⟩⟩
 dj := r.dj
 lo := r.lo
 asub := fun b o h => e.same r.sub b o (r.asub b o h)
 adis := fun b => by
  rcases r.adis b with h | h
  ·cases q : A b with
   | none => exact .inr rfl
   | some o => exact .inl (e.al b o (r.asub b o q) h).2
  ·exact .inr h
theorem RlA.ext {A : Hp} {Λ : Nat -> Option Addr} {ρ : Env} {σ : St} (r : RlA K A Λ ρ σ S H) (e : Ext S H S' H') : RlA K A Λ ρ σ S' H' := let ⟨Φ, f⟩ := r; ⟨Φ, f.ext e⟩
theorem RlA.toRl {A : Hp} {Λ : Nat -> Option Addr} {ρ : Env} {σ : St} (r : RlA K A Λ ρ σ S H) : Rl K ρ σ S H := let ⟨Φ, f⟩ := r; ⟨A, Λ, Φ, f⟩
theorem RlA.sub {A : Hp} {Λ : Nat -> Option Addr} {ρ : Env} {σ : St} (r : RlA K A Λ ρ σ S H) : Same S H := let ⟨_, f⟩ := r; f.sub
theorem RlA.asub {A : Hp} {Λ : Nat -> Option Addr} {ρ : Env} {σ : St} (r : RlA K A Λ ρ σ S H) : Same A H := let ⟨_, f⟩ := r; f.asub
theorem RlA.adis {A : Hp} {Λ : Nat -> Option Addr} {ρ : Env} {σ : St} (r : RlA K A Λ ρ σ S H) : ∀ b, S b = none \/ A b = none := let ⟨_, f⟩ := r; f.adis
theorem RlA.sh {A : Hp} {Λ : Nat -> Option Addr} {ρ : Env} {σ : St} (r : RlA K A Λ ρ σ S H) : ∀ (i : Nat) d, ρ[i]? = some (.sh d) -> ∃ v, σ[i]? = some (some v) /\ Den K S d v := let ⟨_, f⟩ := r; f.sh
theorem Rl.ext {ρ : Env} {σ : St} (r : Rl K ρ σ S H) (e : Ext S H S' H') : Rl K ρ σ S' H' := let ⟨A, Λ, Φ, f⟩ := r; ⟨A, Λ, Φ, f.ext e⟩
theorem Rl.sub {ρ : Env} {σ : St} (r : Rl K ρ σ S H) : Same S H := let ⟨_, _, _, f⟩ := r; f.sub
theorem Rl.sh {ρ : Env} {σ : St} (r : Rl K ρ σ S H) : ∀ (i : Nat) d, ρ[i]? = some (.sh d) -> ∃ v, σ[i]? = some (some v) /\ Den K S d v := let ⟨_, _, _, f⟩ := r; f.sh
theorem Rl.ow {ρ : Env} {σ : St} (r : Rl K ρ σ S H) : ∀ (i : Nat) o, ρ[i]? = some (.ow o) -> ∃ v fp, σ[i]? = some (some v) /\ Own K S H o v fp /\ fp.Nodup /\ ∀ b ∈ fp, S b = none := fun i o h => by
 obtain ⟨A, Λ, Φ, f⟩ := r
 obtain ⟨v, h1, h2, h3, h4⟩ := f.ow i o h
 exact ⟨v, _, h1, h2, h3, fun b hb => (h4 b hb).1⟩
abbrev XE := Env -> Option D
abbrev XT := Env -> Option Bool
abbrev XA := Env -> Option (List D)
def SE (K : W.Frag) (t : TE) (e : XE) : Prop := ∀ ρ σ S H (Q : VK) d, Rl K ρ σ S H -> e ρ = some d -> (∀ v S' H', Ext S H S' H' -> Den K S' d v -> Q v H') -> t σ H Q
def SPk (K : W.Frag) (t : TE) (e : XE) : Prop := ∀ ρ σ S H (Q : VK) d, Rl K ρ σ S H -> e ρ = some d -> (∀ v S' H', Ext S H S' H' -> DenP K S' H' d v -> Q v H') -> t σ H Q
def SF (K : W.Frag) (t : TE) (e : XA) : Prop := ∀ ρ σ S H (Q : VK) l, Rl K ρ σ S H -> e ρ = some l -> (∀ a xs S' H', Ext S H S' H' -> H a = none -> S' a = none -> H' a = some (.lst xs) -> Dens K S' l xs -> Q (.ref a) H') -> t σ H Q
def ST (K : W.Frag) (t : TT) (c : XT) : Prop := ∀ ρ σ S H (Q : Bool -> Hp -> Prop) b, Rl K ρ σ S H -> c ρ = some b -> (∀ S' H', Ext S H S' H' -> Q b H') -> t σ H Q
def SA (K : W.Frag) (t : TA) (e : XA) : Prop := ∀ ρ σ S H (Q : List V -> Hp -> Prop) ds, Rl K ρ σ S H -> e ρ = some ds -> (∀ vs S' H', Ext S H S' H' -> Dens K S' ds vs -> Q vs H') -> t σ H Q
def SAP (K : W.Frag) (t : TA) (e : XA) : Prop := ∀ ρ σ S H (Q : List V -> Hp -> Prop) ds, Rl K ρ σ S H -> e ρ = some ds -> (∀ vs S' H', Ext S H S' H' -> DensP K S' H' ds vs -> Q vs H') -> t σ H Q
theorem SE.p {t : TE} {e : XE} (h : SE K t e) : SPk K t e := fun ρ σ S H Q d r x k => h ρ σ S H Q d r x fun v S' H' z dv => k v S' H' z (.inl dv)
@[simp] def xL (e : XA) : XE := fun ρ => (e ρ).map D.lst
theorem SF.e {t : TE} {e : XA} (h : SF K t e) : SE K t (xL e) := fun ρ σ S H Q d r x k => by
 unfold xL at x
 cases q : e ρ with
 | none => rw [q] at x; cases x
 | some l =>
  rw [q] at x
  cases x
  refine h ρ σ S H Q l r q fun a xs S' H' z h1 h2 h3 h4 => ?_
  have s2 : Same S' (upd S' a (.lst xs)) := fun b u e => by rw [upd_ne (ne_of_none e h2)]; exact e
  refine k _ (upd S' a (.lst xs)) H' ⟨z.sh.trans s2, fun b u e => ?_, fun b o e n => ?_⟩ (den_lst.mpr ⟨a, xs, rfl, .inl upd_same, h4.mono s2⟩)
  ·by_cases hb : b = a
   ·subst hb; rw [upd_same] at e; cases e; exact h3
   ·rw [upd_ne hb] at e; exact z.sub b u e
  ·obtain ⟨y1, y2⟩ := z.al b o e n
   exact ⟨y1, by rw [upd_ne (ne_of_none e h1)]; exact y2⟩
@[simp] def xVar (i : Nat) : XE := fun ρ => match ρ[i]? with | some (.sh d) => some d | _ => none
def shs : List O -> Option (List D)
 | [] => some []
 | .sh d :: l => (shs l).map fun r => d :: r
 | _ => none
theorem shs_map : ∀ l : List D, shs (l.map .sh) = some l
 | [] => rfl
 | d :: l => by rw [List.map_cons, shs, shs_map l]; rfl
theorem of_shs : ∀ {os : List O} {l : List D}, shs os = some l -> os = l.map .sh
 | [], l, h => by cases h; rfl
 | o :: os, l, h => by
  cases o with
  | sh d =>
   have h' : (shs os).map (fun r => d :: r) = some l := h
   cases q : shs os with
   | none => rw [q] at h'; cases h'
   | some m => rw [q] at h'; cases h'; rw [of_shs q]; rfl
  | lst _ => cases h
  | tup _ => cases h
  | dic _ => cases h
def peek : Sl -> Option D
 | .sh d => some d
 | .ow (.sh d) => some d
 | .ow (.lst os) => (shs os).map D.lst
 | _ => none
@[simp] theorem peek_os (d : D) : peek (.ow (.sh d)) = some d := rfl
@[simp] theorem peek_sh (d : D) : peek (.sh d) = some d := rfl
@[simp] theorem peek_ow (l : List D) : peek (.ow (.lst (l.map .sh))) = some (.lst l) := by show (shs _).map D.lst = _; rw [shs_map]; rfl
@[simp] def xVarP (i : Nat) : XE := fun ρ => (ρ[i]?).bind peek
theorem s_var (i : Nat) : SE K (tVar i) (xVar i) := fun ρ σ S H Q d r x k => by
 unfold xVar at x
 split at x
 ·rename_i d' e
  cases x
  obtain ⟨v, h1, h2⟩ := r.sh i _ e
  exact ⟨v, h1, k v S H (Ext.refl r.sub) h2⟩
 ·cases x
theorem s_varP (i : Nat) : SPk K (tVar i) (xVarP i) := fun ρ σ S H Q d r x k => by
 unfold xVarP at x
 cases q : ρ[i]? with
 | none => rw [q] at x; cases x
 | some s =>
  rw [q] at x
  cases s with
  | un => cases x
  | lo => cases x
  | sh d' =>
   cases x
   obtain ⟨v, h1, h2⟩ := r.sh i _ q
   exact ⟨v, h1, k v S H (Ext.refl r.sub) (.inl h2)⟩
  | ow o =>
   cases o with
   | sh d' =>
    cases x
    obtain ⟨v, fp, h1, h2, h3, h4⟩ := r.ow i _ q
    exact ⟨v, h1, k v S H (Ext.refl r.sub) (.inl (own_sh.mp h2).2)⟩
   | tup l => cases x
   | dic ks => cases x
   | lst os =>
    have x' : (shs os).map D.lst = some d := x
    cases qs : shs os with
    | none => rw [qs] at x'; cases x'
    | some l =>
     rw [qs] at x'
     cases x'
     have e := of_shs qs
     subst e
     obtain ⟨v, fp, h1, h2, h3, h4⟩ := r.ow i _ q
     obtain ⟨a, xs, f, rfl, rfl, h5, h6⟩ := own_lst.mp h2
     exact ⟨_, h1, k _ S H (Ext.refl r.sub) (.inr ⟨l, a, xs, rfl, rfl, h5, (of_owns_sh h6).1⟩)⟩
def SQ (K : W.Frag) (t : TE) (e : XE) : Prop := ∀ ρ σ S H (Q : VK) d, Rl K ρ σ S H -> e ρ = some d -> (∀ v S' H', Ext S H S' H' -> Den K H' d v -> Q v H') -> t σ H Q
theorem denP_H {d : D} {v : V} (s : Same S H) (h : DenP K S H d v) : Den K H d v := by
 rcases h with h | ⟨l, p, xs, rfl, rfl, h1, h2⟩
 ·exact h.mono s
 ·exact den_lst.mpr ⟨p, xs, rfl, .inl h1, h2.mono s⟩
theorem SPk.q {t : TE} {e : XE} (h : SPk K t e) : SQ K t e := fun ρ σ S H Q d r x k => h ρ σ S H Q d r x fun v S' H' z dv => k v S' H' z (denP_H z.sub dv)
def peekQ : Sl -> Option D
 | .sh d => some d
 | .ow o => some o.d
 | _ => none
@[simp] theorem peekQ_sh (d : D) : peekQ (.sh d) = some d := rfl
@[simp] theorem peekQ_ow (o : O) : peekQ (.ow o) = some o.d := rfl
@[simp] def xVarQ (i : Nat) : XE := fun ρ => (ρ[i]?).bind peekQ
theorem s_varQ (i : Nat) : SQ K (tVar i) (xVarQ i) := fun ρ σ S H Q d r x k => by
 unfold xVarQ at x
 cases q : ρ[i]? with
 | none => rw [q] at x; cases x
 | some s =>
  rw [q] at x
  cases s with
  | un => cases x
  | lo => cases x
  | sh d' =>
   cases x
   obtain ⟨v, h1, h2⟩ := r.sh i _ q
   exact ⟨v, h1, k v S H (Ext.refl r.sub) (h2.mono r.sub)⟩
  | ow o =>
   cases x
   obtain ⟨v, fp, h1, h2, h3, h4⟩ := r.ow i _ q
   exact ⟨_, h1, k _ S H (Ext.refl r.sub) (h2.denH r.sub)⟩
@[simp] def xC (d : D) : XE := fun _ => some d
def flat : D -> Option V
 | .non => some .non | .bl b => some (.bl b) | .int i => some (.int i) | .str x => some (.str x) | .ty x => some (.ty x) | _ => none
theorem den_flat {d : D} {v : V} (h : flat d = some v) : Den K S d v := by
 cases d <;> simp [flat] at h <;> subst h <;> unfold Den <;> rfl
theorem s_c {v : V} {d : D} (h : flat d = some v) : SE K (tC v) (xC d) := fun ρ σ S H Q e r x k => by
 cases x
 exact k v S H (Ext.refl r.sub) (den_flat h)
@[simp] def xFl (e : XE) : XE := fun ρ => (e ρ).bind fun d => if (flat d).isSome then some d else none
theorem flat_eq {d : D} {v w : V} (h : flat d = some w) (k : Den K S d v) : v = w := by
 cases d <;> simp [flat] at h <;> subst h <;> unfold Den at k <;> exact k
theorem SQ.fl {t : TE} {e : XE} (h : SQ K t e) : SE K t (xFl e) := fun ρ σ S H Q d r x k => by
 unfold xFl at x
 cases q : e ρ with
 | none => rw [q] at x; cases x
 | some d' =>
  rw [q] at x
  dsimp only [Option.bind] at x
  split at x
  ·rename_i hf
   cases x
   obtain ⟨w, hw⟩ := Option.isSome_iff_exists.mp hf
   refine h ρ σ S H Q d r q fun v S' H' z dv => k v S' H' z ?_
   rw [flat_eq hw dv]
   exact den_flat hw
  ·cases x
@[simp] def xOp (f : D -> D -> Option D) (a b : XE) : XE := fun ρ => (a ρ).bind fun x => (b ρ).bind fun y => f x y
def SR2 (K : W.Frag) (r : R2) (f : D -> D -> Option D) : Prop := ∀ S H x y d e g (Q : VK), Same S H -> DenP K S H d x -> DenP K S H e y -> f d e = some g -> (∀ v S' H', Ext S H S' H' -> Den K S' g v -> Q v H') -> r x y H Q
theorem s_op {r : R2} {f : D -> D -> Option D} {ta tb : TE} {a b : XE} (hr : SR2 K r f) (ha : SPk K ta a) (hb : SPk K tb b) : SE K (tOp r ta tb) (xOp f a b) := fun ρ σ S H Q d r x k => by
 unfold xOp at x
 cases qa : a ρ with
 | none => rw [qa] at x; cases x
 | some da =>
  rw [qa] at x
  dsimp only [Option.bind] at x
  cases qb : b ρ with
  | none => rw [qb] at x; cases x
  | some db =>
   rw [qb] at x
   refine ha ρ σ S H _ da r qa fun v S1 H1 z1 d1 => ?_
   have r1 := r.ext z1
   refine hb ρ σ S1 H1 _ db r1 qb fun w S2 H2 z2 d2 => ?_
   exact hr S2 H2 v w da db d Q z2.sub (d1.mono z2 r1.sub) d2 x fun u S3 H3 z3 d3 => k u S3 H3 ((z1.trans z2).trans z3) d3
theorem ext_all {S2 H3 S3 : Hp} (s : Same S H) (z : Ext H H S3 H3) : Ext S H S H3 := ⟨Same.refl _, fun b u e => z.sub b u (z.sh b u (s b u e)), fun b o h n => ⟨z.sub b o (z.sh b o h), n⟩⟩
theorem s_opQ {r : R2} {f : D -> D -> Option D} {ta tb : TE} {a b : XE} (hr : SR2 K r f) (ha : SQ K ta a) (hb : SQ K tb b) : SQ K (tOp r ta tb) (xOp f a b) := fun ρ σ S H Q d r x k => by
 unfold xOp at x
 cases qa : a ρ with
 | none => rw [qa] at x; cases x
 | some da =>
  rw [qa] at x
  dsimp only [Option.bind] at x
  cases qb : b ρ with
  | none => rw [qb] at x; cases x
  | some db =>
   rw [qb] at x
   refine ha ρ σ S H _ da r qa fun v S1 H1 z1 d1 => ?_
   have r1 := r.ext z1
   refine hb ρ σ S1 H1 _ db r1 qb fun w S2 H2 z2 d2 => ?_
   exact hr H2 H2 v w da db d Q (Same.refl _) (.inl (d1.mono (z2.same r1.sub))) (.inl d2) x fun u S3 H3 z3 d3 => k u S2 H3 ((z1.trans z2).trans (ext_all (S2 := S2) z2.sub z3)) (d3.mono z3.sub)
@[simp] def xUn (f : D -> Option D) (a : XE) : XE := fun ρ => (a ρ).bind f
def SR1 (K : W.Frag) (r : V -> Hp -> VK -> Prop) (f : D -> Option D) : Prop := ∀ S H x d g (Q : VK), Same S H -> DenP K S H d x -> f d = some g -> (∀ v S' H', Ext S H S' H' -> Den K S' g v -> Q v H') -> r x H Q
theorem s_un {r : V -> Hp -> VK -> Prop} {f : D -> Option D} {ta : TE} {a : XE} (hr : SR1 K r f) (ha : SPk K ta a) : SE K (tUn r ta) (xUn f a) := fun ρ σ S H Q d r x k => by
 unfold xUn at x
 cases qa : a ρ with
 | none => rw [qa] at x; cases x
 | some da =>
  rw [qa] at x
  refine ha ρ σ S H _ da r qa fun v S1 H1 z1 d1 => ?_
  exact hr S1 H1 v da d Q z1.sub d1 x fun u S3 H3 z3 d3 => k u S3 H3 (z1.trans z3) d3
@[simp] def xNil : XA := fun _ => some []
@[simp] def xCons (a : XE) (b : XA) : XA := fun ρ => (a ρ).bind fun x => (b ρ).bind fun y => some (x :: y)
theorem sa_nil : SA K tNil xNil := fun ρ σ S H Q ds r x k => by cases x; exact k [] S H (Ext.refl r.sub) .nil
theorem sp_nil : SAP K tNil xNil := fun ρ σ S H Q ds r x k => by cases x; exact k [] S H (Ext.refl r.sub) .nil
theorem xCons_of {a : XE} {b : XA} {ρ : Env} {ds : List D} (x : xCons a b ρ = some ds) : ∃ d r, a ρ = some d /\ b ρ = some r /\ ds = d :: r := by
 unfold xCons at x
 cases qa : a ρ with
 | none => rw [qa] at x; cases x
 | some da =>
  rw [qa] at x
  dsimp only [Option.bind] at x
  cases qb : b ρ with
  | none => rw [qb] at x; cases x
  | some db => rw [qb] at x; cases x; exact ⟨_, _, rfl, rfl, rfl⟩
theorem sa_cons {ta : TE} {tr : TA} {a : XE} {b : XA} (ha : SE K ta a) (hb : SA K tr b) : SA K (tCons ta tr) (xCons a b) := fun ρ σ S H Q ds r x k => by
 obtain ⟨da, db, qa, qb, rfl⟩ := xCons_of x
 refine ha ρ σ S H _ da r qa fun v S1 H1 z1 d1 => hb ρ σ S1 H1 _ db (r.ext z1) qb fun vs S2 H2 z2 d2 => k _ S2 H2 (z1.trans z2) (.cons (d1.mono z2.sh) d2)
theorem sp_cons {ta : TE} {tr : TA} {a : XE} {b : XA} (ha : SPk K ta a) (hb : SAP K tr b) : SAP K (tCons ta tr) (xCons a b) := fun ρ σ S H Q ds r x k => by
 obtain ⟨da, db, qa, qb, rfl⟩ := xCons_of x
 refine ha ρ σ S H _ da r qa fun v S1 H1 z1 d1 => hb ρ σ S1 H1 _ db (r.ext z1) qb fun vs S2 H2 z2 d2 => k _ S2 H2 (z1.trans z2) (.cons (d1.mono z2 (r.ext z1).sub) d2)
@[irreducible] def LIM : Nat := 1000000
theorem lim_lt : LIM < sizeLine := by rw [sizeLine_eq]; unfold LIM; decide
@[simp] def xTup (a : XA) : XE := fun ρ => (a ρ).bind fun l => if l.length <= LIM then some (.tup l) else none
theorem s_tup {t : TA} {a : XA} (h : SA K t a) : SE K (tTup t) (xTup a) := fun ρ σ S H Q d r x k => by
 unfold xTup at x
 cases q : a ρ with
 | none => rw [q] at x; cases x
 | some l =>
  rw [q] at x
  dsimp only [Option.bind] at x
  split at x
  ·rename_i hl
   cases x
   refine h ρ σ S H _ l r q fun vs S1 H1 z1 d1 => ⟨?_, fun p hp => ?_⟩
   ·rw [<- d1.length]; exact Nat.le_of_lt (Nat.lt_of_le_of_lt hl lim_lt)
   ·have z2 := Ext.new (o := .tup vs) z1.sub hp
    exact k _ _ _ (z1.trans z2) (den_tup.mpr ⟨p, vs, rfl, TpA.of upd_same, d1.mono z2.sh⟩)
  ·cases x
@[simp] def xLst (a : XA) : XA := fun ρ => (a ρ).bind fun l => if l.length <= LIM then some l else none
theorem s_lst {t : TA} {a : XA} (h : SA K t a) : SF K (tLst t) (xLst a) := fun ρ σ S H Q l r x k => by
 unfold xLst at x
 cases q : a ρ with
 | none => rw [q] at x; cases x
 | some l =>
  rw [q] at x
  dsimp only [Option.bind] at x
  split at x
  ·rename_i hl
   cases x
   refine h ρ σ S H _ l r q fun vs S1 H1 z1 d1 => ⟨?_, fun p hp => ?_⟩
   ·rw [<- d1.length]; exact Nat.le_of_lt (Nat.lt_of_le_of_lt hl lim_lt)
   ·have hp0 : H p = none := (z1.same r.sub).free hp
    exact k p vs S1 _ (z1.trans (Ext.own z1.sub hp)) hp0 (z1.sub.free hp) upd_same d1
  ·cases x
@[simp] def xCB (f : List D -> Option D) (a : XA) : XE := fun ρ => (a ρ).bind f
def SRB (K : W.Frag) (r : List V -> Hp -> VK -> Prop) (f : List D -> Option D) : Prop := ∀ S H vs ds g (Q : VK), Same S H -> DensP K S H ds vs -> f ds = some g -> (∀ v S' H', Ext S H S' H' -> Den K S' g v -> Q v H') -> r vs H Q
theorem s_cb {r : List V -> Hp -> VK -> Prop} {f : List D -> Option D} {t : TA} {a : XA} (hr : SRB K r f) (h : SAP K t a) : SE K (tCB r t) (xCB f a) := fun ρ σ S H Q d rl x k => by
 unfold xCB at x
 cases q : a ρ with
 | none => rw [q] at x; cases x
 | some ds =>
  rw [q] at x
  refine h ρ σ S H _ ds rl q fun vs S1 H1 z1 d1 => ?_
  exact hr S1 H1 vs ds d Q z1.sub d1 x fun v S2 H2 z2 d2 => k v S2 H2 (z1.trans z2) d2
@[simp] def xCBF (f : List D -> Option (List D)) (a : XA) : XA := fun ρ => (a ρ).bind f
def SRF (K : W.Frag) (r : List V -> Hp -> VK -> Prop) (f : List D -> Option (List D)) : Prop := ∀ S H vs ds g (Q : VK), Same S H -> DensP K S H ds vs -> f ds = some g -> (∀ a xs H', Ext S H S H' -> H a = none -> H' a = some (.lst xs) -> Dens K S g xs -> Q (.ref a) H') -> r vs H Q
theorem s_cbF {r : List V -> Hp -> VK -> Prop} {f : List D -> Option (List D)} {t : TA} {a : XA} (hr : SRF K r f) (h : SAP K t a) : SF K (tCB r t) (xCBF f a) := fun ρ σ S H Q d rl x k => by
 unfold xCBF at x
 cases q : a ρ with
 | none => rw [q] at x; cases x
 | some ds =>
  rw [q] at x
  refine h ρ σ S H _ ds rl q fun vs S1 H1 z1 d1 => ?_
  exact hr S1 H1 vs ds d Q z1.sub d1 x fun b xs H2 z2 h1 h2 d2 => k b xs S1 H2 (z1.trans z2) ((z1.same rl.sub).free h1) (z1.sub.free h1) h2 d2
def STr (K : W.Frag) (t : TE) (e : Env -> Option O) : Prop := ∀ ρ σ S H (Q : VK) o, Rl K ρ σ S H -> e ρ = some o -> (∀ v fp S' H', Ext S H S' H' -> Own K S' H' o v fp -> fp.Nodup -> (∀ b ∈ fp, H b = none /\ S' b = none) -> Q v H') -> t σ H Q
@[simp] def xLT (e : XA) : Env -> Option O := fun ρ => (e ρ).map fun l => .lst (l.map .sh)
theorem SF.t {t : TE} {e : XA} (h : SF K t e) : STr K t (xLT e) := fun ρ σ S H Q o r x k => by
 unfold xLT at x
 cases q : e ρ with
 | none => rw [q] at x; cases x
 | some l =>
  rw [q] at x
  cases x
  refine h ρ σ S H Q l r q fun a xs S' H' z h1 h2 h3 h4 => ?_
  refine k _ [a] S' H' z (own_lst.mpr ⟨a, xs, [], rfl, rfl, h3, owns_sh h4⟩) (by simp) fun b hb => ?_
  rw [List.mem_singleton.mp hb]
  exact ⟨h1, h2⟩
@[simp] def xSh (e : XE) : Env -> Option O := fun ρ => (e ρ).map .sh
theorem SE.t {t : TE} {e : XE} (h : SE K t e) : STr K t (xSh e) := fun ρ σ S H Q o r x k => by
 unfold xSh at x
 cases q : e ρ with
 | none => rw [q] at x; cases x
 | some d =>
  rw [q] at x
  cases x
  exact h ρ σ S H Q d r q fun v S' H' z dv => k v [] S' H' z (own_sh.mpr ⟨rfl, dv⟩) .nil fun b hb => by cases hb
def frzS (S H : Hp) (fp : List Addr) : Hp := fun b => if b ∈ fp then H b else S b
theorem frzS_in {fp : List Addr} {b : Addr} (h : b ∈ fp) : frzS S H fp b = H b := by unfold frzS; rw [if_pos h]
theorem frzS_out {fp : List Addr} {b : Addr} (h : b ∉ fp) : frzS S H fp b = S b := by unfold frzS; rw [if_neg h]
theorem frzS_same {fp : List Addr} (n : ∀ b ∈ fp, S b = none) : Same S (frzS S H fp) := fun b o e => by
 rw [frzS_out fun hb => by rw [n b hb] at e; cases e]
 exact e
theorem frzS_sub {fp : List Addr} (s : Same S H) : Same (frzS S H fp) H := fun b o e => by
 by_cases hb : b ∈ fp
 ·rw [frzS_in hb] at e; exact e
 ·rw [frzS_out hb] at e; exact s b o e
theorem frzS_ext {fp : List Addr} (z : Ext S H S' H') (n : ∀ b ∈ fp, H b = none /\ S' b = none) : Ext S H (frzS S' H' fp) H' :=
 ⟨z.sh.trans (frzS_same fun b hb => (n b hb).2), frzS_sub z.sub, fun b o h hn => ⟨(z.al b o h hn).1, by rw [frzS_out fun hb => by rw [(n b hb).1] at h; cases h]; exact (z.al b o h hn).2⟩⟩
@[simp] def xOD (e : Env -> Option O) : XE := fun ρ => (e ρ).map O.d
theorem STr.e {t : TE} {e : Env -> Option O} (h : STr K t e) : SE K t (xOD e) := fun ρ σ S H Q d r x k => by
 unfold xOD at x
 cases q : e ρ with
 | none => rw [q] at x; cases x
 | some o =>
  rw [q] at x
  cases x
  exact h ρ σ S H Q o r q fun v fp S' H' z ow nd n => k v _ H' (frzS_ext z n) (ow.den (frzS_same fun b hb => (n b hb).2) fun b hb => frzS_in hb)
def spOf (K : W.Frag) (n : Nat) (m : List D -> Option O) : Sp := fun vs H Q _ => vs.length = n /\ ∃ S ds o, Same S H /\ Dens K S ds vs /\ m ds = some o /\ ∀ v fp S' H', Ext S H S' H' -> Own K S' H' o v fp -> fp.Nodup -> (∀ b ∈ fp, H b = none /\ S' b = none) -> Q v H'
@[simp] def xCallT (m : List D -> Option O) (a : XA) : Env -> Option O := fun ρ => (a ρ).bind m
theorem s_callT {n : Nat} {m : List D -> Option O} {E : XK} {t : TA} {a : XA} (h : SA K t a) (hn : ∀ ρ ds, a ρ = some ds -> ds.length = n) : STr K (tCall (spOf K n m) [] E t) (xCallT m a) := fun ρ σ S H Q o rl x k => by
 unfold xCallT at x
 cases q : a ρ with
 | none => rw [q] at x; cases x
 | some ds =>
  rw [q] at x
  refine h ρ σ S H _ ds rl q fun vs S1 H1 z1 d1 => ?_
  rw [List.append_nil]
  refine ⟨by rw [<- d1.length]; exact hn ρ ds q, S1, ds, o, z1.sub, d1, x, fun v fp S2 H2 z2 ow nd n => k v fp S2 H2 (z1.trans z2) ow nd fun b hb => ⟨(z1.same rl.sub).free (n b hb).1, (n b hb).2⟩⟩
@[simp] def xCall (m : List D -> Option D) (a : XA) : XE := fun ρ => (a ρ).bind m
theorem s_call {n : Nat} {m : List D -> Option O} {E : XK} {t : TA} {a : XA} (h : SA K t a) (hn : ∀ ρ ds, a ρ = some ds -> ds.length = n) : SE K (tCall (spOf K n m) [] E t) (xCall (fun ds => (m ds).map O.d) a) := by
 have := (s_callT (m := m) (E := E) h hn).e
 have e : xOD (xCallT m a) = xCall (fun ds => (m ds).map O.d) a := by
  funext ρ
  show ((a ρ).bind m).map O.d = (a ρ).bind fun ds => (m ds).map O.d
  cases a ρ <;> rfl
 rw [e] at this
 exact this
@[simp] def xCallB (m : List D -> Option D) (a : XA) : XE := fun ρ => ((a ρ).bind m).bind fun d => if (flat d).isSome then some d else none
def SAT (K : W.Frag) (t : TA) (e : Env -> Option (List O)) : Prop := ∀ ρ σ S H (Q : List V -> Hp -> Prop) os, Rl K ρ σ S H -> e ρ = some os -> (∀ vs fp S' H', Ext S H S' H' -> Owns K S' H' os vs fp -> fp.Nodup -> (∀ b ∈ fp, H b = none /\ S' b = none) -> Q vs H') -> t σ H Q
@[simp] def xNilT : Env -> Option (List O) := fun _ => some []
@[simp] def xConsT (a : Env -> Option O) (b : Env -> Option (List O)) : Env -> Option (List O) := fun ρ => (a ρ).bind fun x => (b ρ).bind fun y => some (x :: y)
theorem st_nil : SAT K tNil xNilT := fun ρ σ S H Q ds r x k => by cases x; exact k [] [] S H (Ext.refl r.sub) .nil .nil fun _ hb => by cases hb
theorem st_cons {ta : TE} {tr : TA} {a : Env -> Option O} {b : Env -> Option (List O)} (ha : STr K ta a) (hb : SAT K tr b) : SAT K (tCons ta tr) (xConsT a b) := fun ρ σ S H Q os r x k => by
 unfold xConsT at x
 cases qa : a ρ with
 | none => rw [qa] at x; cases x
 | some oa =>
  rw [qa] at x
  dsimp only [Option.bind] at x
  cases qb : b ρ with
  | none => rw [qb] at x; cases x
  | some ob =>
   rw [qb] at x
   cases x
   refine ha ρ σ S H _ oa r qa fun v fp S1 H1 z1 o1 nd1 n1 => hb ρ σ S1 H1 _ ob (r.ext z1) qb fun vs fq S2 H2 z2 o2 nd2 n2 => ?_
   obtain ⟨k1, k2⟩ := z2.keeps (fun b hb => (n1 b hb).2) o1.there
   refine k _ _ S2 H2 (z1.trans z2) (.cons (o1.mono z2.sh k1) o2) ?_ fun c hc => ?_
   ·refine List.nodup_append.mpr ⟨nd1, nd2, fun c hc d hd e => ?_⟩
    subst e
    exact o1.there c hc (n2 c hd).1
   ·rcases List.mem_append.mp hc with hc | hc
    ·exact ⟨(n1 c hc).1, k2 c hc⟩
    ·exact ⟨(z1.same r.sub).free (n2 c hc).1, (n2 c hc).2⟩
@[simp] def xTupT (a : Env -> Option (List O)) : Env -> Option O := fun ρ => (a ρ).bind fun l => if l.length <= LIM then some (.tup l) else none
@[simp] def xLstT (a : Env -> Option (List O)) : Env -> Option O := fun ρ => (a ρ).bind fun l => if l.length <= LIM then some (.lst l) else none
theorem upd_keeps {fp : List Addr} {p : Addr} {o : HO} (h : H p = none) (t : ∀ b ∈ fp, H b ≠ none) : (∀ b ∈ fp, upd H p o b = H b) /\ p ∉ fp := by
 have np : p ∉ fp := fun hp => t p hp h
 exact ⟨fun b hb => upd_ne fun e => np (e ▸ hb), np⟩
theorem s_tupT {t : TA} {a : Env -> Option (List O)} (h : SAT K t a) : STr K (tTup t) (xTupT a) := fun ρ σ S H Q o r x k => by
 unfold xTupT at x
 cases q : a ρ with
 | none => rw [q] at x; cases x
 | some l =>
  rw [q] at x
  dsimp only [Option.bind] at x
  split at x
  ·rename_i hl
   cases x
   refine h ρ σ S H _ l r q fun vs fp S1 H1 z1 o1 nd1 n1 => ⟨?_, fun p hp => ?_⟩
   ·rw [<- o1.length]; exact Nat.le_of_lt (Nat.lt_of_le_of_lt hl lim_lt)
   ·obtain ⟨k1, k2⟩ := upd_keeps (o := .tup vs) hp o1.there
    refine k _ (p :: fp) S1 _ (z1.trans (Ext.own z1.sub hp)) (own_tup.mpr ⟨p, vs, fp, rfl, rfl, upd_same, o1.mono (Same.refl _) k1⟩) (List.nodup_cons.mpr ⟨k2, nd1⟩) fun b hb => ?_
    rcases List.mem_cons.mp hb with rfl | hb
    ·exact ⟨(z1.same r.sub).free hp, z1.sub.free hp⟩
    ·exact n1 b hb
  ·cases x
theorem s_lstT {t : TA} {a : Env -> Option (List O)} (h : SAT K t a) : STr K (tLst t) (xLstT a) := fun ρ σ S H Q o r x k => by
 unfold xLstT at x
 cases q : a ρ with
 | none => rw [q] at x; cases x
 | some l =>
  rw [q] at x
  dsimp only [Option.bind] at x
  split at x
  ·rename_i hl
   cases x
   refine h ρ σ S H _ l r q fun vs fp S1 H1 z1 o1 nd1 n1 => ⟨?_, fun p hp => ?_⟩
   ·rw [<- o1.length]; exact Nat.le_of_lt (Nat.lt_of_le_of_lt hl lim_lt)
   ·obtain ⟨k1, k2⟩ := upd_keeps (o := .lst vs) hp o1.there
    refine k _ (p :: fp) S1 _ (z1.trans (Ext.own z1.sub hp)) (own_lst.mpr ⟨p, vs, fp, rfl, rfl, upd_same, o1.mono (Same.refl _) k1⟩) (List.nodup_cons.mpr ⟨k2, nd1⟩) fun b hb => ?_
    rcases List.mem_cons.mp hb with rfl | hb
    ·exact ⟨(z1.same r.sub).free hp, z1.sub.free hp⟩
    ·exact n1 b hb
  ·cases x
theorem len_nil {ρ : Env} {ds : List D} (h : xNil ρ = some ds) : ds.length = 0 := by cases h; rfl
theorem len_cons {a : XE} {b : XA} {n : Nat} (h : ∀ ρ ds, b ρ = some ds -> ds.length = n) (ρ : Env) (ds : List D) (x : xCons a b ρ = some ds) : ds.length = n + 1 := by
 obtain ⟨da, db, qa, qb, rfl⟩ := xCons_of x
 rw [List.length_cons, h ρ db qb]
@[simp] def xAndV (a b : XE) : XE := fun ρ => (a ρ).bind fun x => match x with | .bl true => b ρ | .bl false => some (.bl false) | _ => none
@[simp] def xOrV (a b : XE) : XE := fun ρ => (a ρ).bind fun x => match x with | .bl true => some (.bl true) | .bl false => b ρ | _ => none
@[simp] def xNotV (a : XE) : XE := fun ρ => (a ρ).bind fun x => match x with | .bl c => some (.bl (!c)) | _ => none
theorem s_andV {ta tb : TE} {a b : XE} (ha : SPk K ta a) (hb : SE K tb b) : SE K (tAndV ta tb) (xAndV a b) := fun ρ σ S H Q d r x k => by
 unfold xAndV at x
 cases qa : a ρ with
 | none => rw [qa] at x; cases x
 | some da =>
  rw [qa] at x
  dsimp only [Option.bind] at x
  refine ha ρ σ S H _ da r qa fun v S1 H1 z1 d1 => ?_
  split at x
  ·exact ⟨true, d1.bl, iteT (hb ρ σ S1 H1 Q d (r.ext z1) x fun w S2 H2 z2 d2 => k w S2 H2 (z1.trans z2) d2)⟩
  ·cases x
   exact ⟨false, d1.bl, iteF (k _ S1 H1 z1 (den_bl.mpr rfl))⟩
  ·cases x
theorem s_notV {ta : TE} {a : XE} (ha : SPk K ta a) : SE K (tNotV ta) (xNotV a) := fun ρ σ S H Q d r x k => by
 unfold xNotV at x
 cases qa : a ρ with
 | none => rw [qa] at x; cases x
 | some da =>
  rw [qa] at x
  dsimp only [Option.bind] at x
  refine ha ρ σ S H _ da r qa fun v S1 H1 z1 d1 => ?_
  split at x
  ·cases x
   exact ⟨_, d1.bl, k _ S1 H1 z1 (den_bl.mpr rfl)⟩
  ·cases x
@[simp] def xIfE (c : XT) (a b : XE) : XE := fun ρ => (c ρ).bind fun q => if q = true then a ρ else b ρ
@[simp] def xB (a : XE) : XT := fun ρ => (a ρ).bind fun x => match x with | .bl c => some c | _ => none
theorem s_b {ta : TE} {a : XE} (ha : SPk K ta a) : ST K (tB ta) (xB a) := fun ρ σ S H Q b r x k => by
 unfold xB at x
 cases qa : a ρ with
 | none => rw [qa] at x; cases x
 | some da =>
  rw [qa] at x
  dsimp only [Option.bind] at x
  refine ha ρ σ S H _ da r qa fun v S1 H1 z1 d1 => ?_
  split at x
  ·cases x
   exact ⟨_, d1.bl, k S1 H1 z1⟩
  ·cases x
theorem s_test {ta : TE} {a : XE} (ha : SPk K ta a) : ST K (tTest ta) (xB a) := s_b ha
def truD : D -> Option Bool
 | .non => some false
 | .bl b => some b
 | .int i => some (i != 0)
 | .str y => if y.length <= LIM then some ((y.length : Int) != 0) else none
 | .lst l => some (!l.isEmpty)
 | .tup l => some (!l.isEmpty)
 | .scr l => some (!l.isEmpty)
 | _ => none
theorem dens_empty {ds : List D} {xs : List V} (h : Dens K S ds xs) : (!ds.isEmpty) = !xs.isEmpty := by
 have := h.length
 cases ds <;> cases xs <;> simp_all
@[simp] def xTru (a : XE) : XT := fun ρ => (a ρ).bind truD
theorem tru_of {d : D} {v : V} {b : Bool} (s : Same S H) (h : DenP K S H d v) (x : truD d = some b) : TruV K v H b := by
 cases d with
 | non => rw [h.non]; cases x; rfl
 | bl c => rw [h.bl]; cases x; rfl
 | int i => rw [h.int]; cases x; rfl
 | str y =>
  rw [h.str]
  have x' : (if y.length <= LIM then some ((y.length : Int) != 0) else none) = some b := x
  split at x'
  ·rename_i hl; cases x'; exact ⟨Nat.le_of_lt (Nat.lt_of_le_of_lt hl lim_lt), rfl⟩
  ·cases x'
 | lst l =>
  obtain ⟨p, xs, rfl, h1, h2⟩ := h.lst s
  cases x
  exact .inl ⟨xs, .inl h1, dens_empty h2⟩
 | tup l =>
  obtain ⟨p, xs, rfl, h1, h2⟩ := h.tup s
  cases x
  exact .inr (.inl ⟨xs, h1, dens_empty h2⟩)
 | scr l =>
  obtain ⟨p, xs, rfl, h1, h2⟩ := h.scr s
  cases x
  exact .inl ⟨xs, h1, dens_empty h2⟩
 | _ => cases x
end
section
variable {K : W.Frag} {S S' H H' : Hp}
@[simp] def xAnd (a b : XT) : XT := fun ρ => (a ρ).bind fun x => if x = true then b ρ else some false
@[simp] def xOr (a b : XT) : XT := fun ρ => (a ρ).bind fun x => if x = true then some true else b ρ
@[simp] def xNot (a : XT) : XT := fun ρ => (a ρ).map fun x => !x
theorem s_and {ta tb : TT} {a b : XT} (ha : ST K ta a) (hb : ST K tb b) : ST K (tAnd ta tb) (xAnd a b) := fun ρ σ S H Q d r x k => by
 unfold xAnd at x
 cases qa : a ρ with
 | none => rw [qa] at x; cases x
 | some q =>
  rw [qa] at x
  dsimp only [Option.bind] at x
  refine ha ρ σ S H _ q r qa fun S1 H1 z1 => ?_
  cases q with
  | true => exact iteT (hb ρ σ S1 H1 Q d (r.ext z1) (by simpa using x) fun S2 H2 z2 => k S2 H2 (z1.trans z2))
  | false =>
   have : d = false := by simpa using x.symm
   subst this
   exact iteF (k S1 H1 z1)
theorem s_or {ta tb : TT} {a b : XT} (ha : ST K ta a) (hb : ST K tb b) : ST K (tOr ta tb) (xOr a b) := fun ρ σ S H Q d r x k => by
 unfold xOr at x
 cases qa : a ρ with
 | none => rw [qa] at x; cases x
 | some q =>
  rw [qa] at x
  dsimp only [Option.bind] at x
  refine ha ρ σ S H _ q r qa fun S1 H1 z1 => ?_
  cases q with
  | false => exact iteF (hb ρ σ S1 H1 Q d (r.ext z1) (by simpa using x) fun S2 H2 z2 => k S2 H2 (z1.trans z2))
  | true =>
   have : d = true := by simpa using x.symm
   subst this
   exact iteT (k S1 H1 z1)
theorem s_not {ta : TT} {a : XT} (ha : ST K ta a) : ST K (tNot ta) (xNot a) := fun ρ σ S H Q d r x k => by
 unfold xNot at x
 cases qa : a ρ with
 | none => rw [qa] at x; cases x
 | some q =>
  rw [qa] at x
  cases x
  exact ha ρ σ S H _ q r qa k
inductive Out where
 | nx (ρ : Env) | rt (d : D) | ro (o : O) | bk (ρ : Env) | ct (ρ : Env)
abbrev XS := Env -> Option Out
def Done (K : W.Frag) (A : Hp) (Λ : Nat -> Option Addr) (S : Hp) (E : Ends) : Out -> Prop
 | .nx ρ => ∀ σ' S' H', RlA K A Λ ρ σ' S' H' -> Same S S' -> E.nx σ' H'
 | .bk ρ => ∀ σ' S' H', RlA K A Λ ρ σ' S' H' -> Same S S' -> E.bk σ' H'
 | .ct ρ => ∀ σ' S' H', RlA K A Λ ρ σ' S' H' -> Same S S' -> E.ct σ' H'
 | .rt d => ∀ v S' H', Same S S' -> Same S' H' -> Same A H' -> (∀ b, S' b = none \/ A b = none) -> Den K S' d v -> E.rt v H'
 | .ro o => ∀ v fp S' H', Same S S' -> Same S' H' -> Same A H' -> (∀ b, S' b = none \/ A b = none) -> Own K S' H' o v fp -> fp.Nodup -> (∀ b ∈ fp, S' b = none /\ A b = none) -> E.rt v H'
theorem Done.mono {A : Hp} {Λ : Nat -> Option Addr} {E : Ends} {o : Out} (s : Same S S') (h : Done K A Λ S E o) : Done K A Λ S' E o := by
 cases o with
 | nx ρ => exact fun σ1 S1 H1 r z => h σ1 S1 H1 r (s.trans z)
 | bk ρ => exact fun σ1 S1 H1 r z => h σ1 S1 H1 r (s.trans z)
 | ct ρ => exact fun σ1 S1 H1 r z => h σ1 S1 H1 r (s.trans z)
 | rt d => exact fun v S1 H1 z => h v S1 H1 (s.trans z)
 | ro d => exact fun v fp S1 H1 z => h v fp S1 H1 (s.trans z)
def SS (K : W.Frag) (t : TS) (m : XS) : Prop := ∀ A Λ ρ σ S H (E : Ends) o, RlA K A Λ ρ σ S H -> m ρ = some o -> Done K A Λ S E o -> t E σ H
@[simp] def xNext : XS := fun ρ => some (.nx ρ)
theorem s_next : SS K tNext xNext := fun A Λ ρ σ S H E o r x k => by cases x; exact k σ S H r (Same.refl _)
@[simp] def xBreak : XS := fun ρ => some (.bk ρ)
@[simp] def xCont : XS := fun ρ => some (.ct ρ)
@[simp] def xNever : XS := fun _ => none
@[simp] def xSeq (m n : XS) : XS := fun ρ => match m ρ with | some (.nx ρ') => n ρ' | o => o
theorem s_seq {t u : TS} {m n : XS} (ht : SS K t m) (hu : SS K u n) : SS K (tSeq t u) (xSeq m n) := fun A Λ ρ σ S H E o r x k => by
 unfold xSeq at x
 cases q : m ρ with
 | none => rw [q] at x; cases x
 | some om =>
  rw [q] at x
  refine ht A Λ ρ σ S H _ om r q ?_
  cases om with
  | nx ρ' => exact fun σ' S' H' r' z => hu A Λ ρ' σ' S' H' E o r' x (k.mono z)
  | rt d => cases x; exact k
  | ro d => cases x; exact k
  | bk d => cases x; exact k
  | ct d => cases x; exact k
@[simp] def xRet (e : XE) : XS := fun ρ => (e ρ).map .rt
theorem s_ret {te : TE} {e : XE} (h : SE K te e) : SS K (tRet te) (xRet e) := fun A Λ ρ σ S H E o r x k => by
 unfold xRet at x
 cases q : e ρ with
 | none => rw [q] at x; cases x
 | some d =>
  rw [q] at x
  cases x
  refine h ρ σ S H _ d r.toRl q fun v S1 H1 z1 d1 => ?_
  have r1 := r.ext z1
  exact k v S1 H1 z1.sh z1.sub r1.asub r1.adis d1
@[simp] def xRetT (e : Env -> Option O) : XS := fun ρ => (e ρ).map .ro
@[simp] def xRetV (i : Nat) : XS := fun ρ => match ρ[i]? with | some (.sh d) => some (.rt d) | some (.ow o) => some (.ro o) | _ => none
theorem s_retV (i : Nat) : SS K (tRet (tVar i)) (xRetV i) := fun A Λ ρ σ S H E o r x k => by
 unfold xRetV at x
 cases q : ρ[i]? with
 | none => rw [q] at x; cases x
 | some s =>
  rw [q] at x
  obtain ⟨Φ, f⟩ := r
  cases s with
  | un => cases x
  | lo => cases x
  | sh d =>
   cases x
   obtain ⟨v, h1, h2⟩ := f.sh i d q
   exact ⟨v, h1, k v S H (Same.refl _) f.sub f.asub f.adis h2⟩
  | ow ot =>
   cases x
   obtain ⟨v, h1, h2, h3, h4⟩ := f.ow i ot q
   exact ⟨v, h1, k v _ S H (Same.refl _) f.sub f.asub f.adis h2 h3 h4⟩
@[simp] def xRetN : XS := fun _ => some (.rt .non)
@[simp] def xIf (c : XT) (m n : XS) : XS := fun ρ => (c ρ).bind fun b => if b = true then m ρ else n ρ
theorem s_if {tc : TT} {t u : TS} {c : XT} {m n : XS} (hc : ST K tc c) (ht : SS K t m) (hu : SS K u n) : SS K (tIfS tc t u) (xIf c m n) := fun A Λ ρ σ S H E o r x k => by
 unfold xIf at x
 cases qc : c ρ with
 | none => rw [qc] at x; cases x
 | some q =>
  rw [qc] at x
  dsimp only [Option.bind] at x
  refine hc ρ σ S H _ q r.toRl qc fun S1 H1 z1 => ?_
  cases q with
  | true => exact iteT (ht A Λ ρ σ S1 H1 E o (r.ext z1) (by simpa using x) (k.mono z1.sh))
  | false => exact iteF (hu A Λ ρ σ S1 H1 E o (r.ext z1) (by simpa using x) (k.mono z1.sh))
theorem set_inv {α : Type} {l : List α} {i j : Nat} {x y : α} (h : (l.set i x)[j]? = some y) : (i = j /\ y = x /\ i < l.length) \/ (i ≠ j /\ l[j]? = some y) := by
 by_cases hij : i = j
 ·subst hij
  have hl := (List.getElem?_eq_some_iff.mp h).1
  rw [List.length_set] at hl
  rw [List.getElem?_set_self hl] at h
  exact .inl ⟨rfl, (Option.some.inj h).symm, hl⟩
 ·rw [List.getElem?_set_ne hij] at h
  exact .inr ⟨hij, h⟩
theorem RlF.set {A : Hp} {Λ : Nat -> Option Addr} {Φ : Nat -> List Addr} {ρ : Env} {σ : St} {d : D} {v : V} (r : RlF K A Λ Φ ρ σ S H) (i : Nat) (h : Den K S d v) : RlF K A Λ Φ (ρ.set i (.sh d)) (σ.set i (some v)) S H where
 len := by rw [List.length_set, List.length_set]; exact r.len
 sub := r.sub
 sh := fun j e hj => by
  rcases set_inv hj with ⟨rfl, e, hl⟩ | ⟨hij, hj⟩
  ·cases e
   exact ⟨v, List.getElem?_set_self (by rw [r.len]; exact hl), h⟩
  ·rw [List.getElem?_set_ne hij]
   exact r.sh j e hj
 ow := fun j o hj => by
  rcases set_inv hj with ⟨rfl, e, hl⟩ | ⟨hij, hj⟩
  ·cases e
  ·rw [List.getElem?_set_ne hij]
   exact r.ow j o hj
 dj := fun j k o o' hjk h1 h2 => by
  rcases set_inv h1 with ⟨rfl, e, hl⟩ | ⟨hij, h1⟩
  ·cases e
  ·rcases set_inv h2 with ⟨rfl, e, hl⟩ | ⟨hik, h2⟩
   ·cases e
   ·exact r.dj j k o o' hjk h1 h2
 lo := fun j hj => by
  rcases set_inv hj with ⟨rfl, e, hl⟩ | ⟨hij, hj⟩
  ·cases e
  ·rw [List.getElem?_set_ne hij]
   exact r.lo j hj
 asub := r.asub
 adis := r.adis
theorem RlA.set {A : Hp} {Λ : Nat -> Option Addr} {ρ : Env} {σ : St} {d : D} {v : V} (r : RlA K A Λ ρ σ S H) (i : Nat) (h : Den K S d v) : RlA K A Λ (ρ.set i (.sh d)) (σ.set i (some v)) S H := let ⟨Φ, f⟩ := r; ⟨Φ, f.set i h⟩
theorem RlF.put {A : Hp} {Λ : Nat -> Option Addr} {Φ : Nat -> List Addr} {ρ : Env} {σ : St} {o : O} {v : V} {fp : List Addr} (r : RlF K A Λ Φ ρ σ S H) (i : Nat) (sub : Same S H') (asub : Same A H') (ow : Own K S H' o v fp) (nd : fp.Nodup) (n : ∀ b ∈ fp, S b = none /\ A b = none)
  (keep : ∀ (j : Nat) o', j ≠ i -> ρ[j]? = some (.ow o') -> ∀ b ∈ Φ j, H' b = H b /\ b ∉ fp) : RlF K A Λ (fun j => if j = i then fp else Φ j) (ρ.set i (.ow o)) (σ.set i (some v)) S H' where
 len := by rw [List.length_set, List.length_set]; exact r.len
 sub := sub
 sh := fun j e hj => by
  rcases set_inv hj with ⟨rfl, e, hl⟩ | ⟨hij, hj⟩
  ·cases e
  ·rw [List.getElem?_set_ne hij]
   exact r.sh j e hj
 ow := fun j o' hj => by
  rcases set_inv hj with ⟨rfl, e, hl⟩ | ⟨hij, hj⟩
  ·cases e
   rw [if_pos rfl]
   exact ⟨v, List.getElem?_set_self (by rw [r.len]; exact hl), ow, nd, n⟩
  ·rw [List.getElem?_set_ne hij, if_neg (Ne.symm hij)]
   obtain ⟨w, h1, h2, h3, h4⟩ := r.ow j o' hj
   exact ⟨w, h1, h2.mono (Same.refl _) fun b hb => (keep j o' (Ne.symm hij) hj b hb).1, h3, h4⟩
 dj := fun j k o1 o2 hjk h1 h2 b hb hb2 => by
  rcases set_inv h1 with ⟨rfl, e, hl⟩ | ⟨hij, h1⟩
  ·rcases set_inv h2 with ⟨rfl, e, hl⟩ | ⟨hik, h2⟩
   ·exact hjk rfl
   ·rw [if_pos rfl] at hb
    rw [if_neg (Ne.symm hik)] at hb2
    exact (keep k o2 (Ne.symm hik) h2 b hb2).2 hb
  ·rcases set_inv h2 with ⟨rfl, e, hl⟩ | ⟨hik, h2⟩
   ·rw [if_pos rfl] at hb2
    rw [if_neg (Ne.symm hij)] at hb
    exact (keep j o1 (Ne.symm hij) h1 b hb).2 hb2
   ·rw [if_neg (Ne.symm hij)] at hb
    rw [if_neg (Ne.symm hik)] at hb2
    exact r.dj j k o1 o2 hjk h1 h2 b hb hb2
 lo := fun j hj => by
  rcases set_inv hj with ⟨rfl, e, hl⟩ | ⟨hij, hj⟩
  ·cases e
  ·rw [List.getElem?_set_ne hij]
   exact r.lo j hj
 asub := asub
 adis := r.adis
theorem set_same {α : Type} {l : List α} {i : Nat} {x : α} (h : l[i]? = some x) : l.set i x = l := by
 apply List.ext_getElem?
 intro j
 by_cases e : i = j
 ·subst e
  rw [List.getElem?_set_self (List.getElem?_eq_some_iff.mp h).1, h]
 ·rw [List.getElem?_set_ne e]
def frz (i : Nat) (ρ : Env) : Env := match ρ[i]? with | some (.ow o) => ρ.set i (.sh o.d) | _ => ρ
theorem RlA.frz {A : Hp} {Λ : Nat -> Option Addr} {ρ : Env} {σ : St} (r : RlA K A Λ ρ σ S H) (i : Nat) : ∃ S', Same S S' /\ RlA K A Λ (frz i ρ) σ S' H := by
 unfold M.frz
 cases q : ρ[i]? with
 | none => exact ⟨S, Same.refl _, r⟩
 | some s =>
  cases s with
  | un => exact ⟨S, Same.refl _, r⟩
  | lo => exact ⟨S, Same.refl _, r⟩
  | sh d => exact ⟨S, Same.refl _, r⟩
  | ow o =>
   dsimp only
   obtain ⟨Φ, f⟩ := r
   obtain ⟨v, h1, h2, h3, h4⟩ := f.ow i o q
   have s2 : Same S (frzS S H (Φ i)) := frzS_same fun b hb => (h4 b hb).1
   have hd : Den K (frzS S H (Φ i)) o.d v := h2.den s2 fun b hb => frzS_in hb
   refine ⟨_, s2, Φ, ?_⟩
   exact {
    len := by rw [List.length_set]; exact f.len
    sub := frzS_sub f.sub
    sh := fun j d hj => by
     rcases set_inv hj with ⟨rfl, e, hl⟩ | ⟨hij, hj⟩
     ·cases e
      exact ⟨v, h1, hd⟩
     ·obtain ⟨w, k1, k2⟩ := f.sh j d hj
      exact ⟨w, k1, k2.mono s2⟩
    ow := fun j o' hj => by
     rcases set_inv hj with ⟨rfl, e, hl⟩ | ⟨hij, hj⟩
     ·cases e
     ·obtain ⟨w, k1, k2, k3, k4⟩ := f.ow j o' hj
      exact ⟨w, k1, k2.mono s2 fun _ _ => rfl, k3, fun b hb => ⟨by rw [frzS_out fun hi => f.dj i j o o' hij q hj b hi hb]; exact (k4 b hb).1, (k4 b hb).2⟩⟩
    dj := fun j k o1 o2 hjk g1 g2 => by
     rcases set_inv g1 with ⟨rfl, e, hl⟩ | ⟨hij, g1⟩
     ·cases e
     ·rcases set_inv g2 with ⟨rfl, e, hl⟩ | ⟨hik, g2⟩
      ·cases e
      ·exact f.dj j k o1 o2 hjk g1 g2
    lo := fun j hj => by
     rcases set_inv hj with ⟨rfl, e, hl⟩ | ⟨hij, hj⟩
     ·cases e
     ·exact f.lo j hj
    asub := f.asub
    adis := fun b => by
     by_cases hb : b ∈ Φ i
     ·exact .inr (h4 b hb).2
     ·rw [frzS_out hb]; exact f.adis b }
@[simp] def xFrz (i : Nat) (m : XS) : XS := fun ρ => m (frz i ρ)
theorem s_frz {t : TS} {m : XS} (i : Nat) (h : SS K t m) : SS K t (xFrz i m) := fun A Λ ρ σ S H E o r x k => by
 obtain ⟨S', s, r'⟩ := r.frz i
 exact h A Λ _ σ S' H E o r' x (k.mono s)
abbrev XG := D -> Env -> Option Env
abbrev XGs := List D -> Env -> Option Env
def SG (K : W.Frag) (g : TG) (x : XG) : Prop := ∀ A Λ ρ σ S H v d (Q : St -> Hp -> Prop) ρ', RlA K A Λ ρ σ S H -> Den K S d v -> x d ρ = some ρ' -> (∀ σ', RlA K A Λ ρ' σ' S H -> Q σ' H) -> g v σ H Q
def SGs (K : W.Frag) (g : TGs) (x : XGs) : Prop := ∀ A Λ ρ σ S H vs ds (Q : St -> Hp -> Prop) ρ', RlA K A Λ ρ σ S H -> Dens K S ds vs -> x ds ρ = some ρ' -> (∀ σ', RlA K A Λ ρ' σ' S H -> Q σ' H) -> g vs σ H Q
@[simp] def xgName (i : Nat) : XG := fun d ρ => some (ρ.set i (.sh d))
def xgNil : XGs := fun ds ρ => match ds with | [] => some ρ | _ => none
def xgCons (x : XG) (y : XGs) : XGs := fun ds ρ => match ds with | d :: r => (x d ρ).bind (y r) | [] => none
def xgTup (y : XGs) : XG := fun d ρ => match d with | .tup l => y l ρ | _ => none
theorem g_name (i : Nat) : SG K (gName i) (xgName i) := fun A Λ ρ σ S H v d Q ρ' r dv x k => by cases x; exact k _ (r.set i dv)
theorem g_nil : SGs K gNil xgNil := fun A Λ ρ σ S H vs ds Q ρ' r dv x k => by
 cases ds with
 | nil => cases x; exact ⟨dv.nil_of, k σ r⟩
 | cons _ _ => cases x
theorem g_cons {g : TG} {gs : TGs} {x : XG} {y : XGs} (h : SG K g x) (hs : SGs K gs y) : SGs K (gCons g gs) (xgCons x y) := fun A Λ ρ σ S H vs ds Q ρ' r dv e k => by
 cases ds with
 | nil => cases e
 | cons d ds =>
  obtain ⟨v, vs, rfl, h1, h2⟩ := dv.cons_of
  have e' : (x d ρ).bind (y ds) = some ρ' := e
  cases q : x d ρ with
  | none => rw [q] at e'; cases e'
  | some ρ1 =>
   rw [q] at e'
   exact ⟨v, vs, rfl, h A Λ ρ σ S H v d _ ρ1 r h1 q fun σ1 r1 => hs A Λ ρ1 σ1 S H vs ds Q ρ' r1 h2 e' k⟩
def lenIs (y : XGs) (n : Nat) : Prop := ∀ ds ρ ρ', y ds ρ = some ρ' -> ds.length = n
theorem li_nil : lenIs xgNil 0 := fun ds ρ ρ' e => by cases ds with | nil => rfl | cons _ _ => cases e
theorem li_cons {x : XG} {y : XGs} {n : Nat} (h : lenIs y n) : lenIs (xgCons x y) (n + 1) := fun ds ρ ρ' e => by
 cases ds with
 | nil => cases e
 | cons d ds =>
  have e' : (x d ρ).bind (y ds) = some ρ' := e
  cases q : x d ρ with
  | none => rw [q] at e'; cases e'
  | some ρ1 => rw [q] at e'; rw [List.length_cons, h ds ρ1 ρ' e']
theorem g_tup {gs : TGs} {y : XGs} {n : Nat} (hs : SGs K gs y) (hl : lenIs y n) : SG K (gTup K n gs) (xgTup y) := fun A Λ ρ σ S H v d Q ρ' r dv e k => by
 cases d with
 | tup l =>
  obtain ⟨p, xs, rfl, h1, h2⟩ := den_tupS dv
  exact ⟨p, xs, rfl, sqT_mono r.sub h1, by rw [<- h2.length]; exact hl l ρ ρ' e, hs A Λ ρ σ S H xs l Q ρ' r h2 e k⟩
 | _ => cases e
@[simp] def xAsg (e : XE) (g : XG) : XS := fun ρ => (e ρ).bind fun d => (g d ρ).map .nx
theorem s_asg {te : TE} {g : TG} {e : XE} {x : XG} (h : SE K te e) (hg : SG K g x) : SS K (tAsg te g) (xAsg e x) := fun A Λ ρ σ S H E o r y k => by
 unfold xAsg at y
 cases q : e ρ with
 | none => rw [q] at y; cases y
 | some d =>
  rw [q] at y
  dsimp only [Option.bind] at y
  cases q2 : x d ρ with
  | none => rw [q2] at y; cases y
  | some ρ' =>
   rw [q2] at y
   cases y
   exact h ρ σ S H _ d r.toRl q fun v S1 H1 z1 d1 => hg A Λ ρ σ S1 H1 v d _ ρ' (r.ext z1) d1 q2 fun σ' r' => k σ' S1 H1 r' z1.sh
@[simp] def xAsgT (e : Env -> Option O) (i : Nat) : XS := fun ρ => (e ρ).map fun o => .nx (ρ.set i (.ow o))
theorem s_asgT {te : TE} {e : Env -> Option O} {i : Nat} (h : STr K te e) : SS K (tAsg te (gName i)) (xAsgT e i) := fun A Λ ρ σ S H E o r y k => by
 unfold xAsgT at y
 cases q : e ρ with
 | none => rw [q] at y; cases y
 | some ot =>
  rw [q] at y
  cases y
  obtain ⟨Φ, f⟩ := r
  refine h ρ σ S H _ ot ⟨A, Λ, Φ, f⟩ q fun v fp S1 H1 z1 o1 nd n => ?_
  have r1 := f.ext z1
  refine k _ S1 H1 ⟨_, r1.put (H' := H1) i r1.sub r1.asub o1 nd (fun b hb => ⟨(n b hb).2, f.asub.free (n b hb).1⟩) fun j o' hj e1 b hb => ⟨rfl, fun hf => ?_⟩⟩ z1.sh
  obtain ⟨w, _, k2, _, _⟩ := f.ow j o' e1
  exact k2.there b hb (n b hf).1
@[simp] def xAsgF (e : XA) (i : Nat) : XS := xAsgT (xLT e) i
theorem s_asgF {te : TE} {e : XA} {i : Nat} (h : SF K te e) : SS K (tAsg te (gName i)) (xAsgF e i) := s_asgT h.t
def subO : O -> List Int -> Option O
 | o, [] => some o
 | .lst l, k :: r => (atI l k).bind fun o => subO o r
 | .tup l, k :: r => (atI l k).bind fun o => subO o r
 | .sh _, _ :: _ => none
 | .dic _, _ :: _ => none
def putL (l : List O) (k : Int) (f : O -> O) : List O := match ixN l.length k with
 | some j => (match l[j]? with | some o => l.set j (f o) | none => l)
 | none => l
def putO : O -> List Int -> O -> O
 | _, [], q => q
 | .lst l, k :: r, q => .lst (putL l k fun o => putO o r q)
 | .tup l, k :: r, q => .tup (putL l k fun o => putO o r q)
 | .sh d, _ :: _, _ => .sh d
 | .dic d, _ :: _, _ => .dic d
def WalkV (H : Hp) : V -> List Int -> V -> Prop
 | v, [], w => v = w
 | v, k :: r, w => ∃ a xs u, v = .ref a /\ (H a = some (.lst xs) \/ H a = some (.tup xs)) /\ atI xs k = some u /\ WalkV H u r w
theorem WalkV.mono (s : Same H H') : ∀ {p : List Int} {v w : V}, WalkV H v p w -> WalkV H' v p w
 | [], _, _, h => h
 | _ :: _, _, _, ⟨a, xs, u, e, h, k, m⟩ => ⟨a, xs, u, e, h.elim (fun z => .inl (s _ _ z)) (fun z => .inr (s _ _ z)), k, m.mono s⟩
theorem WalkV.uniq : ∀ {p : List Int} {v w w' : V}, WalkV H v p w -> WalkV H v p w' -> w = w'
 | [], _, _, _, h, k => h.symm.trans k
 | _ :: _, _, _, _, hpt0, hpt1 => by
  obtain ⟨a, xs, u, e, h, k, m⟩ := hpt0
  obtain ⟨a', xs', u', e', h', k', m'⟩ := hpt1
  rw [e] at e'
  cases e'
  have : xs = xs' := by
   rcases h with h | h <;> rcases h' with h' | h' <;> rw [h] at h' <;> cases h' <;> rfl
  subst this
  rw [k] at k'
  cases k'
  exact m.uniq m'
theorem WalkV.snoc : ∀ {p : List Int} {v w u : V} {k : Int} {a : Addr} {xs : List V}, WalkV H v p w -> w = .ref a -> (H a = some (.lst xs) \/ H a = some (.tup xs)) -> atI xs k = some u -> WalkV H v (p ++ [k]) u
 | [], _, _, u, k, a, xs, h, e, h1, h2 => ⟨a, xs, u, h.trans e, h1, h2, rfl⟩
 | _ :: _, _, _, _, _, _, _, ⟨b, ys, u', e, h, k, m⟩, e', h1, h2 => ⟨b, ys, u', e, h, k, m.snoc e' h1 h2⟩
theorem subO_snoc : ∀ {p : List Int} {o q : O} {k : Int}, subO o (p ++ [k]) = some q -> ∃ q0, subO o p = some q0 /\ subO q0 [k] = some q
 | [], o, q, k, h => ⟨o, by unfold subO; rfl, h⟩
 | j :: p, o, q, k, h => by
  cases o with
  | sh d => cases h
  | dic _ => cases h
  | lst l =>
   have h' : (atI l j).bind (fun o => subO o (p ++ [k])) = some q := h
   cases e : atI l j with
   | none => rw [e] at h'; cases h'
   | some o1 =>
    rw [e] at h'
    obtain ⟨q0, a, b⟩ := subO_snoc (p := p) h'
    exact ⟨q0, by show (atI l j).bind (fun o => subO o p) = some q0; rw [e]; exact a, b⟩
  | tup l =>
   have h' : (atI l j).bind (fun o => subO o (p ++ [k])) = some q := h
   cases e : atI l j with
   | none => rw [e] at h'; cases h'
   | some o1 =>
    rw [e] at h'
    obtain ⟨q0, a, b⟩ := subO_snoc (p := p) h'
    exact ⟨q0, by show (atI l j).bind (fun o => subO o p) = some q0; rw [e]; exact a, b⟩
theorem Owns.split : ∀ {l : List O} {xs : List V} {f : List Addr} {j : Nat} {o : O}, Owns K S H l xs f -> l[j]? = some o -> ∃ x f1 f2 f3, xs[j]? = some x /\ f = f1 ++ (f2 ++ f3) /\ Own K S H o x f2 /\
  ∀ H' o' f2', Own K S H' o' x f2' -> (∀ b ∈ f1, H' b = H b) -> (∀ b ∈ f3, H' b = H b) -> Owns K S H' (l.set j o') xs (f1 ++ (f2' ++ f3))
 | [], _, _, _, _, _, e => by simp at e
 | o0 :: l, _, _, 0, o, h, e => by
  obtain ⟨y, ys, f, g, rfl, rfl, a, b⟩ := h.cons_of
  simp at e; subst e
  exact ⟨y, [], f, g, rfl, rfl, a, fun H' o' f2' h1 _ h3 => Owns.cons (f := f2') h1 (b.mono (Same.refl _) h3)⟩
 | o0 :: l, _, _, j + 1, o, h, e => by
  obtain ⟨y, ys, f, g, rfl, rfl, a, b⟩ := h.cons_of
  obtain ⟨x, f1, f2, f3, e1, rfl, h1, h2⟩ := b.split (j := j) (by simpa using e)
  refine ⟨x, f ++ f1, f2, f3, by simpa using e1, by rw [List.append_assoc], h1, fun H' o' f2' k1 k2 k3 => ?_⟩
  rw [List.append_assoc]
  exact .cons (a.mono (Same.refl _) fun b hb => k2 b (List.mem_append_left _ hb)) (h2 H' o' f2' k1 (fun b hb => k2 b (List.mem_append_right _ hb)) k3)
theorem atI_ix {α : Type} {l : List α} {k : Int} {x : α} (h : atI l k = some x) : ∃ j, ixN l.length k = some j /\ l[j]? = some x := by
 unfold atI at h
 cases q : ixN l.length k with
 | none => rw [q] at h; cases h
 | some j => rw [q] at h; exact ⟨j, rfl, h⟩
theorem focus : ∀ {p : List Int} {o q : O} {v : V} {fp : List Addr}, Own K S H o v fp -> fp.Nodup -> subO o p = some q -> ∃ w fq, Own K S H q w fq /\ WalkV H v p w /\ (∀ b ∈ fq, b ∈ fp) /\ fq.Nodup /\
  ∀ H' q' fq', Own K S H' q' w fq' -> fq'.Nodup -> (∀ b ∈ fp, b ∉ fq -> H' b = H b) -> (∀ b ∈ fq', b ∈ fp -> b ∈ fq) -> ∃ fp', Own K S H' (putO o p q') v fp' /\ fp'.Nodup /\ ∀ b ∈ fp', b ∈ fp \/ b ∈ fq'
 | [], o, q, v, fp, h, nd, e => by
  have e' : some o = some q := by unfold subO at e; exact e
  cases e'
  exact ⟨v, fp, h, rfl, fun b hb => hb, nd, fun H' q' fq' h1 n1 _ _ => ⟨fq', by unfold putO; exact h1, n1, fun b hb => .inr hb⟩⟩
 | k :: r, o, q, v, fp, h, nd, e => by
  have body : ∀ (l : List O) (a : Addr) (xs : List V) (f : List Addr), v = .ref a -> fp = a :: f -> (H a = some (.lst xs) \/ H a = some (.tup xs)) -> Owns K S H l xs f -> ((atI l k).bind fun o => subO o r) = some q ->
    ∃ w fq, Own K S H q w fq /\ WalkV H v (k :: r) w /\ (∀ b ∈ fq, b ∈ fp) /\ fq.Nodup /\ ∀ H' q' fq', Own K S H' q' w fq' -> fq'.Nodup -> (∀ b ∈ fp, b ∉ fq -> H' b = H b) -> (∀ b ∈ fq', b ∈ fp -> b ∈ fq) ->
     ∃ f', Owns K S H' (putL l k fun o => putO o r q') xs f' /\ H' a = H a /\ (a :: f').Nodup /\ ∀ b ∈ a :: f', b ∈ fp \/ b ∈ fq' := by
   rintro l a xs f rfl rfl ha hl hs
   obtain ⟨na, nf⟩ := List.nodup_cons.mp nd
   cases qa : atI l k with
   | none => rw [qa] at hs; cases hs
   | some o1 =>
    rw [qa] at hs
    obtain ⟨j, ej, el⟩ := atI_ix qa
    obtain ⟨x, f1, f2, f3, ex, rfl, h1, h2⟩ := hl.split el
    obtain ⟨n1, n23, d1⟩ := List.nodup_append.mp nf
    obtain ⟨n2, n3, d2⟩ := List.nodup_append.mp n23
    obtain ⟨w, fq, k1, k2, k3, k4, k5⟩ := focus (p := r) h1 n2 hs
    have ax : atI xs k = some x := by unfold atI; rw [<- hl.length, ej]; exact ex
    refine ⟨w, fq, k1, ⟨a, xs, x, rfl, ha, ax, k2⟩, fun b hb => List.mem_cons_of_mem _ (List.mem_append_right _ (List.mem_append_left _ (k3 b hb))), k4, fun H' q' fq' g1 g2 g3 g4 => ?_⟩
    have in2 : ∀ b ∈ fq, b ∈ f2 := k3
    have a1 : ∀ b ∈ f1, b ∉ fq := fun b hb hq => d1 b hb b (List.mem_append_left _ (in2 b hq)) rfl
    have a3 : ∀ b ∈ f3, b ∉ fq := fun b hb hq => d2 b (in2 b hq) b hb rfl
    have aa : a ∉ fq := fun hq => na (List.mem_append_right _ (List.mem_append_left _ (in2 a hq)))
    obtain ⟨f2', m1, m2, m3⟩ := k5 H' q' fq' g1 g2 (fun b hb hn => g3 b (List.mem_cons_of_mem _ (List.mem_append_right _ (List.mem_append_left _ hb))) hn) fun b hb hp => g4 b hb (List.mem_cons_of_mem _ (List.mem_append_right _ (List.mem_append_left _ hp)))
    have out : ∀ b ∈ f2', b ∉ f1 /\ b ∉ f3 /\ b ≠ a := fun b hb => by
     rcases m3 b hb with hb | hb
     ·exact ⟨fun z => d1 b z b (List.mem_append_left _ hb) rfl, fun z => d2 b hb b z rfl, fun z => na (z ▸ List.mem_append_right _ (List.mem_append_left _ hb))⟩
     ·refine ⟨fun z => a1 b z (g4 b hb (List.mem_cons_of_mem _ (List.mem_append_left _ z))), fun z => a3 b z (g4 b hb (List.mem_cons_of_mem _ (List.mem_append_right _ (List.mem_append_right _ z)))), fun z => ?_⟩
      subst z
      exact aa (g4 b hb List.mem_cons_self)
    refine ⟨f1 ++ (f2' ++ f3), ?_, g3 a List.mem_cons_self aa, ?_, fun b hb => ?_⟩
    ·unfold putL
     rw [ej]
     dsimp only
     rw [el]
     exact h2 H' _ f2' m1 (fun b hb => g3 b (List.mem_cons_of_mem _ (List.mem_append_left _ hb)) (a1 b hb)) fun b hb => g3 b (List.mem_cons_of_mem _ (List.mem_append_right _ (List.mem_append_right _ hb))) (a3 b hb)
    ·refine List.nodup_cons.mpr ⟨fun z => ?_, List.nodup_append.mpr ⟨n1, List.nodup_append.mpr ⟨m2, n3, fun b hb c hc e => (out b hb).2.1 (e ▸ hc)⟩, fun b hb c hc e => ?_⟩⟩
     ·rcases List.mem_append.mp z with z | z
      ·exact na (List.mem_append_left _ z)
      ·rcases List.mem_append.mp z with z | z
       ·exact (out a z).2.2 rfl
       ·exact na (List.mem_append_right _ (List.mem_append_right _ z))
     ·subst e
      rcases List.mem_append.mp hc with hc | hc
      ·exact (out b hc).1 hb
      ·exact d1 b hb b (List.mem_append_right _ hc) rfl
    ·rcases List.mem_cons.mp hb with rfl | hb
     ·exact .inl List.mem_cons_self
     ·rcases List.mem_append.mp hb with hb | hb
      ·exact .inl (List.mem_cons_of_mem _ (List.mem_append_left _ hb))
      ·rcases List.mem_append.mp hb with hb | hb
       ·exact (m3 b hb).imp (fun z => List.mem_cons_of_mem _ (List.mem_append_right _ (List.mem_append_left _ z))) id
       ·exact .inl (List.mem_cons_of_mem _ (List.mem_append_right _ (List.mem_append_right _ hb)))
  cases o with
  | sh d => cases e
  | dic _ => cases e
  | lst l =>
   obtain ⟨a, xs, f, e1, e2, h1, h2⟩ := own_lst.mp h
   obtain ⟨w, fq, k1, k2, k3, k4, k5⟩ := body l a xs f e1 e2 (.inl h1) h2 e
   refine ⟨w, fq, k1, k2, k3, k4, fun H' q' fq' g1 g2 g3 g4 => ?_⟩
   obtain ⟨f', m1, m2, m3, m4⟩ := k5 H' q' fq' g1 g2 g3 g4
   exact ⟨a :: f', by unfold putO; exact own_lst.mpr ⟨a, xs, f', e1, rfl, by rw [m2]; exact h1, m1⟩, m3, m4⟩
  | tup l =>
   obtain ⟨a, xs, f, e1, e2, h1, h2⟩ := own_tup.mp h
   obtain ⟨w, fq, k1, k2, k3, k4, k5⟩ := body l a xs f e1 e2 (.inr h1) h2 e
   refine ⟨w, fq, k1, k2, k3, k4, fun H' q' fq' g1 g2 g3 g4 => ?_⟩
   obtain ⟨f', m1, m2, m3, m4⟩ := k5 H' q' fq' g1 g2 g3 g4
   exact ⟨a :: f', by unfold putO; exact own_tup.mpr ⟨a, xs, f', e1, rfl, by rw [m2]; exact h1, m1⟩, m3, m4⟩
abbrev XP := Env -> Option (List Int)
def SPth (K : W.Frag) (to : TE) (i : Nat) (p : XP) : Prop := ∀ ρ σ S H (Q : VK) is o q, Rl K ρ σ S H -> ρ[i]? = some (.ow o) -> p ρ = some is -> subO o is = some q -> (∀ v w S' H', σ[i]? = some (some v) -> Ext S H S' H' -> WalkV H' v is w -> Q w H') -> to σ H Q
@[simp] def xPv : XP := fun _ => some []
theorem p_var (i : Nat) : SPth K (tVar i) i xPv := fun ρ σ S H Q is o q r h1 h2 h3 k => by
 cases h2
 obtain ⟨v, fp, e, _⟩ := r.ow i o h1
 exact ⟨v, e, k v v S H e (Ext.refl r.sub) rfl⟩
@[simp] def xPi (p : XP) (ix : XE) : XP := fun ρ => (p ρ).bind fun is => (ix ρ).bind fun d => match d with | .int k => some (is ++ [k]) | _ => none
theorem p_ix {to ti : TE} {i : Nat} {p : XP} {ix : XE} (hp : SPth K to i p) (hi : SPk K ti ix) : SPth K (tOp (rIx K) to ti) i (xPi p ix) := fun ρ σ S H Q is o q r h1 h2 h3 k => by
 unfold xPi at h2
 cases e1 : p ρ with
 | none => rw [e1] at h2; cases h2
 | some js =>
  rw [e1] at h2
  dsimp only [Option.bind] at h2
  cases e2 : ix ρ with
  | none => rw [e2] at h2; cases h2
  | some d =>
   rw [e2] at h2
   cases d with
   | int kk =>
    cases h2
    obtain ⟨q0, s1, s2⟩ := subO_snoc h3
    refine hp ρ σ S H _ js o q0 r h1 e1 s1 fun v w S1 H1 ev z1 wk => ?_
    have r1 := r.ext z1
    refine hi ρ σ S1 H1 _ _ r1 e2 fun u S2 H2 z2 d2 => ?_
    have r2 := r1.ext z2
    obtain ⟨v', fp, ev', ow, nd, _⟩ := r2.ow i o h1
    rw [ev] at ev'
    cases ev'
    obtain ⟨w', fq, k1, k2, _⟩ := focus ow nd s1
    have ew := k2.uniq (wk.mono (z2.same r1.sub))
    subst ew
    rw [d2.int]
    cases q0 with
    | sh _ => cases s2
    | dic _ => cases s2
    | lst l =>
     have s2' : (atI l kk).bind (fun o => subO o []) = some q := s2
     cases e3 : atI l kk with
     | none => rw [e3] at s2'; cases s2'
     | some o1 =>
      obtain ⟨a, xs, f, rfl, rfl, hx, hl⟩ := own_lst.mp k1
      obtain ⟨j, ej, el⟩ := atI_ix e3
      obtain ⟨x, _, _, _, ex, _⟩ := hl.split el
      have ax : atI xs kk = some x := by unfold atI; rw [<- hl.length, ej]; exact ex
      exact .inl ⟨a, xs, kk, x, rfl, rfl, SqL.of hx, ax, k v x S2 H2 ev (z1.trans z2) (k2.snoc rfl (.inl hx) ax)⟩
    | tup l =>
     have s2' : (atI l kk).bind (fun o => subO o []) = some q := s2
     cases e3 : atI l kk with
     | none => rw [e3] at s2'; cases s2'
     | some o1 =>
      obtain ⟨a, xs, f, rfl, rfl, hx, hl⟩ := own_tup.mp k1
      obtain ⟨j, ej, el⟩ := atI_ix e3
      obtain ⟨x, _, _, _, ex, _⟩ := hl.split el
      have ax : atI xs kk = some x := by unfold atI; rw [<- hl.length, ej]; exact ex
      exact .inr (.inl ⟨a, xs, kk, x, rfl, rfl, SqT.of hx, ax, k v x S2 H2 ev (z1.trans z2) (k2.snoc rfl (.inr hx) ax)⟩)
   | _ => cases h2
theorem RlF.at {A : Hp} {Λ : Nat -> Option Addr} {Φ : Nat -> List Addr} {ρ : Env} {σ : St} {i : Nat} {o : O} {is : List Int} {l : List O} {v w : V} (f : RlF K A Λ Φ ρ σ S H) (h1 : ρ[i]? = some (.ow o)) (h2 : subO o is = some (.lst l)) (ev : σ[i]? = some (some v)) (wk : WalkV H v is w) :
  ∃ a xs f0, w = .ref a /\ H a = some (.lst xs) /\ Owns K S H l xs f0 /\ (a :: f0).Nodup /\ (∀ b ∈ a :: f0, b ∈ Φ i) /\ ∀ l' xs' f', (∀ H', (∀ b, b ≠ a -> H' b = H b) -> Owns K S H' l' xs' f') -> (a :: f').Nodup -> (∀ b ∈ f', b ∈ f0 \/ ((∀ (j : Nat) o', ρ[j]? = some (.ow o') -> b ∉ Φ j) /\ S b = none /\ A b = none)) ->
   RlA K A Λ (ρ.set i (.ow (putO o is (.lst l')))) σ S (upd H a (.lst xs')) := by
 obtain ⟨v', e', ow, nd, n⟩ := f.ow i o h1
 rw [ev] at e'
 cases e'
 obtain ⟨w', fq, k1, k2, k3, k4, k5⟩ := focus ow nd h2
 have ew := k2.uniq wk
 subst ew
 obtain ⟨a, xs, g, rfl, rfl, hx, hl⟩ := own_lst.mp k1
 have ain := k3 a List.mem_cons_self
 refine ⟨a, xs, g, rfl, hx, hl, k4, k3, fun l' xs' f' g1 g2 g3 => ?_⟩
 have ne : ∀ b, b ≠ a -> upd H a (.lst xs') b = H b := fun b hb => upd_ne hb
 obtain ⟨fp', m1, m2, m3⟩ := k5 (upd H a (.lst xs')) (.lst l') (a :: f') (own_lst.mpr ⟨a, xs', f', rfl, rfl, upd_same, g1 _ ne⟩) g2 (fun b hb hn => ne b fun z => hn (z ▸ List.mem_cons_self)) fun b hb hp => by
  rcases List.mem_cons.mp hb with rfl | hb
  ·exact List.mem_cons_self
  ·rcases g3 b hb with z | ⟨z, _⟩
   ·exact List.mem_cons_of_mem _ z
   ·exact absurd hp (z i o h1)
 have sub' : Same S (upd H a (.lst xs')) := fun b u e => by rw [ne b fun z => by subst z; rw [(n b ain).1] at e; cases e]; exact f.sub b u e
 have asub' : Same A (upd H a (.lst xs')) := fun b u e => by rw [ne b fun z => by subst z; rw [(n b ain).2] at e; cases e]; exact f.asub b u e
 have fin := f.put (H' := upd H a (.lst xs')) i sub' asub' m1 m2 (fun b hb => by
  rcases m3 b hb with z | z
  ·exact n b z
  ·rcases List.mem_cons.mp z with rfl | z
   ·exact n b ain
   ·rcases g3 b z with z | ⟨_, z⟩
    ·exact n b (k3 b (List.mem_cons_of_mem _ z))
    ·exact z) fun j o' hj e1 b hb => by
   have nb : b ∉ Φ i := fun z => f.dj j i o' o hj e1 h1 b hb z
   refine ⟨ne b fun z => nb (z ▸ ain), fun z => ?_⟩
   rcases m3 b z with z | z
   ·exact nb z
   ·rcases List.mem_cons.mp z with rfl | z
    ·exact nb ain
    ·rcases g3 b z with z | ⟨z, _⟩
     ·exact nb (k3 b (List.mem_cons_of_mem _ z))
     ·exact z j o' e1 hb
 rw [set_same ev] at fin
 exact ⟨_, fin⟩
theorem RlF.fresh {A : Hp} {Λ : Nat -> Option Addr} {Φ : Nat -> List Addr} {ρ : Env} {σ : St} {b : Addr} (f : RlF K A Λ Φ ρ σ S H) (h : H b = none) : (∀ (j : Nat) o', ρ[j]? = some (.ow o') -> b ∉ Φ j) /\ S b = none /\ A b = none :=
 ⟨fun j o' e hb => by obtain ⟨_, _, ow, _⟩ := f.ow j o' e; exact ow.there b hb h, f.sub.free h, f.asub.free h⟩
@[simp] def xAppP (i : Nat) (p : XP) (e : Env -> Option O) : XS := fun ρ => match ρ[i]? with
 | some (.ow o) => (p ρ).bind fun is => (e ρ).bind fun x => match subO o is with
  | some (.lst l) => if l.length < LIM then some (.nx (ρ.set i (.ow (putO o is (.lst (l ++ [x])))))) else none
  | _ => none
 | _ => none
theorem s_appP {to te : TE} {i : Nat} {p : XP} {e : Env -> Option O} (hp : SPth K to i p) (h : STr K te e) : SS K (tDrop (tBM K "list" rAppend to (tCons te tNil))) (xAppP i p e) := fun A Λ ρ σ S H E out r y k => by
 unfold xAppP at y
 cases q0 : ρ[i]? with
 | none => rw [q0] at y; cases y
 | some s =>
  rw [q0] at y
  cases s with
  | un => cases y
  | lo => cases y
  | sh d => cases y
  | ow o =>
   dsimp only at y
   cases q1 : p ρ with
   | none => rw [q1] at y; cases y
   | some is =>
    rw [q1] at y
    dsimp only [Option.bind] at y
    cases q2 : e ρ with
    | none => rw [q2] at y; cases y
    | some x =>
     rw [q2] at y
     dsimp only at y
     cases q3 : subO o is with
     | none => rw [q3] at y; cases y
     | some qo =>
      rw [q3] at y
      cases qo with
      | sh _ => cases y
      | dic _ => cases y
      | tup _ => cases y
      | lst l =>
       dsimp only at y
       split at y
       ·rename_i hl
        cases y
        obtain ⟨Φ, f⟩ := r
        refine hp ρ σ S H _ is o _ ⟨A, Λ, Φ, f⟩ q0 q1 q3 fun v w S1 H1 ev z1 wk => ?_
        have f1 := f.ext z1
        obtain ⟨a, xs, g0, rfl, hx, hw, nd0, in0, _⟩ := f1.at q0 q3 ev wk
        refine ⟨.inl ⟨rfl, xs, SqL.of hx⟩, h ρ σ S1 H1 _ x ⟨A, Λ, Φ, f1⟩ q2 fun u fu S2 H2 z2 ou nd n => ?_⟩
        have f2 := f1.ext z2
        obtain ⟨a', xs', g1, e1, hx', hw', nd1, in1, up⟩ := f2.at q0 q3 ev (wk.mono (z2.same f1.sub))
        cases e1
        have fr : ∀ b ∈ fu, (∀ (j : Nat) o', ρ[j]? = some (.ow o') -> b ∉ Φ j) /\ S2 b = none /\ A b = none := fun b hb => ⟨(f1.fresh (n b hb).1).1, (n b hb).2, (f1.fresh (n b hb).1).2.2⟩
        have fa : ∀ b ∈ fu, b ∉ a :: g1 := fun b hb z => (fr b hb).1 i o q0 (in1 b z)
        obtain ⟨na, ng⟩ := List.nodup_cons.mp nd1
        refine ⟨a, xs', u, rfl, rfl, hx', ?_, ?_⟩
        ·rw [<- hw'.length]; exact Nat.lt_trans hl lim_lt
        ·refine k σ S2 _ (up (l ++ [x]) (xs' ++ [u]) (g1 ++ fu) (fun H' ne => ?_) ?_ fun b hb => ?_) (z1.sh.trans z2.sh)
         ·have := (hw'.mono (H' := H') (Same.refl _) fun b hb => ne b fun z => na (z ▸ hb)).append (.cons (ou.mono (H' := H') (Same.refl _) fun b hb => ne b fun z => fa b hb (z ▸ List.mem_cons_self)) .nil)
          rw [List.append_nil] at this
          exact this
         ·refine List.nodup_cons.mpr ⟨fun z => ?_, List.nodup_append.mpr ⟨ng, nd, fun b hb c hc e => fa c hc (e ▸ List.mem_cons_of_mem _ hb)⟩⟩
          rcases List.mem_append.mp z with z | z
          ·exact na z
          ·exact fa a z List.mem_cons_self
         ·rcases List.mem_append.mp hb with hb | hb
          ·exact .inl hb
          ·exact .inr (fr b hb)
       ·cases y
@[simp] def xPopP (i : Nat) (p : XP) (j : Nat) : XS := fun ρ => match ρ[i]? with
 | some (.ow o) => (p ρ).bind fun is => match subO o is with
  | some (.lst l) => (match l.getLast? with
   | some (.sh d) => some (.nx ((ρ.set i (.ow (putO o is (.lst l.dropLast)))).set j (.sh d)))
   | _ => none)
  | _ => none
 | _ => none
@[simp] def xRevP (i : Nat) (p : XP) : XS := fun ρ => match ρ[i]? with
 | some (.ow o) => (p ρ).bind fun is => match subO o is with
  | some (.lst l) => (match shs l with | some ds => some (.nx (ρ.set i (.ow (putO o is (.lst (ds.reverse.map .sh)))))) | none => none)
  | _ => none
 | _ => none
def rExtM : V -> List V -> Hp -> VK -> Prop := fun x vs H Q => ∃ l b xs zs, x = .ref l /\ vs = [.ref b] /\ H l = some (.lst xs) /\ Rd H b (.lst zs) /\ xs.length + zs.length <= sizeLine /\ Q .non (upd H l (.lst (xs ++ zs)))
@[simp] def xExtP (i : Nat) (p : XP) (e : XE) : XS := fun ρ => match ρ[i]? with
 | some (.ow o) => (p ρ).bind fun is => (e ρ).bind fun d => match subO o is, d with
  | some (.lst l), .lst ds => if l.length + ds.length <= LIM then some (.nx (ρ.set i (.ow (putO o is (.lst (l ++ ds.map .sh)))))) else none
  | _, _ => none
 | _ => none
theorem s_extP {to te : TE} {i : Nat} {p : XP} {e : XE} (hp : SPth K to i p) (h : SE K te e) : SS K (tDrop (tBM K "list" rExtM to (tCons te tNil))) (xExtP i p e) := fun A Λ ρ σ S H E out r y k => by
 unfold xExtP at y
 cases q0 : ρ[i]? with
 | none => rw [q0] at y; cases y
 | some s =>
  rw [q0] at y
  cases s with
  | un => cases y
  | lo => cases y
  | sh d => cases y
  | ow o =>
   dsimp only at y
   cases q1 : p ρ with
   | none => rw [q1] at y; cases y
   | some is =>
    rw [q1] at y
    dsimp only [Option.bind] at y
    cases q2 : e ρ with
    | none => rw [q2] at y; cases y
    | some dd =>
     rw [q2] at y
     dsimp only at y
     cases q3 : subO o is with
     | none => rw [q3] at y; cases y
     | some qo =>
      rw [q3] at y
      cases qo with
      | sh _ => cases y
      | dic _ => cases y
      | tup _ => cases y
      | lst l =>
       cases dd with
       | lst ds =>
        dsimp only at y
        split at y
        ·rename_i hl
         cases y
         obtain ⟨Φ, f⟩ := r
         refine hp ρ σ S H _ is o _ ⟨A, Λ, Φ, f⟩ q0 q1 q3 fun v w S1 H1 ev z1 wk => ?_
         have f1 := f.ext z1
         obtain ⟨a, xs, g0, rfl, hx, hw, nd0, in0, _⟩ := f1.at q0 q3 ev wk
         refine ⟨.inl ⟨rfl, xs, SqL.of hx⟩, h ρ σ S1 H1 _ _ ⟨A, Λ, Φ, f1⟩ q2 fun u S2 H2 z2 d2 => ?_⟩
         have f2 := f1.ext z2
         obtain ⟨a', xs', g1, e1, hx', hw', nd1, in1, up⟩ := f2.at q0 q3 ev (wk.mono (z2.same f1.sub))
         cases e1
         obtain ⟨b, zs, rfl, hb, dz⟩ := den_lst.mp d2
         obtain ⟨na, ng⟩ := List.nodup_cons.mp nd1
         refine ⟨a, b, xs', zs, rfl, rfl, hx', rd_mono z2.sub hb, ?_, ?_⟩
         ·rw [<- hw'.length, <- dz.length]; exact Nat.le_of_lt (Nat.lt_of_le_of_lt hl lim_lt)
         ·refine k σ S2 _ (up (l ++ ds.map .sh) (xs' ++ zs) g1 (fun H' ne => ?_) nd1 fun b hb => .inl hb) (z1.sh.trans z2.sh)
          have := (hw'.mono (H' := H') (Same.refl _) fun b hb => ne b fun z => na (z ▸ hb)).append (owns_sh (H := H') dz)
          rw [List.append_nil] at this
          exact this
        ·cases y
       | _ => cases y
@[simp] def xSetP (i : Nat) (p : XP) (ix e : XE) : XS := fun ρ => (e ρ).bind fun d => match ρ[i]? with
 | some (.ow o) => (p ρ).bind fun is => (ix ρ).bind fun k => match subO o is, k with
  | some (.lst l), .int k => (match shs l with | some ds => (ixN ds.length k).map fun j => .nx (ρ.set i (.ow (putO o is (.lst ((ds.set j d).map .sh))))) | none => none)
  | _, _ => none
 | _ => none
theorem s_setP {to te ti : TE} {i : Nat} {p : XP} {e ix : XE} (h : SE K te e) (hp : SPth K to i p) (hi : SPk K ti ix) : SS K (tAsg te (gSub to ti rSetL)) (xSetP i p ix e) := fun A Λ ρ σ S H E out r y k => by
 unfold xSetP at y
 cases q : e ρ with
 | none => rw [q] at y; cases y
 | some d =>
  rw [q] at y
  dsimp only [Option.bind] at y
  cases q0 : ρ[i]? with
  | none => rw [q0] at y; cases y
  | some s =>
   rw [q0] at y
   cases s with
   | un => cases y
   | lo => cases y
   | sh d => cases y
   | ow o =>
    dsimp only at y
    cases q1 : p ρ with
    | none => rw [q1] at y; cases y
    | some is =>
     rw [q1] at y
     dsimp only at y
     cases q2 : ix ρ with
     | none => rw [q2] at y; cases y
     | some dk =>
      rw [q2] at y
      dsimp only at y
      cases q3 : subO o is with
      | none => rw [q3] at y; cases y
      | some qo =>
       rw [q3] at y
       cases qo with
       | sh _ => cases y
       | dic _ => cases y
       | tup _ => cases y
       | lst l =>
        cases dk with
        | int kk =>
         dsimp only at y
         cases q4 : shs l with
         | none => rw [q4] at y; cases y
         | some ds =>
          rw [q4] at y
          dsimp only at y
          cases q5 : ixN ds.length kk with
          | none => rw [q5] at y; cases y
          | some j =>
           rw [q5] at y
           cases y
           have ed := of_shs q4
           subst ed
           obtain ⟨Φ, f⟩ := r
           refine h ρ σ S H _ d ⟨A, Λ, Φ, f⟩ q fun u S0 H0 z0 d0 => ?_
           have f0 := f.ext z0
           refine hp ρ σ S0 H0 _ is o _ ⟨A, Λ, Φ, f0⟩ q0 q1 q3 fun v w S1 H1 ev z1 wk => ?_
           have f1 := f0.ext z1
           refine hi ρ σ S1 H1 _ _ ⟨A, Λ, Φ, f1⟩ q2 fun w2 S2 H2 z2 d2 => ?_
           have f2 := f1.ext z2
           obtain ⟨a', xs', g1, rfl, hx', hw', nd1, in1, up⟩ := f2.at q0 q3 ev (wk.mono (z2.same f1.sub))
           obtain ⟨hd, rfl⟩ := of_owns_sh hw'
           refine ⟨a', xs', kk, j, rfl, d2.int, hx', by rw [<- hd.length]; exact q5, ?_⟩
           exact k σ S2 _ (up ((ds.set j d).map .sh) (xs'.set j u) [] (fun H' ne => owns_sh (hd.set j ((d0.mono z1.sh).mono z2.sh))) nd1 fun b hb => by cases hb) ((z0.sh.trans z1.sh).trans z2.sh)
        | _ => cases y
@[simp] def xAug (i : Nat) (e : XE) (f : D -> D -> Option D) : XS := fun ρ => match ρ[i]? with
 | some (.sh x) => (e ρ).bind fun y => (f x y).map fun z => .nx (ρ.set i (.sh z))
 | _ => none
theorem s_aug {te : TE} {e : XE} {i : Nat} {ti : TIp} {f : D -> D -> Option D} (h : SPk K te e) (hr : SR2 K ti f) : SS K (tAug i te ti) (xAug i e f) := fun A Λ ρ σ S H E o r y k => by
 unfold xAug at y
 cases q0 : ρ[i]? with
 | none => rw [q0] at y; cases y
 | some s =>
  rw [q0] at y
  cases s with
  | un => cases y
  | lo => cases y
  | ow d => cases y
  | sh x =>
   dsimp only at y
   cases q : e ρ with
   | none => rw [q] at y; cases y
   | some d =>
    rw [q] at y
    dsimp only [Option.bind] at y
    cases q2 : f x d with
    | none => rw [q2] at y; cases y
    | some g =>
     rw [q2] at y
     cases y
     obtain ⟨v, h1, h2⟩ := r.sh i x q0
     refine ⟨v, h1, h ρ σ S H _ d r.toRl q fun w S1 H1 z1 d1 => ?_⟩
     exact hr S1 H1 v w x d g _ z1.sub (.inl (h2.mono z1.sh)) d1 q2 fun u S2 H2 z2 d2 => k _ S2 H2 ((r.ext (z1.trans z2)).set i d2) (z1.sh.trans z2.sh)
@[simp] def xDrop (e : XE) : XS := fun ρ => (e ρ).map fun _ => .nx ρ
end
section
variable {K : W.Frag} {S S' H H' : Hp}
def Walks (K : W.Frag) (J : It) (S : Hp) (l : List D) : Prop := ∀ S' H', Same S S' -> Same S' H' ->
 (∀ i d, l[i]? = some d -> J.go i H' /\ ∀ x H'', J.yld i H' x H'' -> H'' = H' /\ Den K S' d x) /\ J.stop l.length H'
def SI (K : W.Frag) (wi : TI) (e : XA) : Prop := ∀ ρ σ S H (R : It -> Hp -> Prop) l, Rl K ρ σ S H -> e ρ = some l -> (∀ J S' H', Ext S H S' H' -> Walks K J S' l -> R J H') -> wi σ H R
def seqD : D -> Option (List D)
 | .lst l => some l | .tup l => some l | .scr l => some l | _ => none
def WalksE (K : W.Frag) (J : It) (S H : Hp) (l : List D) : Prop := ∀ S' H', Ext S H S' H' ->
 (∀ i d, l[i]? = some d -> J.go i H' /\ ∀ x H'', J.yld i H' x H'' -> H'' = H' /\ Den K S' d x) /\ J.stop l.length H'
def SIP (K : W.Frag) (wi : TI) (e : XA) : Prop := ∀ ρ σ S H (R : It -> Hp -> Prop) l, Rl K ρ σ S H -> e ρ = some l -> (∀ J S' H', Ext S H S' H' -> WalksE K J S' H' l -> R J H') -> wi σ H R
@[simp] def xIt (e : XE) : XA := fun ρ => (e ρ).bind seqD
theorem i_seq {tl : TE} {e : XE} (h : SE K tl e) : SI K (iSeq K tl) (xIt e) := fun ρ σ S H R l r x k => by
 unfold xIt at x
 cases q : e ρ with
 | none => rw [q] at x; cases x
 | some d =>
  rw [q] at x
  dsimp only [Option.bind] at x
  refine h ρ σ S H _ d r q fun v S1 H1 z1 d1 => ?_
  cases d with
  | lst l' =>
   cases x
   obtain ⟨p, xs, rfl, h1, h2⟩ := den_lst.mp d1
   refine ⟨p, rfl, .inl ⟨⟨xs, .inl (rd_mono z1.sub h1)⟩, k _ S1 H1 z1 fun S' H' s1 s2 => ⟨fun i d hd => ?_, xs, .inl (rd_mono (s1.trans s2) h1), Nat.le_of_eq h2.length.symm⟩⟩⟩
   obtain ⟨y, e1, e2⟩ := h2.get hd
   refine ⟨⟨xs, y, .inl (rd_mono (s1.trans s2) h1), e1⟩, fun x H'' hy => ⟨hy.1, ?_⟩⟩
   have := hy.2 xs (.inl (rd_mono (s1.trans s2) h1))
   rw [e1] at this
   cases this
   exact e2.mono s1
  | tup l' =>
   cases x
   obtain ⟨p, xs, rfl, h1, h2⟩ := den_tupS d1
   refine ⟨p, rfl, .inr ⟨⟨xs, sqT_mono z1.sub h1⟩, k _ S1 H1 z1 fun S' H' s1 s2 => ⟨fun i d hd => ?_, xs, sqT_mono (s1.trans s2) h1, Nat.le_of_eq h2.length.symm⟩⟩⟩
   obtain ⟨y, e1, e2⟩ := h2.get hd
   refine ⟨⟨xs, y, sqT_mono (s1.trans s2) h1, e1⟩, fun x H'' hy => ⟨hy.1, ?_⟩⟩
   have := hy.2 xs (sqT_mono (s1.trans s2) h1)
   rw [e1] at this
   cases this
   exact e2.mono s1
  | scr l' =>
   cases x
   obtain ⟨p, xs, rfl, h1, h2⟩ := den_scr.mp d1
   refine ⟨p, rfl, .inl ⟨⟨xs, sqL_mono z1.sub h1⟩, k _ S1 H1 z1 fun S' H' s1 s2 => ⟨fun i d hd => ?_, xs, sqL_mono (s1.trans s2) h1, Nat.le_of_eq h2.length.symm⟩⟩⟩
   obtain ⟨y, e1, e2⟩ := h2.get hd
   refine ⟨⟨xs, y, sqL_mono (s1.trans s2) h1, e1⟩, fun x H'' hy => ⟨hy.1, ?_⟩⟩
   have := hy.2 xs (sqL_mono (s1.trans s2) h1)
   rw [e1] at this
   cases this
   exact e2.mono s1
  | _ => cases x
def ifC {α : Type} (p : Prop) (a b : α) : α := @ite α p (Classical.propDecidable p) a b
theorem ifC_pos {α : Type} {p : Prop} {a b : α} (h : p) : ifC p a b = a := by unfold ifC; exact if_pos h
theorem ifC_some {α : Type} {p : Prop} {a x : α} (h : ifC p (some a) none = some x) : p /\ a = x := by
 unfold ifC at h
 by_cases c : p
 ·rw [if_pos c] at h; exact ⟨c, Option.some.inj h⟩
 ·rw [if_neg c] at h; cases h
theorem i_seqP {tl : TE} {e : XE} (h : SPk K tl e) : SIP K (iSeq K tl) (xIt e) := fun ρ σ S H R l r x k => by
 unfold xIt at x
 cases q : e ρ with
 | none => rw [q] at x; cases x
 | some d =>
  rw [q] at x
  dsimp only [Option.bind] at x
  refine h ρ σ S H _ d r q fun v S1 H1 z1 d1 => ?_
  rcases d1 with d1 | ⟨l', p, xs, rfl, rfl, hx, dx⟩
  ·cases d with
   | lst l' =>
    cases x
    obtain ⟨p, xs, rfl, h1, h2⟩ := den_lst.mp d1
    refine ⟨p, rfl, .inl ⟨⟨xs, .inl (rd_mono z1.sub h1)⟩, k _ S1 H1 z1 fun S' H' z2 => ⟨fun i d hd => ?_, xs, .inl (rd_mono (z2.sh.trans z2.sub) h1), Nat.le_of_eq h2.length.symm⟩⟩⟩
    obtain ⟨y, e1, e2⟩ := h2.get hd
    refine ⟨⟨xs, y, .inl (rd_mono (z2.sh.trans z2.sub) h1), e1⟩, fun x H'' hy => ⟨hy.1, ?_⟩⟩
    have := hy.2 xs (.inl (rd_mono (z2.sh.trans z2.sub) h1))
    rw [e1] at this
    cases this
    exact e2.mono z2.sh
   | tup l' =>
    cases x
    obtain ⟨p, xs, rfl, h1, h2⟩ := den_tupS d1
    refine ⟨p, rfl, .inr ⟨⟨xs, sqT_mono z1.sub h1⟩, k _ S1 H1 z1 fun S' H' z2 => ⟨fun i d hd => ?_, xs, sqT_mono (z2.sh.trans z2.sub) h1, Nat.le_of_eq h2.length.symm⟩⟩⟩
    obtain ⟨y, e1, e2⟩ := h2.get hd
    refine ⟨⟨xs, y, sqT_mono (z2.sh.trans z2.sub) h1, e1⟩, fun x H'' hy => ⟨hy.1, ?_⟩⟩
    have := hy.2 xs (sqT_mono (z2.sh.trans z2.sub) h1)
    rw [e1] at this
    cases this
    exact e2.mono z2.sh
   | scr l' =>
    cases x
    obtain ⟨p, xs, rfl, h1, h2⟩ := den_scr.mp d1
    refine ⟨p, rfl, .inl ⟨⟨xs, sqL_mono z1.sub h1⟩, k _ S1 H1 z1 fun S' H' z2 => ⟨fun i d hd => ?_, xs, sqL_mono (z2.sh.trans z2.sub) h1, Nat.le_of_eq h2.length.symm⟩⟩⟩
    obtain ⟨y, e1, e2⟩ := h2.get hd
    refine ⟨⟨xs, y, sqL_mono (z2.sh.trans z2.sub) h1, e1⟩, fun x H'' hy => ⟨hy.1, ?_⟩⟩
    have := hy.2 xs (sqL_mono (z2.sh.trans z2.sub) h1)
    rw [e1] at this
    cases this
    exact e2.mono z2.sh
   | _ => cases x
  ·cases x
   refine ⟨p, rfl, .inl ⟨⟨xs, SqL.of hx⟩, k _ S1 H1 z1 fun S' H' z2 => ?_⟩⟩
   have hx2 : H' p = some (.lst xs) := z2.same z1.sub _ _ hx
   refine ⟨fun i d hd => ?_, xs, SqL.of hx2, Nat.le_of_eq dx.length.symm⟩
   obtain ⟨y, e1, e2⟩ := dx.get hd
   refine ⟨⟨xs, y, SqL.of hx2, e1⟩, fun x H'' hy => ⟨hy.1, ?_⟩⟩
   have := hy.2 xs (SqL.of hx2)
   rw [e1] at this
   cases this
   exact e2.mono z2.sh
def intsD (lo : Int) : Nat -> List D
 | 0 => []
 | n + 1 => .int lo :: intsD (lo + 1) n
theorem intsD_get : ∀ (n : Nat) (lo : Int) (i : Nat) (d : D), (intsD lo n)[i]? = some d -> i < n /\ d = .int (lo + i)
 | 0, _, _, _, h => by simp [intsD] at h
 | n + 1, lo, 0, d, h => by simp [intsD] at h; exact ⟨Nat.succ_pos _, by rw [<- h]; simp⟩
 | n + 1, lo, i + 1, d, h => by
  obtain ⟨h1, h2⟩ := intsD_get n (lo + 1) i d (by simpa [intsD] using h)
  exact ⟨Nat.succ_lt_succ h1, by rw [h2]; congr 1; lia⟩
theorem intsD_len : ∀ (n : Nat) (lo : Int), (intsD lo n).length = n
 | 0, _ => rfl
 | n + 1, lo => by rw [intsD, List.length_cons, intsD_len n]
theorem walks_rng (lo : Int) (n : Nat) : Walks K (Itr lo n) S (intsD lo n) := fun S' H' _ _ => ⟨fun i d h => by
 obtain ⟨h1, rfl⟩ := intsD_get n lo i d h
 exact ⟨h1, fun x H'' y => ⟨y.1, den_int.mpr y.2⟩⟩, by rw [intsD_len]; exact Nat.le_refl _⟩
def rngD : List D -> Option (List D)
 | [.int j] => ifC (j < 1000000 /\ -1000000 < j) (some (intsD 0 j.toNat)) none
 | [.int i, .int j] => ifC (j < 4000000000000000000 /\ -4000000000000000000 < i /\ i < 4000000000000000000 /\ -4000000000000000000 < j) (some (intsD i (j - i).toNat)) none
 | _ => none
@[simp] def xRng (a : XA) : XA := fun ρ => (a ρ).bind rngD
theorem i_rng1 {ta : TE} {a : XE} (h : SPk K ta a) : SI K (iRng1 (tCons ta tNil)) (xRng (xCons a xNil)) := fun ρ σ S H R l r x k => by
 unfold xRng at x
 cases q : xCons a xNil ρ with
 | none => rw [q] at x; cases x
 | some ds =>
  rw [q] at x
  obtain ⟨d, e, qa, qb, rfl⟩ := xCons_of q
  cases qb
  cases d with
  | int j =>
   have x' : ifC (j < 1000000 /\ -1000000 < j) (some (intsD 0 j.toNat)) none = some l := x
   obtain ⟨hj, rfl⟩ := ifC_some x'
   refine h ρ σ S H _ _ r qa fun v S1 H1 z1 d1 => ?_
   refine ⟨j, by rw [d1.int], ?_, ?_, k _ S1 H1 z1 (walks_rng 0 _)⟩
   ·have : (2 : Int) ^ 62 = 4611686018427387904 := by decide
    lia
   ·have : (2 : Int) ^ 62 = 4611686018427387904 := by decide
    lia
  | _ => cases x
def evensD : Nat -> Nat -> List D
 | _, 0 => []
 | k, n + 1 => .int (2 * k) :: evensD (k + 1) n
def rng3D : List D -> Option (List D)
 | [.int a, .int j, .int b] => ifC (a = 0 /\ b = 2 /\ 0 <= j /\ j < 1000000) (some (evensD 0 ((j + 1) / 2).toNat)) none
 | _ => none
@[simp] def xRng3 (a : XA) : XA := fun ρ => (a ρ).bind rng3D
def loopF (g : XG) (m : XS) : List D -> Env -> Option Out
 | [], ρ => some (.nx ρ)
 | d :: l, ρ => (g d ρ).bind fun ρ1 => match m ρ1 with
  | some (.nx ρ2) => loopF g m l ρ2
  | some (.ct ρ2) => loopF g m l ρ2
  | some (.bk ρ2) => some (.nx ρ2)
  | some (.rt d) => some (.rt d)
  | some (.ro d) => some (.ro d)
  | none => none
@[simp] def xFor (e : XA) (g : XG) (m : XS) : XS := fun ρ => (e ρ).bind fun l => loopF g m l ρ
theorem drop_get {l : List D} {i : Nat} {d : D} (h : l[i]? = some d) : l.drop i = d :: l.drop (i + 1) := by
 obtain ⟨h1, rfl⟩ := List.getElem?_eq_some_iff.mp h
 exact List.drop_eq_getElem_cons h1
theorem s_for {wi : TI} {g : TG} {tb : TS} {e : XA} {x : XG} {m : XS} (hi : SI K wi e) (hg : SG K g x) (hb : SS K tb m) : SS K (tFor wi g tb) (xFor e x m) := fun A Λ ρ σ S H E o r y k => by
 unfold xFor at y
 cases q : e ρ with
 | none => rw [q] at y; cases y
 | some l =>
  rw [q] at y
  dsimp only [Option.bind] at y
  refine hi ρ σ S H _ l r.toRl q fun J S1 H1 z1 wk => ?_
  have r1 := r.ext z1
  refine ⟨fun i n σ' H' => n = l.length - i /\ i <= l.length /\ ∃ ρ' S', RlA K A Λ ρ' σ' S' H' /\ Same S1 S' /\ loopF x m (l.drop i) ρ' = some o, ⟨_, rfl, Nat.zero_le _, ρ, S1, r1, Same.refl _, y⟩, ?_⟩
  rintro i n σ2 H2 ⟨rfl, hil, ρ2, S2, r2, s2, y2⟩
  obtain ⟨w1, w2⟩ := wk S2 H2 s2 r2.sub
  cases qd : l[i]? with
  | none =>
   have : l.length = i := by have := List.getElem?_eq_none_iff.mp qd; lia
   subst this
   rw [List.drop_of_length_le (Nat.le_refl _)] at y2
   cases y2
   exact .inl ⟨w2, k σ2 S2 H2 r2 (z1.sh.trans s2)⟩
  | some d =>
   obtain ⟨g1, g2⟩ := w1 i d qd
   have hlt := (List.getElem?_eq_some_iff.mp qd).1
   rw [drop_get qd] at y2
   unfold loopF at y2
   cases qx : x d ρ2 with
   | none => rw [qx] at y2; cases y2
   | some ρ3 =>
    rw [qx] at y2
    dsimp only [Option.bind] at y2
    refine .inr ⟨g1, fun σ' H' => ∃ ρ' S', RlA K A Λ ρ' σ' S' H' /\ Same S1 S' /\ loopF x m (l.drop (i + 1)) ρ' = some o, fun σ' H' ⟨ρ', S', a1, a2, a3⟩ => ⟨_, by lia, rfl, hlt, ρ', S', a1, a2, a3⟩, fun xv H3 hy => ?_⟩
    obtain ⟨rfl, dx⟩ := g2 xv H3 hy
    refine hg A Λ ρ2 σ2 S2 H3 xv d _ ρ3 r2 dx qx fun σ3 r3 => ?_
    cases qm : m ρ3 with
    | none => rw [qm] at y2; cases y2
    | some om =>
     rw [qm] at y2
     refine hb A Λ ρ3 σ3 S2 H3 _ om r3 qm ?_
     cases om with
     | nx ρ4 => exact fun σ4 S4 H4 r4 s4 => ⟨ρ4, S4, r4, s2.trans s4, y2⟩
     | ct ρ4 => exact fun σ4 S4 H4 r4 s4 => ⟨ρ4, S4, r4, s2.trans s4, y2⟩
     | bk ρ4 => cases y2; exact fun σ4 S4 H4 r4 s4 => k σ4 S4 H4 r4 ((z1.sh.trans s2).trans s4)
     | rt d4 => cases y2; exact fun v S4 H4 s4 => k v S4 H4 ((z1.sh.trans s2).trans s4)
     | ro d4 => cases y2; exact fun v fp S4 H4 s4 => k v fp S4 H4 ((z1.sh.trans s2).trans s4)
def whileF (c : XT) (m : XS) : Nat -> Env -> Option Out
 | 0, _ => none
 | n + 1, ρ => (c ρ).bind fun b => if b = true then (match m ρ with
  | some (.nx ρ2) => whileF c m n ρ2
  | some (.ct ρ2) => whileF c m n ρ2
  | some (.bk ρ2) => some (.nx ρ2)
  | some (.rt d) => some (.rt d)
  | some (.ro d) => some (.ro d)
  | none => none) else some (.nx ρ)
theorem whileF_mono (c : XT) (m : XS) : ∀ (n : Nat) (ρ : Env) (o : Out), whileF c m n ρ = some o -> whileF c m (n + 1) ρ = some o
 | 0, _, _, h => by cases h
 | n + 1, ρ, o, h => by
  unfold whileF at h ⊢
  cases qc : c ρ with
  | none => rw [qc] at h; cases h
  | some b =>
   rw [qc] at h
   dsimp only [Option.bind] at h ⊢
   cases b with
   | false => exact h
   | true =>
    rw [if_pos rfl] at h ⊢
    cases qm : m ρ with
    | none => rw [qm] at h; cases h
    | some om =>
     rw [qm] at h
     cases om with
     | nx ρ2 => exact whileF_mono c m n ρ2 o h
     | ct ρ2 => exact whileF_mono c m n ρ2 o h
     | bk ρ2 => exact h
     | rt d => exact h
     | ro d => exact h
theorem whileF_add (c : XT) (m : XS) (n : Nat) (ρ : Env) (o : Out) (h : whileF c m n ρ = some o) : ∀ k, whileF c m (n + k) ρ = some o
 | 0 => h
 | k + 1 => whileF_mono c m (n + k) ρ o (whileF_add c m n ρ o h k)
def xWhileC (c : XT) (m : XS) : XS := fun ρ => by
 classical
 exact if h : ∃ o n, whileF c m n ρ = some o then some h.choose else none
def xWhile (c : XT) (m : XS) : XS := fun ρ => (whileF c m 64 ρ).or (xWhileC c m ρ)
theorem whileF_one {c : XT} {m : XS} {ρ : Env} {o o' : Out} {n k : Nat} (h : whileF c m n ρ = some o) (h' : whileF c m k ρ = some o') : o' = o := by
 have h3 := whileF_add c m n ρ o h k
 have h4 := whileF_add c m k ρ _ h' n
 rw [Nat.add_comm k n, h3] at h4
 exact (Option.some.inj h4).symm
theorem xWhile_of {c : XT} {m : XS} {n : Nat} {ρ : Env} {o : Out} (h : whileF c m n ρ = some o) : xWhile c m ρ = some o := by
 unfold xWhile
 cases q : whileF c m 64 ρ with
 | some o' => exact congrArg some (whileF_one h q)
 | none =>
  have hx : ∃ o n, whileF c m n ρ = some o := ⟨o, n, h⟩
  show xWhileC c m ρ = some o
  unfold xWhileC
  rw [dif_pos hx]
  obtain ⟨n2, h2⟩ := hx.choose_spec
  exact congrArg some (whileF_one h h2)
theorem of_xWhile {c : XT} {m : XS} {ρ : Env} {o : Out} (h : xWhile c m ρ = some o) : ∃ n, whileF c m n ρ = some o := by
 unfold xWhile at h
 cases q : whileF c m 64 ρ with
 | some o' => rw [q] at h; exact ⟨64, q.trans h⟩
 | none =>
  rw [q] at h
  have h : xWhileC c m ρ = some o := h
  unfold xWhileC at h
  split at h
  ·rename_i hx
   cases h
   exact hx.choose_spec
  ·cases h
theorem xWhile_end {c : XT} {m : XS} {ρ : Env} (h : c ρ = some false) : xWhile c m ρ = some (.nx ρ) := xWhile_of (n := 1) (by unfold whileF; rw [h]; rfl)
theorem xWhile_step {c : XT} {m : XS} {ρ ρ2 : Env} {o : Out} (h : c ρ = some true) (hm : m ρ = some (.nx ρ2)) (k : xWhile c m ρ2 = some o) : xWhile c m ρ = some o := by
 obtain ⟨n, hn⟩ := of_xWhile k
 exact xWhile_of (n := n + 1) (by unfold whileF; rw [h, hm]; exact hn)
theorem s_while {tc : TT} {tb : TS} {c : XT} {m : XS} (hc : ST K tc c) (hb : SS K tb m) : SS K (tWhile tc tb) (xWhile c m) := fun A Λ ρ σ S H E o r y k => by
 obtain ⟨n, hn⟩ := of_xWhile y
 refine ⟨fun n σ' H' => ∃ ρ' S', RlA K A Λ ρ' σ' S' H' /\ Same S S' /\ whileF c m n ρ' = some o, ⟨n, ρ, S, r, Same.refl _, hn⟩, ?_⟩
 rintro n σ1 H1 ⟨ρ1, S1, r1, s1, h1⟩
 cases n with
 | zero => cases h1
 | succ n =>
  unfold whileF at h1
  cases qc : c ρ1 with
  | none => rw [qc] at h1; cases h1
  | some b =>
   rw [qc] at h1
   dsimp only [Option.bind] at h1
   refine hc ρ1 σ1 S1 H1 _ b r1.toRl qc fun S2 H2 z2 => ?_
   have r2 := r1.ext z2
   cases b with
   | false =>
    rw [if_neg (by decide)] at h1
    cases h1
    exact iteF (k σ1 S2 H2 r2 (s1.trans z2.sh))
   | true =>
    rw [if_pos rfl] at h1
    refine iteT ⟨fun σ' H' => ∃ ρ' S', RlA K A Λ ρ' σ' S' H' /\ Same S S' /\ whileF c m n ρ' = some o, fun σ' H' a => ⟨n, Nat.lt_succ_self _, a⟩, ?_⟩
    cases qm : m ρ1 with
    | none => rw [qm] at h1; cases h1
    | some om =>
     rw [qm] at h1
     refine hb A Λ ρ1 σ1 S2 H2 _ om r2 qm ?_
     cases om with
     | nx ρ4 => exact fun σ4 S4 H4 r4 s4 => ⟨ρ4, S4, r4, (s1.trans z2.sh).trans s4, h1⟩
     | ct ρ4 => exact fun σ4 S4 H4 r4 s4 => ⟨ρ4, S4, r4, (s1.trans z2.sh).trans s4, h1⟩
     | bk ρ4 => cases h1; exact fun σ4 S4 H4 r4 s4 => k σ4 S4 H4 r4 ((s1.trans z2.sh).trans s4)
     | rt d4 => cases h1; exact fun v S4 H4 s4 => k v S4 H4 ((s1.trans z2.sh).trans s4)
     | ro d4 => cases h1; exact fun v fp S4 H4 s4 => k v fp S4 H4 ((s1.trans z2.sh).trans s4)
@[simp] def innX (js : List (Option Nat)) (ρ : Env) : Env := js.map fun o => match o with | none => .un | some j => match ρ[j]? with | some (.sh d) => .sh d | _ => .un
def compF (g : XG) (c : XT) (e : XE) (ρ0 : Env) : List D -> Option (List D)
 | [] => some []
 | d :: l => (g d ρ0).bind fun ρ1 => (c ρ1).bind fun b => if b = true then (e ρ1).bind fun y => (compF g c e ρ0 l).map fun r => y :: r else compF g c e ρ0 l
@[simp] def xComp (js : List (Option Nat)) (w : XA) (g : XG) (c : XT) (e : XE) : XA := fun ρ => (w ρ).bind fun l => if l.length <= LIM then compF g c e (innX js ρ) l else none
@[simp] def xYes : XT := fun _ => some true
theorem s_yes : ST K fNone xYes := fun ρ σ S H Q b r x k => by cases x; exact k S H (Ext.refl r.sub)
theorem innX_get {js : List (Option Nat)} {ρ : Env} {i : Nat} {s : Sl} (h : (innX js ρ)[i]? = some s) : s = .un \/ ∃ d j, s = .sh d /\ js[i]? = some (some j) /\ ρ[j]? = some (.sh d) := by
 unfold innX at h
 rw [List.getElem?_map] at h
 cases q : js[i]? with
 | none => rw [q] at h; cases h
 | some o =>
  rw [q] at h
  cases o with
  | none => cases h; exact .inl rfl
  | some j =>
   simp only [Option.map_some] at h
   cases q2 : ρ[j]? with
   | none => rw [q2] at h; cases h; exact .inl rfl
   | some s2 =>
    rw [q2] at h
    cases s2 with
    | un => cases h; exact .inl rfl
    | lo => cases h; exact .inl rfl
    | ow l => cases h; exact .inl rfl
    | sh d => cases h; exact .inr ⟨d, j, rfl, rfl, q2⟩
def alien (S H : Hp) : Hp := fun b => match S b with | none => H b | some _ => none
theorem alien_sub {S H : Hp} : Same (alien S H) H := fun b o h => by
 unfold alien at h
 cases q : S b with
 | none => rw [q] at h; exact h
 | some _ => rw [q] at h; cases h
theorem alien_dis {S H : Hp} (b : Addr) : S b = none \/ alien S H b = none := by
 unfold alien
 cases q : S b with
 | none => exact .inl rfl
 | some _ => exact .inr rfl
theorem alien_of {S H : Hp} {b : Addr} {o : HO} (h : H b = some o) (n : S b = none) : alien S H b = some o := by
 unfold alien
 rw [n]
 exact h
theorem rl_inn {ρ : Env} {σ : St} (r : Rl K ρ σ S H) (js : List (Option Nat)) : RlA K (alien S H) (fun _ => none) (innX js ρ) (inn js σ) S H := by
 refine ⟨fun _ => [], ?_⟩
 exact {
  len := by unfold innX inn; rw [List.length_map, List.length_map]
  sub := r.sub
  sh := fun i d h => by
   rcases innX_get h with e | ⟨d', j, e, h1, h2⟩
   ·cases e
   ·cases e
    obtain ⟨v, k1, k2⟩ := r.sh j d h2
    refine ⟨v, ?_, k2⟩
    unfold inn
    rw [List.getElem?_map, h1]
    show some ((σ[j]?).join) = some (some v)
    rw [k1]
    rfl
  ow := fun i o h => by
   rcases innX_get h with e | ⟨d', j, e, h1, h2⟩
   ·cases e
   ·cases e
  dj := fun i j o o' _ h => by
   rcases innX_get h with e | ⟨d', j, e, h1, h2⟩
   ·cases e
   ·cases e
  lo := fun i h => by
   rcases innX_get h with e | ⟨d', j, e, h1, h2⟩
   ·cases e
   ·cases e
  asub := alien_sub
  adis := alien_dis }
theorem s_comp {js : List (Option Nat)} {wi : TI} {g : TG} {tt : TIf} {te : TE} {w : XA} {x : XG} {c : XT} {e : XE} (hi : SIP K wi w) (hg : SG K g x) (hc : ST K tt c) (he : SE K te e) : SF K (tComp js wi g tt te) (xComp js w x c e) := fun ρ σ S H Q l r y k => by
 unfold xComp at y
 cases q : w ρ with
 | none => rw [q] at y; cases y
 | some ds =>
  rw [q] at y
  dsimp only [Option.bind] at y
  split at y
  ·rename_i hlim
   refine hi ρ σ S H _ ds r q fun J S1 H1 z1 wk D hD => ?_
   have r1 := r.ext z1
   have hD0 : H D = none := (z1.same r.sub).free hD
   -- the word: what is told so far, what is still to be told
   refine ⟨fun i n H' => n = ds.length - i /\ i <= ds.length /\ ∃ S' done ys rest, Ext S1 H1 S' H' /\ Same S1 S' /\ H' D = some (.lst ys) /\ S' D = none /\ Dens K S' done ys /\ done.length <= i /\ compF x c e (innX js ρ) (ds.drop i) = some rest /\ l = done ++ rest,
    ⟨_, rfl, Nat.zero_le _, S1, [], [], l, Ext.own z1.sub hD, Same.refl _, upd_same, z1.sub.free hD, .nil, Nat.zero_le _, y, rfl⟩, ?_⟩
   rintro i n H2 ⟨rfl, hil, S2, done, ys, rest, z2, s2, hy, hSD, dy, hdl, y2, rfl⟩
   obtain ⟨w1, w2⟩ := wk S2 H2 z2
   cases qd : ds[i]? with
   | none =>
    have : ds.length = i := by have := List.getElem?_eq_none_iff.mp qd; lia
    subst this
    rw [List.drop_of_length_le (Nat.le_refl _)] at y2
    cases y2
    rw [List.append_nil] at k
    exact .inl ⟨w2, k D ys S2 H2 (z1.trans z2) hD0 hSD hy dy⟩
   | some d =>
    obtain ⟨g1, g2⟩ := w1 i d qd
    have hlt := (List.getElem?_eq_some_iff.mp qd).1
    rw [drop_get qd] at y2
    unfold compF at y2
    cases qx : x d (innX js ρ) with
    | none => rw [qx] at y2; cases y2
    | some ρ3 =>
     rw [qx] at y2
     dsimp only [Option.bind] at y2
     refine .inr ⟨g1, fun xv H3 hyl => ?_⟩
     obtain ⟨rfl, dx⟩ := g2 xv H3 hyl
     have ri := rl_inn (r1.ext z2) js
     refine hg _ _ _ _ S2 H3 xv d _ ρ3 ri dx qx fun σ3 r3 => ?_
     cases qc : c ρ3 with
     | none => rw [qc] at y2; cases y2
     | some b =>
      rw [qc] at y2
      dsimp only at y2
      refine hc ρ3 σ3 S2 H3 _ b r3.toRl qc fun S4 H4 z4 => ?_
      obtain ⟨al1, al2⟩ := z4.al D _ hy hSD
      cases b with
      | false =>
       rw [if_neg (by decide)] at y2
       exact iteF ⟨_, by lia, rfl, hlt, S4, done, ys, rest, z2.trans z4, s2.trans z4.sh, al1, al2, dy.mono z4.sh, by lia, y2, rfl⟩
      | true =>
       rw [if_pos rfl] at y2
       cases qe : e ρ3 with
       | none => rw [qe] at y2; cases y2
       | some dv =>
        rw [qe] at y2
        dsimp only at y2
        cases qr : compF x c e (innX js ρ) (ds.drop (i + 1)) with
        | none => rw [qr] at y2; cases y2
        | some rest2 =>
         rw [qr] at y2
         cases y2
         refine iteT (he ρ3 σ3 S4 H4 _ dv (r3.toRl.ext z4) qe fun v S5 H5 z5 d5 => ?_)
         obtain ⟨b1, b2⟩ := z5.al D _ al1 al2
         refine ⟨ys, b1, ?_, _, by lia, rfl, hlt, S5, done ++ [dv], ys ++ [v], rest2, ?_, (s2.trans z4.sh).trans z5.sh, upd_same, b2, ((dy.mono z4.sh).mono z5.sh).append (.cons d5 .nil), by rw [List.length_append, List.length_singleton]; lia, qr, by rw [List.append_assoc]; rfl⟩
         ·rw [<- dy.length]
          exact Nat.lt_of_lt_of_le (Nat.lt_of_le_of_lt hdl hlt) (Nat.le_trans hlim (Nat.le_of_lt lim_lt))
         ·have z6 := (z2.trans z4).trans z5
          exact ⟨z6.sh, fun b u hb => by rw [upd_ne fun z => by subst z; rw [b2] at hb; cases hb]; exact z6.sub b u hb, fun b o hb hn => by
           obtain ⟨c1, c2⟩ := z6.al b o hb hn
           exact ⟨by rw [upd_ne fun z => by subst z; rw [hD] at hb; cases hb]; exact c1, c2⟩⟩
  ·cases y
@[simp] def xForO (i : Nat) (g : XG) (m : XS) : XS := fun ρ => match ρ[i]? with
 | some (.ow (.lst os)) => (match shs os with
  | some l => (match loopF g m l (ρ.set i .lo) with
   | some (.nx ρ') => (match ρ'[i]? with | some .lo => some (.nx (ρ'.set i (.ow (.lst os)))) | _ => none)
   | some (.rt d) => some (.rt d)
   | _ => none)
  | none => none)
 | _ => none
def fnO (n : Nat) (x : XS) (ds : List D) : Option O := match x (ds.map .sh ++ List.replicate (n - ds.length) .un) with
 | some (.rt d) => some (.sh d)
 | some (.ro o) => some o
 | some (.nx _) => some (.sh .non)
 | _ => none
theorem rl_start {N : List Str} {ds : List D} {vs : List V} (s : Same S H) (h : Dens K S ds vs) : RlA K (alien S H) (fun _ => none) (ds.map .sh ++ List.replicate (N.length - ds.length) .un) (L2.start N vs) S H := by
 have hl := h.length
 have key : ∀ (i : Nat) t, (ds.map Sl.sh ++ List.replicate (N.length - ds.length) .un)[i]? = some t -> t = .un \/ ∃ d v, t = .sh d /\ (L2.start N vs)[i]? = some (some v) /\ Den K S d v := fun i t ht => by
  by_cases hi : i < ds.length
  ·rw [List.getElem?_append_left (by rw [List.length_map]; exact hi), List.getElem?_map] at ht
   cases q : ds[i]? with
   | none => rw [q] at ht; cases ht
   | some d =>
    rw [q] at ht
    cases ht
    obtain ⟨v, e1, e2⟩ := h.get q
    refine .inr ⟨d, v, rfl, ?_, e2⟩
    unfold L2.start
    rw [List.getElem?_append_left (by rw [List.length_map]; lia), List.getElem?_map, e1]
    rfl
  ·rw [List.getElem?_append_right (by rw [List.length_map]; lia), List.getElem?_replicate] at ht
   split at ht
   ·cases ht; exact .inl rfl
   ·cases ht
 refine ⟨fun _ => [], ?_⟩
 exact {
  len := by unfold L2.start; rw [List.length_append, List.length_append, List.length_map, List.length_map, List.length_replicate, List.length_replicate, hl]
  sub := s
  sh := fun i d hi => by
   rcases key i _ hi with e | ⟨d', v, e, h1, h2⟩
   ·cases e
   ·cases e; exact ⟨v, h1, h2⟩
  ow := fun i o hi => by
   rcases key i _ hi with e | ⟨d', v, e, h1, h2⟩
   ·cases e
   ·cases e
  dj := fun i j o o' _ hi => by
   rcases key i _ hi with e | ⟨d', v, e, h1, h2⟩
   ·cases e
   ·cases e
  lo := fun i hi => by
   rcases key i _ hi with e | ⟨d', v, e, h1, h2⟩
   ·cases e
   ·cases e
  asub := alien_sub
  adis := alien_dis }
theorem rd_of {t : TS} {x : XS} {N : List Str} {n k : Nat} {vs : List V} {H : Hp} {Q : VK} {E : XK} (hs : SS K t x) (hN : N.length = n) (h : spOf K k (fnO n x) vs H Q E) :
  t { nx := fun _ H' => Q .non H', rt := Q } (L2.start N vs) H := by
 obtain ⟨_, S, ds, d, s, dd, y, q⟩ := h
 subst hN
 unfold fnO at y
 have r := rl_start (N := N) s dd
 have ex : ∀ {S' H' : Hp}, Same S S' -> Same S' H' -> Same (alien S H) H' -> (∀ b, S' b = none \/ alien S H b = none) -> Ext S H S' H' := fun s1 s2 s3 s4 => ⟨s1, s2, fun b o hb hn => by
  have ha := alien_of hb hn
  refine ⟨s3 b o ha, ?_⟩
  rcases s4 b with z | z
  ·exact z
  ·rw [ha] at z; cases z⟩
 cases qx : x (ds.map .sh ++ List.replicate (N.length - ds.length) .un) with
 | none => rw [qx] at y; cases y
 | some o =>
  rw [qx] at y
  refine hs _ _ _ _ S H _ o r qx ?_
  cases o with
  | rt d' =>
   cases y
   exact fun v S' H' s1 s2 s3 s4 dv => q v [] S' H' (ex s1 s2 s3 s4) (own_sh.mpr ⟨rfl, dv⟩) .nil fun b hb => by cases hb
  | ro o' =>
   cases y
   refine fun v fp S' H' s1 s2 s3 s4 ow nd n => q v fp S' H' (ex s1 s2 s3 s4) ow nd fun b hb => ⟨?_, (n b hb).1⟩
   cases qb : H b with
   | none => rfl
   | some u =>
    have := alien_of qb (s1.free (n b hb).1)
    rw [(n b hb).2] at this; cases this
  | nx ρ' =>
   cases y
   exact fun σ' S' H' r' s1 => q .non [] S' H' (ex s1 r'.sub r'.asub r'.adis) (own_sh.mpr ⟨rfl, den_non.mpr rfl⟩) .nil fun b hb => by cases hb
  | bk ρ' => cases y
  | ct ρ' => cases y
end
def dI (f : Int -> Int -> Option D) : D -> D -> Option D
 | .int i, .int j => f i j
 | _, _ => none
def dMul : D -> D -> Option D := dI fun i j => ifC ((-18446744073709551616 < i /\ i < 18446744073709551616) \/ (-18446744073709551616 < j /\ j < 18446744073709551616)) (some (.int (i * j))) none
def dDiv : D -> D -> Option D := dI fun i j => ifC (0 < j /\ j < 1073741824) (some (.int (i / j))) none
def dMod : D -> D -> Option D := dI fun i j => ifC (0 < j) (some (.int (i % j))) none
def dPow : D -> D -> Option D := dI fun i j => ifC (0 <= j /\ j <= 1000000 /\ i.natAbs < 18446744073709551616) (some (.int (i ^ j.toNat))) none
def dSub : D -> D -> Option D := dI fun i j => some (.int (i - j))
def dLt : D -> D -> Option D := dI fun i j => some (.bl (decide (i < j)))
def dLe : D -> D -> Option D := dI fun i j => some (.bl (decide (i <= j)))
def dGt : D -> D -> Option D := dI fun i j => some (.bl (decide (j < i)))
def dGe : D -> D -> Option D := dI fun i j => some (.bl (decide (j <= i)))
def dNeg : D -> Option D
 | .int i => some (.int (-i))
 | _ => none
section
variable {K : W.Frag}
theorem r_i {C : Int -> Int -> Prop} {g : Int -> Int -> V} {f : Int -> Int -> Option D} (h : ∀ i j d, f i j = some d -> C i j /\ flat d = some (g i j)) : SR2 K (rI C g) (dI f) := fun S H x y d e z Q s dx dy q k => by
 cases d <;> cases e <;> try cases q
 rename_i i j
 obtain ⟨h1, h2⟩ := h i j z q
 exact ⟨i, j, dx.int, dy.int, h1, k _ S H (Ext.refl s) (den_flat h2)⟩
theorem r_i0 {g : Int -> Int -> V} {f : Int -> Int -> Option D} (h : ∀ i j d, f i j = some d -> flat d = some (g i j)) : SR2 K (rI0 g) (dI f) := fun S H x y d e z Q s dx dy q k => by
 cases d <;> cases e <;> try cases q
 rename_i i j
 exact ⟨i, j, dx.int, dy.int, k _ S H (Ext.refl s) (den_flat (h i j z q))⟩
theorem r_mul : SR2 K (rI CMul fun i j => .int (i * j)) dMul := r_i fun i j d h => by
 obtain ⟨c, rfl⟩ := ifC_some h
 refine ⟨?_, rfl⟩
 unfold CMul
 have : (2 : Int) ^ 64 = 18446744073709551616 := by decide
 rw [this]
 exact c
theorem r_div : SR2 K (rI CDiv fun i j => .int (i / j)) dDiv := r_i fun i j d h => by
 obtain ⟨c, rfl⟩ := ifC_some h
 exact ⟨c, rfl⟩
theorem r_mod : SR2 K (rI (fun _ j => 0 < j) fun i j => .int (i % j)) dMod := r_i fun i j d h => by
 obtain ⟨c, rfl⟩ := ifC_some h
 exact ⟨c, rfl⟩
theorem r_pow : SR2 K (rI CPow fun i j => .int (i ^ j.toNat)) dPow := r_i fun i j d h => by
 obtain ⟨c, rfl⟩ := ifC_some h
 refine ⟨?_, rfl⟩
 unfold CPow
 have : (2 : Nat) ^ 64 = 18446744073709551616 := by decide
 rw [this]
 exact c
theorem r_sub : SR2 K (rI0 fun i j => .int (i - j)) dSub := r_i0 fun i j d h => by cases h; rfl
theorem r_lt : SR2 K (rI0 fun i j => .bl (decide (i < j))) dLt := r_i0 fun i j d h => by cases h; rfl
theorem r_le : SR2 K (rI0 fun i j => .bl (decide (i <= j))) dLe := r_i0 fun i j d h => by cases h; rfl
theorem r_gt : SR2 K (rI0 fun i j => .bl (decide (j < i))) dGt := r_i0 fun i j d h => by cases h; rfl
theorem r_neg : SR1 K (rU fun i => .int (-i)) dNeg := fun S H x d g Q s dx q k => by
 cases d <;> try cases q
 rename_i i
 exact ⟨i, dx.int, k _ S H (Ext.refl s) (den_int.mpr rfl)⟩
end
def rCatM : R2 := fun x y H Q => ∃ l b xs zs, x = .ref l /\ y = .ref b /\ Rd H l (.lst xs) /\ Rd H b (.lst zs) /\ xs.length + zs.length <= sizeLine /\ ∀ p, H p = none -> Q (.ref p) (upd H p (.lst (xs ++ zs)))
def rTupM (K : W.Frag) : R2 := fun x y H Q => ∃ a b xs ys, x = .ref a /\ y = .ref b /\ SqT K H a xs /\ SqT K H b ys /\ xs.length + ys.length <= sizeLine /\
 (ys = [] -> Q (.ref a) H) /\ (xs = [] -> Q (.ref b) H) /\ ∀ p, H p = none -> Q (.ref p) (upd H p (.tup (xs ++ ys)))
def rStrM : R2 := fun x y H Q => ∃ i j, x = .str i /\ y = .str j /\ i.length + j.length <= sizeLine /\ Q (.str (i ++ j)) H
def rAddM (K : W.Frag) : R2 := fun x y H Q => (∃ i j, x = .int i /\ y = .int j /\ Q (.int (i + j)) H) \/ rCatM x y H Q \/ rTupM K x y H Q \/ rStrM x y H Q
def dAdd : D -> D -> Option D
 | .int i, .int j => some (.int (i + j))
 | .lst a, .lst b => if a.length + b.length <= LIM then some (.lst (a ++ b)) else none
 | .tup a, .tup b => if a.length + b.length <= LIM then some (.tup (a ++ b)) else none
 | .str a, .str b => if a.length + b.length <= LIM then some (.str (a ++ b)) else none
 | _, _ => none
section
variable {K : W.Frag}
theorem Dens.nil_iff {S : Hp} {ds : List D} {xs : List V} (h : Dens K S ds xs) : xs = [] ↔ ds = [] := by
 have := h.length
 cases ds <;> cases xs <;> simp_all
theorem lim_le {n : Nat} (h : n <= LIM) : n <= sizeLine := Nat.le_of_lt (Nat.lt_of_le_of_lt h lim_lt)
theorem r_add : SR2 K (rAddM K) dAdd := fun S H x y d e z Q s dx dy q k => by
 cases d <;> cases e <;> try (cases q; done)
 ·rename_i i j
  cases q
  exact .inl ⟨i, j, dx.int, dy.int, k _ S H (Ext.refl s) (den_int.mpr rfl)⟩
 ·rename_i i j
  have q' : (if i.length + j.length <= LIM then some (D.str (i ++ j)) else none) = some z := q
  split at q'
  ·rename_i hl
   cases q'
   exact .inr (.inr (.inr ⟨i, j, dx.str, dy.str, lim_le hl, k _ S H (Ext.refl s) (den_str.mpr rfl)⟩))
  ·cases q'
 ·rename_i a b
  have q' : (if a.length + b.length <= LIM then some (D.lst (a ++ b)) else none) = some z := q
  split at q'
  ·rename_i hl
   cases q'
   obtain ⟨p, xs, rfl, h1, h2⟩ := dx.lst s
   obtain ⟨p', ys, rfl, h3, h4⟩ := dy.lst s
   refine .inr (.inl ⟨p, p', xs, ys, rfl, rfl, h1, h3, by rw [<- h2.length, <- h4.length]; exact lim_le hl, fun q hq => ?_⟩)
   have z := Ext.new (o := .lst (xs ++ ys)) s hq
   exact k _ _ _ z (den_lst.mpr ⟨q, _, rfl, .inl upd_same, (h2.append h4).mono z.sh⟩)
  ·cases q'
 ·rename_i a b
  have q' : (if a.length + b.length <= LIM then some (D.tup (a ++ b)) else none) = some z := q
  split at q'
  ·rename_i hl
   cases q'
   obtain ⟨p, xs, e1, h1, h2⟩ := dx.tup s
   obtain ⟨p', ys, e2, h3, h4⟩ := dy.tup s
   have dx' : Den K S (.tup a) x := dx.elim id fun ⟨_, _, _, e, _⟩ => by cases e
   have dy' : Den K S (.tup b) y := dy.elim id fun ⟨_, _, _, e, _⟩ => by cases e
   subst e1 e2
   refine .inr (.inr (.inl ⟨p, p', xs, ys, rfl, rfl, h1, h3, by rw [<- h2.length, <- h4.length]; exact lim_le hl, fun e => ?_, fun e => ?_, fun q hq => ?_⟩))
   ·have := h4.nil_iff.mp e
    subst this
    exact k _ S H (Ext.refl s) (by rw [List.append_nil]; exact dx')
   ·have := h2.nil_iff.mp e
    subst this
    exact k _ S H (Ext.refl s) (by rw [List.nil_append]; exact dy')
   ·have z := Ext.new (o := .tup (xs ++ ys)) s hq
    exact k _ _ _ z (den_tup.mpr ⟨q, _, rfl, TpA.of upd_same, (h2.append h4).mono z.sh⟩)
  ·cases q'
end
mutual
def eqD : D -> D -> Bool
 | .non, .non => true
 | .bl a, .bl b => a == b
 | .bl a, .int j => (if a then 1 else 0) == j
 | .int i, .bl b => i == (if b then 1 else 0)
 | .int i, .int j => i == j
 | .str x, .str y => x == y
 | .lst a, .lst b => eqDs a b
 | .tup a, .tup b => eqDs a b
 | _, _ => false
def eqDs : List D -> List D -> Bool
 | [], [] => true
 | x :: xs, y :: ys => eqD x y && eqDs xs ys
 | _, _ => false
end
mutual
def okD : Nat -> D -> Bool
 | _, .non => true
 | _, .bl _ => true
 | _, .int _ => true
 | _, .str x => PyData.strOk x
 | n + 1, .lst l => okDs n l
 | n + 1, .tup l => okDs n l
 | _, _ => false
def okDs : Nat -> List D -> Bool
 | _, [] => true
 | n, d :: l => okD n d && okDs n l
end
def rEqM (K : W.Frag) (neg : Bool) : R2 := fun x y H Q => ∃ S d e, Same S H /\ DenP K S H d x /\ DenP K S H e y /\ okD 50 d = true /\ okD 50 e = true /\ Q (.bl (if neg then !eqD d e else eqD d e)) H
def dEq (neg : Bool) (d e : D) : Option D := if okD 50 d = true /\ okD 50 e = true then some (.bl (if neg then !eqD d e else eqD d e)) else none
section
variable {K : W.Frag}
theorem r_eq (neg : Bool) : SR2 K (rEqM K neg) (dEq neg) := fun S H x y d e z Q s dx dy q k => by
 unfold dEq at q
 split at q
 ·rename_i c
  cases q
  exact ⟨S, d, e, s, dx, dy, c.1, c.2, k _ S H (Ext.refl s) (den_bl.mpr rfl)⟩
 ·cases q
end
def isNon : D -> Bool
 | .non => true | _ => false
def dIsN (neg : Bool) (d e : D) : Option D := match e with | .non => some (.bl (if neg then !isNon d else isNon d)) | _ => none
section
variable {K : W.Frag}
theorem non_iff {S H : Hp} {d : D} {v : V} (h : DenP K S H d v) : decide (v = .non) = isNon d := by
 cases d with
 | non => rw [h.non]; rfl
 | bl b => rw [h.bl]; rfl
 | int b => rw [h.int]; rfl
 | str b => rw [h.str]; rfl
 | ty b => rw [h.ty]; rfl
 | lst l =>
  rcases h with h | ⟨_, p, _, _, e, _⟩
  ·obtain ⟨p, _, e, _⟩ := den_lst.mp h
   rw [e]; rfl
  ·rw [e]; rfl
 | tup l =>
  rcases h with h | ⟨_, p, _, _, e, _⟩
  ·obtain ⟨p, _, e, _⟩ := den_tupS h
   rw [e]; rfl
  ·rw [e]; rfl
 | scr l =>
  rcases h with h | ⟨_, p, _, _, e, _⟩
  ·obtain ⟨p, _, e, _⟩ := den_scr.mp h
   rw [e]; rfl
  ·rw [e]; rfl
 | ins C ns l =>
  rcases h with h | ⟨_, p, _, _, e, _⟩
  ·obtain ⟨p, _, _, _, e, _⟩ := den_ins.mp h
   rw [e]; rfl
  ·rw [e]; rfl
 | dic ks =>
  rcases h with h | ⟨_, p, _, _, e, _⟩
  ·obtain ⟨p, e, _⟩ := den_dic.mp h
   rw [e]; rfl
  ·rw [e]; rfl
theorem r_notN : SR2 K rNotN (dIsN true) := fun S H x y d e z Q s dx dy q k => by
 cases e <;> try (cases q; done)
 cases q
 exact ⟨dy.non, by rw [non_iff dx]; exact k _ S H (Ext.refl s) (den_bl.mpr rfl)⟩
end
def dIx : D -> D -> Option D
 | .lst l, .int i => atI l i
 | .tup l, .int i => atI l i
 | .scr l, .int i => atI l i
 | .str x, .int i => if x.length <= LIM then (atI x.cps.toList i).map fun c => .str ⟨#[c]⟩ else none
 | _, _ => none
section
variable {K : W.Frag}
theorem atI_dens {S : Hp} {ds : List D} {xs : List V} {i : Int} {d : D} (h : Dens K S ds xs) (e : atI ds i = some d) : ∃ v, atI xs i = some v /\ Den K S d v := by
 unfold atI at e ⊢
 rw [<- h.length]
 cases q : ixN ds.length i with
 | none => rw [q] at e; cases e
 | some j =>
  rw [q] at e
  exact h.get e
theorem r_ix : SR2 K (rIx K) dIx := fun S H x y d e z Q s dx dy q k => by
 cases d <;> cases e <;> try (cases q; done)
 ·rename_i x' i
  have q' : (if x'.length <= LIM then (atI x'.cps.toList i).map fun c => D.str ⟨#[c]⟩ else none) = some z := q
  split at q'
  ·rename_i hl
   cases qc : atI x'.cps.toList i with
   | none => rw [qc] at q'; cases q'
   | some c =>
    rw [qc] at q'
    cases q'
    exact .inr (.inr ⟨x', i, c, dx.str, dy.int, lim_le hl, qc, k _ S H (Ext.refl s) (den_str.mpr rfl)⟩)
  ·cases q'
 ·rename_i l i
  obtain ⟨p, xs, rfl, h1, h2⟩ := dx.lst s
  obtain ⟨v, h3, h4⟩ := atI_dens h2 q
  exact .inl ⟨p, xs, i, v, rfl, dy.int, .inl h1, h3, k v S H (Ext.refl s) h4⟩
 ·rename_i l i
  obtain ⟨p, xs, rfl, h1, h2⟩ := dx.tup s
  obtain ⟨v, h3, h4⟩ := atI_dens h2 q
  exact .inr (.inl ⟨p, xs, i, v, rfl, dy.int, h1, h3, k v S H (Ext.refl s) h4⟩)
 ·rename_i l i
  obtain ⟨p, xs, rfl, h1, h2⟩ := dx.scr s
  obtain ⟨v, h3, h4⟩ := atI_dens h2 q
  exact .inl ⟨p, xs, i, v, rfl, dy.int, h1, h3, k v S H (Ext.refl s) h4⟩
end
def cutD {α : Type} (xs : List α) (lo hi : Option Int) : List α := (xs.drop (HT.sIx xs.length 0 lo)).take (HT.sIx xs.length xs.length hi - HT.sIx xs.length 0 lo)
abbrev XO := Env -> Option (Option Int)
@[simp] def xNoPart : XO := fun _ => some none
@[simp] def xPart (a : XE) : XO := fun ρ => (a ρ).bind fun d => match d with | .int i => some (some i) | _ => none
section
variable {K : W.Frag}
def dSl (d : D) (lo hi : Option Int) : Option D := match d with
 | .lst l => some (.lst (cutD l lo hi))
 | .tup l => some (.tup (cutD l lo hi))
 | .scr l => some (.lst (cutD l lo hi))
 | _ => none
@[simp] def xSl (a : XE) (lo hi : XO) : XE := fun ρ => (a ρ).bind fun d => (lo ρ).bind fun l => (hi ρ).bind fun h => dSl d l h
def rLenM (K : W.Frag) : List V -> Hp -> VK -> Prop := fun xs H Q => ∃ x n, xs = [x] /\ LenV K x H n /\ Q (.int n) H
def bLen : List D -> Option D
 | [.lst l] => some (.int l.length)
 | [.tup l] => some (.int l.length)
 | [.scr l] => some (.int l.length)
 | [.str x] => if x.length <= LIM then some (.int x.length) else none
 | _ => none
theorem one_of {S H : Hp} {d : D} {vs : List V} (h : DensP K S H [d] vs) : ∃ v, vs = [v] /\ DenP K S H d v := by
 cases h with
 | cons a b => cases b; exact ⟨_, rfl, a⟩
theorem two_of {S H : Hp} {d e : D} {vs : List V} (h : DensP K S H [d, e] vs) : ∃ v w, vs = [v, w] /\ DenP K S H d v /\ DenP K S H e w := by
 cases h with
 | cons a b => cases b with
  | cons c b => cases b; exact ⟨_, _, rfl, a, c⟩
theorem b_len : SRB K (rLenM K) bLen := fun S H vs ds g Q s d q k => by
 unfold bLen at q
 split at q
 ·rename_i l
  cases q
  obtain ⟨v, rfl, d1⟩ := one_of d
  obtain ⟨p, xs, rfl, h1, h2⟩ := d1.lst s
  exact ⟨_, xs.length, rfl, .inl ⟨xs, .inl h1, rfl⟩, k _ S H (Ext.refl s) (den_int.mpr (by rw [h2.length]))⟩
 ·rename_i l
  cases q
  obtain ⟨v, rfl, d1⟩ := one_of d
  obtain ⟨p, xs, rfl, h1, h2⟩ := d1.tup s
  exact ⟨_, xs.length, rfl, .inr ⟨xs, h1, rfl⟩, k _ S H (Ext.refl s) (den_int.mpr (by rw [h2.length]))⟩
 ·rename_i l
  cases q
  obtain ⟨v, rfl, d1⟩ := one_of d
  obtain ⟨p, xs, rfl, h1, h2⟩ := d1.scr s
  exact ⟨_, xs.length, rfl, .inl ⟨xs, h1, rfl⟩, k _ S H (Ext.refl s) (den_int.mpr (by rw [h2.length]))⟩
 ·rename_i x
  split at q
  ·rename_i hl
   cases q
   obtain ⟨v, rfl, d1⟩ := one_of d
   exact ⟨_, x.length, rfl, by rw [d1.str]; exact ⟨lim_le hl, rfl⟩, k _ S H (Ext.refl s) (den_int.mpr rfl)⟩
  ·cases q
 ·cases q
def bTuple : List D -> Option D
 | [.lst l] => some (.tup l)
 | [.tup l] => some (.tup l)
 | [.scr l] => some (.tup l)
 | _ => none
theorem b_tuple : SRB K (rTuple K) bTuple := fun S H vs ds g Q s d q k => by
 unfold bTuple at q
 split at q
 ·rename_i l
  cases q
  obtain ⟨v, rfl, d1⟩ := one_of d
  obtain ⟨p, xs, rfl, h1, h2⟩ := d1.lst s
  refine ⟨p, xs, rfl, .inl ⟨.inl h1, fun q hq => ?_⟩⟩
  have z := Ext.new (o := .tup xs) s hq
  exact k _ _ _ z (den_tup.mpr ⟨q, _, rfl, TpA.of upd_same, h2.mono z.sh⟩)
 ·rename_i l
  cases q
  obtain ⟨v, rfl, d1⟩ := one_of d
  have d' : Den K S (.tup l) v := d1.elim id fun ⟨_, _, _, e, _⟩ => by cases e
  obtain ⟨p, xs, rfl, h1, h2⟩ := d1.tup s
  exact ⟨p, xs, rfl, .inr ⟨h1, k _ S H (Ext.refl s) d'⟩⟩
 ·rename_i l
  cases q
  obtain ⟨v, rfl, d1⟩ := one_of d
  obtain ⟨p, xs, rfl, h1, h2⟩ := d1.scr s
  refine ⟨p, xs, rfl, .inl ⟨h1, fun q hq => ?_⟩⟩
  have z := Ext.new (o := .tup xs) s hq
  exact k _ _ _ z (den_tup.mpr ⟨q, _, rfl, TpA.of upd_same, h2.mono z.sh⟩)
 ·cases q
def bList : List D -> Option (List D)
 | [.lst l] => some l
 | [.tup l] => some l
 | [.scr l] => some l
 | _ => none
def bMax2 : List D -> Option D
 | [.int i, .int j] => some (.int (if j > i then j else i))
 | _ => none
def bMin2 : List D -> Option D
 | [.int i, .int j] => some (.int (if j < i then j else i))
 | _ => none
theorem b_max2 : SRB K rMax2 bMax2 := fun S H vs ds g Q s d q k => by
 unfold bMax2 at q
 split at q
 ·rename_i i j
  cases q
  obtain ⟨v, w, rfl, d1, d2⟩ := two_of d
  exact ⟨i, j, by rw [d1.int, d2.int], k _ S H (Ext.refl s) (den_int.mpr rfl)⟩
 ·cases q
theorem b_min2 : SRB K rMin2 bMin2 := fun S H vs ds g Q s d q k => by
 unfold bMin2 at q
 split at q
 ·rename_i i j
  cases q
  obtain ⟨v, w, rfl, d1, d2⟩ := two_of d
  exact ⟨i, j, by rw [d1.int, d2.int], k _ S H (Ext.refl s) (den_int.mpr rfl)⟩
 ·cases q
def intsOf : List D -> Option (List Int)
 | [] => some []
 | .int i :: l => (intsOf l).map fun r => i :: r
 | _ => none
theorem ints_dens {S : Hp} : ∀ {ds : List D} {xs : List V} {ns : List Int}, Dens K S ds xs -> intsOf ds = some ns -> xs = ns.map V.int /\ ds = ns.map D.int
 | [], xs, ns, h, e => by cases e; exact ⟨h.nil_of, rfl⟩
 | d :: ds, xs, ns, h, e => by
  obtain ⟨y, ys, rfl, h1, h2⟩ := h.cons_of
  cases d <;> try (cases e; done)
  rename_i i
  have e' : (intsOf ds).map (fun r => i :: r) = some ns := e
  cases q : intsOf ds with
  | none => rw [q] at e'; cases e'
  | some ms =>
   rw [q] at e'
   cases e'
   obtain ⟨k1, k2⟩ := ints_dens h2 q
   rw [den_int.mp h1, k1]
   exact ⟨rfl, congrArg (D.int i :: ·) k2⟩
theorem ints_map : ∀ ns : List Int, intsOf (ns.map D.int) = some ns
 | [] => rfl
 | n :: ns => by rw [List.map_cons, intsOf, ints_map ns]; rfl
def bSum : List D -> Option D
 | [.lst l] => (intsOf l).map fun ns => .int ns.sum
 | _ => none
theorem b_sum : SRB K (rSumL K) bSum := fun S H vs ds g Q s d q k => by
 unfold bSum at q
 split at q
 ·rename_i l
  cases qi : intsOf l with
  | none => rw [qi] at q; cases q
  | some ns =>
   rw [qi] at q
   cases q
   obtain ⟨v, rfl, d1⟩ := one_of d
   obtain ⟨p, xs, rfl, h1, h2⟩ := d1.lst s
   obtain ⟨e, _⟩ := ints_dens h2 qi
   subst e
   exact ⟨p, ns, rfl, .inl h1, k _ S H (Ext.refl s) (den_int.mpr rfl)⟩
 ·cases q
def bInt : List D -> Option D
 | [.int i] => some (.int i)
 | [.bl b] => some (.int (if b then 1 else 0))
 | _ => none
@[simp] def xRevL (a : XE) : XA := fun ρ => (a ρ).bind fun d => match d with | .lst l => some l.reverse | _ => none
def tyD : D -> Option String
 | .non => some "NoneType" | .bl _ => some "bool" | .int _ => some "int" | .str _ => some "str" | .lst _ => some "list" | .tup _ => some "tuple" | _ => none
def subM (t T : String) : Bool := t == T || (t == "bool" && T == "int")
def tyM (K : W.Frag) (H : Hp) (x : V) (t : String) : Prop := match x with
 | .non => t = "NoneType" | .bl _ => t = "bool" | .int _ => t = "int" | .str _ => t = "str"
 | .ref p => (t = "list" /\ ∃ xs, Rd H p (.lst xs)) \/ (t = "tuple" /\ ∃ xs, SqT K H p xs)
 | _ => False
def isiM : List String := ["bool", "int", "str", "list", "tuple"]
def rIsiM (K : W.Frag) : List V -> Hp -> VK -> Prop := fun xs H Q => ∃ x T t, xs = [x, .ty T] /\ tyM K H x t /\ T ∈ isiM /\ Q (.bl (subM t T)) H
def bIsi : List D -> Option D
 | [d, .ty T] => if T ∈ isiM then (tyD d).map fun t => .bl (subM t T) else none
 | _ => none
theorem ty_of {S H : Hp} {d : D} {v : V} {t : String} (s : Same S H) (h : DenP K S H d v) (e : tyD d = some t) : tyM K H v t := by
 cases d with
 | non => rw [h.non]; cases e; rfl
 | bl b => rw [h.bl]; cases e; rfl
 | int b => rw [h.int]; cases e; rfl
 | str b => rw [h.str]; cases e; rfl
 | lst l =>
  cases e
  obtain ⟨p, xs, rfl, h1, h2⟩ := h.lst s
  exact .inl ⟨rfl, xs, h1⟩
 | tup l =>
  cases e
  obtain ⟨p, xs, rfl, h1, h2⟩ := h.tup s
  exact .inr ⟨rfl, xs, h1⟩
 | _ => cases e
theorem b_isi : SRB K (rIsiM K) bIsi := fun S H vs ds g Q s d q k => by
 unfold bIsi at q
 split at q
 ·rename_i d0 T
  split at q
  ·rename_i hT
   cases qt : tyD d0 with
   | none => rw [qt] at q; cases q
   | some t =>
    rw [qt] at q
    cases q
    obtain ⟨v, w, rfl, d1, d2⟩ := two_of d
    exact ⟨v, T, t, by rw [d2.ty], ty_of s d1 qt, hT, k _ S H (Ext.refl s) (den_bl.mpr rfl)⟩
  ·cases q
 ·cases q
end
def tupI (k : List Int) : D := .tup (k.map D.int)
def keyD : D -> Option (List Int)
 | .tup l => if l.isEmpty then none else intsOf l
 | _ => none
def keys : List D -> Option (List (List Int))
 | [] => some []
 | d :: l => (keyD d).bind fun k => (keys l).map fun r => k :: r
theorem lex_asym : ∀ a b : List Int, HT.lexLt a b = true -> HT.lexLt b a = false
 | [], [], h => by cases h
 | [], _ :: _, _ => rfl
 | _ :: _, [], h => by cases h
 | x :: a, y :: b, h => by
  have h' : (if x = y then HT.lexLt a b else decide (x < y)) = true := h
  show (if y = x then HT.lexLt b a else decide (y < x)) = false
  by_cases e : x = y
  ·rw [if_pos e] at h'; rw [if_pos e.symm]; exact lex_asym a b h'
  ·rw [if_neg e] at h'; rw [if_neg (fun z => e z.symm)]
   have := of_decide_eq_true h'
   exact decide_eq_false (by lia)
theorem lex_total : ∀ a b : List Int, HT.lexLt a b = false -> HT.lexLt b a = false -> a = b
 | [], [], _, _ => rfl
 | [], _ :: _, h, _ => by cases h
 | _ :: _, [], _, h => by cases h
 | x :: a, y :: b, h, k => by
  have h' : (if x = y then HT.lexLt a b else decide (x < y)) = false := h
  have k' : (if y = x then HT.lexLt b a else decide (y < x)) = false := k
  by_cases e : x = y
  ·rw [if_pos e] at h'; rw [if_pos e.symm] at k'
   rw [e, lex_total a b h' k']
  ·rw [if_neg e] at h'; rw [if_neg (fun z => e z.symm)] at k'
   have := of_decide_eq_false h'
   have := of_decide_eq_false k'
   lia
theorem lex_trans : ∀ a b c : List Int, HT.lexLt a b = false -> HT.lexLt b c = false -> HT.lexLt a c = false
 | [], [], _, _, k => k
 | [], _ :: _, _, h, _ => by cases h
 | _ :: _, _, [], _, _ => rfl
 | _ :: _, [], _ :: _, _, k => by cases k
 | x :: a, y :: b, z :: c, h, k => by
  have h' : (if x = y then HT.lexLt a b else decide (x < y)) = false := h
  have k' : (if y = z then HT.lexLt b c else decide (y < z)) = false := k
  show (if x = z then HT.lexLt a c else decide (x < z)) = false
  by_cases e1 : x = y
  ·rw [if_pos e1] at h'
   subst e1
   by_cases e2 : x = z
   ·rw [if_pos e2] at k' ⊢; exact lex_trans a b c h' k'
   ·rw [if_neg e2] at k' ⊢; exact k'
  ·rw [if_neg e1] at h'
   have g1 := of_decide_eq_false h'
   by_cases e2 : y = z
   ·subst e2
    rw [if_neg e1]; exact h'
   ·rw [if_neg e2] at k'
    have g2 := of_decide_eq_false k'
    rw [if_neg (by lia)]
    exact decide_eq_false (by lia)
def insK (x : List Int) : List (List Int) -> List (List Int)
 | [] => [x]
 | y :: l => if HT.lexLt y x = true then y :: insK x l else x :: y :: l
def sortK (ks : List (List Int)) : List (List Int) := ks.foldr insK []
theorem insK_perm (x : List Int) (l : List (List Int)) : (insK x l).Perm (x :: l) := by
 induction l with
 | nil => exact .refl _
 | cons y l ih =>
  unfold insK
  split
  ·exact (ih.cons y).trans (.swap x y l)
  ·exact .refl _
def sortI (ns : List Int) : List Int := ns.mergeSort fun a b => decide (a <= b)
theorem sortK_perm (ks : List (List Int)) : (sortK ks).Perm ks := by
 induction ks with
 | nil => exact .refl _
 | cons x l ih => exact (insK_perm x (sortK l)).trans (ih.cons x)
theorem sortI_perm (ns : List Int) : (sortI ns).Perm ns := List.mergeSort_perm _ _
theorem insK_pw (x : List Int) (l : List (List Int)) (h : l.Pairwise fun a b => HT.lexLt b a = false) : (insK x l).Pairwise fun a b => HT.lexLt b a = false := by
 induction l with
 | nil => exact .cons (fun _ z => by cases z) .nil
 | cons y l ih =>
  have hy : ∀ z, z ∈ l -> HT.lexLt z y = false := fun z hz => List.rel_of_pairwise_cons h hz
  unfold insK
  cases q : HT.lexLt y x with
  | true =>
   refine .cons (fun z hz => ?_) (ih (List.Pairwise.of_cons h))
   rcases List.mem_cons.mp ((insK_perm x l).mem_iff.mp hz) with rfl | hz
   ·exact lex_asym y _ q
   ·exact hy z hz
  | false =>
   refine .cons (fun z hz => ?_) h
   rcases List.mem_cons.mp hz with rfl | hz
   ·exact q
   ·exact lex_trans z y x (hy z hz) q
theorem sortK_pw (ks : List (List Int)) : (sortK ks).Pairwise fun a b => HT.lexLt b a = false := by
 induction ks with
 | nil => exact .nil
 | cons x l ih => exact insK_pw x (sortK l) ih
theorem sortI_pw (ns : List Int) : (sortI ns).Pairwise (· <= ·) := by
 have h := List.pairwise_mergeSort (le := fun a b : Int => decide (a <= b)) (fun a b c h k => by
  have := of_decide_eq_true h; have := of_decide_eq_true k; exact decide_eq_true (by lia)) (fun a b => by
  by_cases h : a <= b
  ·simp [h]
  ·simp [show b <= a by lia]) ns
 exact h.imp fun {a b} e => of_decide_eq_true e
theorem sortK_uniq {ks js : List (List Int)} (hp : js.Perm ks) (hw : js.Pairwise fun a b => HT.lexLt b a = false) : js = sortK ks :=
 List.Perm.eq_of_pairwise (fun a b _ _ h k => lex_total a b k h) hw (sortK_pw ks) (hp.trans (sortK_perm ks).symm)
theorem sortI_uniq {ns ms : List Int} (hp : ms.Perm ns) (hw : ms.Pairwise (· <= ·)) : ms = sortI ns :=
 List.Perm.eq_of_pairwise (fun a b _ _ h k => by lia) hw (sortI_pw ns) (hp.trans (sortI_perm ns).symm)
def rSortM (K : W.Frag) : List V -> Hp -> VK -> Prop := fun xs H Q => ∃ p, ∃ yks : List (V × List Int), xs = [.ref p] /\ SqL K H p (yks.map (·.1)) /\ yks.length < 30000 /\ (∀ yk ∈ yks, ∃ q, yk.1 = .ref q /\ SqT K H q (yk.2.map V.int) /\ yk.2 ≠ []) /\
 ∀ (zks : List (V × List Int)) l, zks.Perm yks -> zks.Pairwise (fun a b => HT.lexLt b.2 a.2 = false) -> H l = none -> Q (.ref l) (upd H l (.lst (zks.map (·.1))))
def rSortedM (K : W.Frag) : List V -> Hp -> VK -> Prop := fun xs H Q => rSortedI K xs H Q \/ rSortM K xs H Q
def bSorted : List D -> Option (List D)
 | [.lst l] => if l.length < 30000 then (match intsOf l with
  | some ns => some ((sortI ns).map D.int)
  | none => (keys l).map fun ks => (sortK ks).map tupI) else none
 | _ => none
section
variable {K : W.Frag}
theorem keyD_of {d : D} {k : List Int} (h : keyD d = some k) : d = tupI k /\ k ≠ [] := by
 cases d <;> try (cases h; done)
 rename_i l
 have h' : (if l.isEmpty then none else intsOf l) = some k := h
 split at h'
 ·cases h'
 ·rename_i hne
  have key : ∀ (l : List D) (k : List Int), intsOf l = some k -> l = k.map D.int := by
   intro l
   induction l with
   | nil => intro k e; cases e; rfl
   | cons d l ih =>
    intro k e
    cases d <;> try (cases e; done)
    rename_i i
    have e' : (intsOf l).map (fun r => i :: r) = some k := e
    cases q : intsOf l with
    | none => rw [q] at e'; cases e'
    | some m => rw [q] at e'; cases e'; rw [ih m q]; rfl
  have e := key l k h'
  subst e
  exact ⟨rfl, fun z => by subst z; exact hne rfl⟩
theorem keys_of : ∀ {l : List D} {ks : List (List Int)}, keys l = some ks -> l = ks.map tupI /\ ∀ k ∈ ks, k ≠ []
 | [], ks, h => by cases h; exact ⟨rfl, fun _ h => by cases h⟩
 | d :: l, ks, h => by
  have h' : ((keyD d).bind fun k => (keys l).map fun r => k :: r) = some ks := h
  cases q : keyD d with
  | none => rw [q] at h'; cases h'
  | some k =>
   rw [q] at h'
   dsimp only [Option.bind] at h'
   cases q2 : keys l with
   | none => rw [q2] at h'; cases h'
   | some r =>
    rw [q2] at h'
    cases h'
    obtain ⟨a, b⟩ := keys_of q2
    obtain ⟨c, d⟩ := keyD_of q
    refine ⟨by rw [List.map_cons, <- a, <- c], fun k hk => ?_⟩
    rcases List.mem_cons.mp hk with rfl | hk
    ·exact d
    ·exact b k hk
theorem ints_map_V : ∀ {S : Hp} {k : List Int} {xs : List V}, Dens K S (k.map D.int) xs -> xs = k.map V.int
 | S, [], xs, h => h.nil_of
 | S, i :: k, xs, h => by
  obtain ⟨y, ys, rfl, h1, h2⟩ := h.cons_of
  rw [den_int.mp h1, ints_map_V h2]
  rfl
theorem dens_zip {S : Hp} : ∀ {ks : List (List Int)} {xs : List V}, Dens K S (ks.map tupI) xs -> (xs.zip ks).map (·.1) = xs /\ (xs.zip ks).map (·.2) = ks /\ (xs.zip ks).length = ks.length /\ ∀ yk ∈ xs.zip ks, Den K S (tupI yk.2) yk.1
 | [], xs, h => by rw [h.nil_of]; exact ⟨rfl, rfl, rfl, fun _ h => by cases h⟩
 | k :: ks, xs, h => by
  obtain ⟨y, ys, rfl, h1, h2⟩ := h.cons_of
  obtain ⟨a, b, c, d⟩ := dens_zip h2
  refine ⟨by rw [List.zip_cons_cons, List.map_cons, a], by rw [List.zip_cons_cons, List.map_cons, b], by rw [List.zip_cons_cons, List.length_cons, c, List.length_cons], fun yk hm => ?_⟩
  rw [List.zip_cons_cons] at hm
  rcases List.mem_cons.mp hm with rfl | hm
  ·exact h1
  ·exact d yk hm
theorem dens_of_pairs {S : Hp} : ∀ {zks : List (V × List Int)}, (∀ yk ∈ zks, Den K S (tupI yk.2) yk.1) -> Dens K S ((zks.map (·.2)).map tupI) (zks.map (·.1))
 | [], _ => .nil
 | yk :: zks, h => .cons (h yk List.mem_cons_self) (dens_of_pairs fun z hz => h z (List.mem_cons_of_mem _ hz))
theorem b_sorted : SRF K (rSortedM K) bSorted := fun S H vs ds g Q s d q k => by
 unfold bSorted at q
 split at q
 ·rename_i l
  split at q
  ·rename_i hl
   obtain ⟨v, rfl, d1⟩ := one_of d
   obtain ⟨p, xs, rfl, h1, h2⟩ := d1.lst s
   cases qi : intsOf l with
   | some ns =>
    rw [qi] at q
    cases q
    obtain ⟨e1, e2⟩ := ints_dens h2 qi
    subst e1 e2
    refine .inl ⟨p, ns, rfl, .inl h1, by rw [List.length_map] at hl; exact hl, fun ms a pm pw ha => ?_⟩
    rw [sortI_uniq pm pw]
    refine k a _ _ (Ext.own s ha) ha upd_same ?_
    have key : ∀ ns : List Int, Dens K S (ns.map D.int) (ns.map V.int) := by
     intro ns
     induction ns with
     | nil => exact .nil
     | cons n ns ih => exact .cons (den_int.mpr rfl) ih
    exact key _
   | none =>
    rw [qi] at q
    dsimp only at q
    cases qk : keys l with
    | none => rw [qk] at q; cases q
    | some ks =>
     rw [qk] at q
     cases q
     obtain ⟨e1, e2⟩ := keys_of qk
     subst e1
     obtain ⟨a, b, c, dd⟩ := dens_zip h2
     refine .inr ⟨p, xs.zip ks, rfl, by rw [a]; exact .inl h1, by rw [c]; rw [List.length_map] at hl; exact hl, fun yk hm => ?_, fun zks l pm pw hl => ?_⟩
     ·obtain ⟨q, ys, e, g1, g2⟩ := den_tupS (dd yk hm)
      have := ints_map_V g2
      subst this
      refine ⟨q, e, sqT_mono s g1, e2 _ ?_⟩
      rw [<- b]
      exact List.mem_map.mpr ⟨yk, hm, rfl⟩
     ·have e : zks.map (·.2) = sortK ks := by
       refine sortK_uniq ?_ ?_
       ·rw [<- b]; exact pm.map _
       ·rw [List.pairwise_map]; exact pw
      have dz : Dens K S ((zks.map (·.2)).map tupI) (zks.map (·.1)) := dens_of_pairs fun yk hm => dd yk (pm.mem_iff.mp hm)
      rw [e] at dz
      exact k l _ _ (Ext.own s hl) hl upd_same dz
  ·cases q
 ·cases q
end
def dAddI : D -> D -> Option D := dI fun i j => some (.int (i + j))
section
variable {K : W.Frag}
theorem r_ipadd : SR2 K (ipI fun i j => i + j) dAddI := r_i0 (g := fun i j => .int (i + j)) fun i j d h => by cases h; rfl
end
theorem s_truQ {K : W.Frag} {ta : TE} {a : XE} (ha : SQ K ta a) : ST K (tTru K ta) (xTru a) := fun ρ σ S H Q b r x k => by
 unfold xTru at x
 cases qa : a ρ with
 | none => rw [qa] at x; cases x
 | some da =>
  rw [qa] at x
  exact ha ρ σ S H _ da r qa fun v S1 H1 z1 d1 => ⟨b, tru_of (Same.refl H1) (.inl d1) x, k S1 H1 z1⟩
theorem loopF_cons (g : XG) (m : XS) (d : D) (l : List D) (ρ : Env) : loopF g m (d :: l) ρ = (g d ρ).bind fun ρ1 => match m ρ1 with
  | some (.nx ρ2) => loopF g m l ρ2
  | some (.ct ρ2) => loopF g m l ρ2
  | some (.bk ρ2) => some (.nx ρ2)
  | some (.rt d) => some (.rt d)
  | some (.ro d) => some (.ro d)
  | none => none := rfl
theorem loopF_gen {α : Type} {g : XG} {m : XS} (enc : α -> D) (P : List α -> Env -> Prop) (R : D -> Prop) (B : Env -> Prop) (l : List α) (ρ0 : Env) (h0 : P [] ρ0)
  (step : ∀ pre a post ρ, l = pre ++ a :: post -> P pre ρ -> ∃ ρ1 o, g (enc a) ρ = some ρ1 /\ m ρ1 = some o /\ (match o with | .nx ρ2 => P (pre ++ [a]) ρ2 | .ct ρ2 => P (pre ++ [a]) ρ2 | .bk ρ2 => B ρ2 | .rt d => R d | .ro _ => False)) :
  ∃ o, loopF g m (l.map enc) ρ0 = some o /\ (match o with | .nx ρ' => P l ρ' \/ B ρ' | .rt d => R d | _ => False) := by
 have key : ∀ (post pre : List α) (ρ : Env), l = pre ++ post -> P pre ρ -> ∃ o, loopF g m (post.map enc) ρ = some o /\ (match o with | .nx ρ' => P l ρ' \/ B ρ' | .rt d => R d | _ => False) := by
  intro post
  induction post with
  | nil =>
   intro pre ρ e p
   rw [List.append_nil] at e
   subst e
   exact ⟨_, rfl, .inl p⟩
  | cons a post ih =>
   intro pre ρ e p
   obtain ⟨ρ1, o, h1, h2, h3⟩ := step pre a post ρ e p
   rw [List.map_cons, loopF_cons, h1]
   dsimp only [Option.bind]
   rw [h2]
   cases o with
   | nx ρ2 => exact ih (pre ++ [a]) ρ2 (by rw [e, List.append_assoc]; rfl) h3
   | ct ρ2 => exact ih (pre ++ [a]) ρ2 (by rw [e, List.append_assoc]; rfl) h3
   | bk ρ2 => exact ⟨_, rfl, .inr h3⟩
   | rt d => exact ⟨_, rfl, h3⟩
   | ro d => exact h3.elim
 exact key l [] ρ0 rfl h0
theorem loopF_inv {α : Type} {g : XG} {m : XS} (enc : α -> D) (P : List α -> Env -> Prop) (l : List α) (ρ0 : Env) (h0 : P [] ρ0)
  (step : ∀ pre a post ρ, l = pre ++ a :: post -> P pre ρ -> ∃ ρ1 ρ2, g (enc a) ρ = some ρ1 /\ (m ρ1 = some (.nx ρ2) \/ m ρ1 = some (.ct ρ2)) /\ P (pre ++ [a]) ρ2) :
  ∃ ρ', loopF g m (l.map enc) ρ0 = some (.nx ρ') /\ P l ρ' := by
 obtain ⟨o, h1, h2⟩ := loopF_gen (g := g) (m := m) enc P (fun _ => False) (fun _ => False) l ρ0 h0 fun pre a post ρ e p => by
  obtain ⟨ρ1, ρ2, k1, k2, k3⟩ := step pre a post ρ e p
  rcases k2 with k2 | k2
  ·exact ⟨ρ1, _, k1, k2, k3⟩
  ·exact ⟨ρ1, _, k1, k2, k3⟩
 cases o with
 | nx ρ' => exact ⟨ρ', h1, h2.elim id False.elim⟩
 | rt d => exact h2.elim
 | ro d => exact h2.elim
 | bk ρ' => exact h2.elim
 | ct ρ' => exact h2.elim
def oneF (g : XG) (c : XT) (e : XE) (ρ0 : Env) (d : D) : Option (Option D) := (g d ρ0).bind fun ρ1 => (c ρ1).bind fun b => if b = true then (e ρ1).map some else some none
theorem compF_fm {α : Type} {g : XG} {c : XT} {e : XE} {ρ0 : Env} (enc : α -> D) (f : α -> Option D) : ∀ (l : List α), (∀ a ∈ l, oneF g c e ρ0 (enc a) = some (f a)) -> compF g c e ρ0 (l.map enc) = some (l.filterMap f)
 | [], _ => rfl
 | a :: l, h => by
  have ih := compF_fm (g := g) (c := c) (e := e) (ρ0 := ρ0) enc f l fun b hb => h b (List.mem_cons_of_mem _ hb)
  have h1 := h a List.mem_cons_self
  unfold oneF at h1
  rw [List.map_cons, compF]
  cases q1 : g (enc a) ρ0 with
  | none => rw [q1] at h1; cases h1
  | some ρ1 =>
   rw [q1] at h1
   dsimp only [Option.bind] at h1 ⊢
   cases q2 : c ρ1 with
   | none => rw [q2] at h1; cases h1
   | some b =>
    rw [q2] at h1
    dsimp only at h1 ⊢
    cases b with
    | false =>
     rw [if_neg (by decide)] at h1 ⊢
     rw [ih, List.filterMap_cons]
     have : f a = none := (Option.some.inj h1).symm
     rw [this]
    | true =>
     rw [if_pos rfl] at h1 ⊢
     cases q3 : e ρ1 with
     | none => rw [q3] at h1; cases h1
     | some y =>
      rw [q3] at h1
      have : f a = some y := (Option.some.inj h1).symm
      rw [ih, List.filterMap_cons, this]
      rfl
theorem compF_map {α : Type} {g : XG} {e : XE} {ρ0 : Env} (enc : α -> D) (f : α -> D) (l : List α) (h : ∀ a ∈ l, oneF g xYes e ρ0 (enc a) = some (some (f a))) : compF g xYes e ρ0 (l.map enc) = some (l.map f) := by
 rw [compF_fm enc (fun a => some (f a)) l h]
 exact congrArg some (congrFun List.filterMap_eq_map' l)
theorem xWhile_inv {c : XT} {m : XS} (P : Env -> Prop) (μ : Env -> Nat) (E : Env -> Prop) (step : ∀ ρ, P ρ -> (c ρ = some false /\ E ρ) \/ (c ρ = some true /\ ∃ ρ2, m ρ = some (.nx ρ2) /\ P ρ2 /\ μ ρ2 < μ ρ)) (ρ0 : Env) (h0 : P ρ0) : ∃ ρ', xWhile c m ρ0 = some (.nx ρ') /\ E ρ' := by
 have key : ∀ (n : Nat) (ρ : Env), μ ρ = n -> P ρ -> ∃ ρ', xWhile c m ρ = some (.nx ρ') /\ E ρ' := by
  intro n
  induction n using Nat.strongRecOn with
  | ind n ih =>
   intro ρ hn p
   rcases step ρ p with ⟨h1, h2⟩ | ⟨h1, ρ2, h2, h3, h4⟩
   ·exact ⟨ρ, xWhile_end h1, h2⟩
   ·obtain ⟨ρ', k1, k2⟩ := ih (μ ρ2) (by lia) ρ2 rfl h3
    exact ⟨ρ', xWhile_step h1 h2 k1, k2⟩
 exact key _ ρ0 rfl h0
abbrev prD (p : Int × Int) : D := .tup [.int p.1, .int p.2]
abbrev rowD (r : List (Int × Int)) : D := .tup (r.map prD)
abbrev lstD (r : List (Int × Int)) : D := .lst (r.map prD)
@[simp] theorem atI_neg1 {α : Type} (l : List α) (x : α) : atI (l ++ [x]) (-1) = some x := by
 unfold atI ixN
 rw [if_neg (by decide), List.length_append, List.length_singleton, if_pos (by lia)]
 have : ((-1 : Int) + ((l.length + 1 : Nat) : Int)).toNat = l.length := by lia
 dsimp only [Option.bind]
 rw [this]
 simp
theorem atI_of {α : Type} {l : List α} {j : Nat} {x : α} (h : l[j]? = some x) : atI l (j : Int) = some x := by
 have := (List.getElem?_eq_some_iff.mp h).1
 unfold atI ixN
 rw [if_pos (by lia), if_pos (by lia)]
 dsimp only [Option.bind]
 rw [Int.toNat_natCast]
 exact h
@[simp] theorem putL_last (l : List O) (x : O) (f : O -> O) : putL (l ++ [x]) (-1) f = l ++ [f x] := by
 unfold putL ixN
 rw [if_neg (by decide), List.length_append, List.length_singleton, if_pos (by lia)]
 have : ((-1 : Int) + ((l.length + 1 : Nat) : Int)).toNat = l.length := by lia
 dsimp only
 rw [this]
 simp
@[simp] theorem atI_last2 {α : Type} (l : List α) (a b : α) : atI (l ++ [a, b]) (-1) = some b := by
 have := atI_neg1 (l ++ [a]) b
 rw [List.append_assoc] at this
 exact this
@[simp] theorem atI_one {α : Type} (a : α) : atI [a] (-1) = some a := atI_neg1 [] a
@[simp] theorem putL_last2 (l : List O) (a b : O) (f : O -> O) : putL (l ++ [a, b]) (-1) f = l ++ [a, f b] := by
 have := putL_last (l ++ [a]) b f
 rw [List.append_assoc, List.append_assoc] at this
 exact this
@[simp] theorem putL_one (a : O) (f : O -> O) : putL [a] (-1) f = [f a] := putL_last [] a f
@[simp] theorem flat_int (i : Int) : flat (.int i) = some (.int i) := rfl
@[simp] theorem flat_bl (i : Bool) : flat (.bl i) = some (.bl i) := rfl
@[simp] theorem flat_str (i : Str) : flat (.str i) = some (.str i) := rfl
@[simp] theorem flat_non : flat .non = some .non := rfl
@[simp] theorem putL2_1 (a b : O) (f : O -> O) : putL [a, b] 1 f = [a, f b] := rfl
theorem ixN_neg1 {n : Nat} : ixN (n + 1) (-1) = some n := by
 unfold ixN
 rw [if_neg (by decide), if_pos (by lia)]
 congr 1
 lia
section
variable (i j : Int) (a b : List D) (neg : Bool) (ρ : Env)
@[simp] theorem v_sub : dSub (.int i) (.int j) = some (.int (i - j)) := rfl
@[simp] theorem v_add : dAdd (.int i) (.int j) = some (.int (i + j)) := rfl
@[simp] theorem v_addI : dAddI (.int i) (.int j) = some (.int (i + j)) := rfl
@[simp] theorem v_lt : dLt (.int i) (.int j) = some (.bl (decide (i < j))) := rfl
@[simp] theorem v_le : dLe (.int i) (.int j) = some (.bl (decide (i <= j))) := rfl
@[simp] theorem v_gt : dGt (.int i) (.int j) = some (.bl (decide (j < i))) := rfl
@[simp] theorem v_ge : dGe (.int i) (.int j) = some (.bl (decide (j <= i))) := rfl
@[simp] theorem v_neg : dNeg (.int i) = some (.int (-i)) := rfl
@[simp] theorem v_mulR {i j : Int} (h : -18446744073709551616 < j /\ j < 18446744073709551616) : dMul (.int i) (.int j) = some (.int (i * j)) := ifC_pos (.inr h)
@[simp] theorem v_mulL {i j : Int} (h : -18446744073709551616 < i /\ i < 18446744073709551616) : dMul (.int i) (.int j) = some (.int (i * j)) := ifC_pos (.inl h)
@[simp] theorem v_div {i j : Int} (h : 0 < j /\ j < 1073741824) : dDiv (.int i) (.int j) = some (.int (i / j)) := ifC_pos h
@[simp] theorem v_mod {i j : Int} (h : 0 < j) : dMod (.int i) (.int j) = some (.int (i % j)) := ifC_pos h
@[simp] theorem v_pow {i j : Int} (h : 0 <= j /\ j <= 1000000 /\ i.natAbs < 18446744073709551616) : dPow (.int i) (.int j) = some (.int (i ^ j.toNat)) := ifC_pos h
theorem v_addL : dAdd (.lst a) (.lst b) = if a.length + b.length <= LIM then some (.lst (a ++ b)) else none := rfl
@[simp] theorem v_isN (d : D) : dIsN neg d .non = some (.bl (if neg then !isNon d else isNon d)) := rfl
@[simp] theorem v_isNon1 : isNon .non = true := rfl
@[simp] theorem v_isNon2 : isNon (.int i) = false := rfl
@[simp] theorem v_isNon3 : isNon (.tup a) = false := rfl
@[simp] theorem v_ixL : dIx (.lst a) (.int i) = atI a i := rfl
@[simp] theorem v_ixT : dIx (.tup a) (.int i) = atI a i := rfl
@[simp] theorem v_ixS : dIx (.scr a) (.int i) = atI a i := rfl
@[simp] theorem v_truL : truD (.lst a) = some (!a.isEmpty) := rfl
@[simp] theorem v_truT : truD (.tup a) = some (!a.isEmpty) := rfl
@[simp] theorem v_truS : truD (.scr a) = some (!a.isEmpty) := rfl
@[simp] theorem v_truB (x : Bool) : truD (.bl x) = some x := rfl
@[simp] theorem v_truI : truD (.int i) = some (i != 0) := rfl
@[simp] theorem v_truN : truD .non = some false := rfl
@[simp] theorem v_lenL : bLen [.lst a] = some (.int a.length) := rfl
@[simp] theorem v_lenT : bLen [.tup a] = some (.int a.length) := rfl
@[simp] theorem v_lenS : bLen [.scr a] = some (.int a.length) := rfl
@[simp] theorem v_tupL : bTuple [.lst a] = some (.tup a) := rfl
@[simp] theorem v_tupT : bTuple [.tup a] = some (.tup a) := rfl
@[simp] theorem v_lstL : bList [.lst a] = some a := rfl
@[simp] theorem v_lstT : bList [.tup a] = some a := rfl
@[simp] theorem v_lstS : bList [.scr a] = some a := rfl
@[simp] theorem v_max : bMax2 [.int i, .int j] = some (.int (if j > i then j else i)) := rfl
@[simp] theorem v_min : bMin2 [.int i, .int j] = some (.int (if j < i then j else i)) := rfl
@[simp] theorem v_int : bInt [.int i] = some (.int i) := rfl
@[simp] theorem v_intB (x : Bool) : bInt [.bl x] = some (.int (if x then 1 else 0)) := rfl
@[simp] theorem v_seqL : seqD (.lst a) = some a := rfl
@[simp] theorem v_seqT : seqD (.tup a) = some a := rfl
@[simp] theorem v_seqS : seqD (.scr a) = some a := rfl
@[simp] theorem v_slL (lo hi : Option Int) : dSl (.lst a) lo hi = some (.lst (cutD a lo hi)) := rfl
@[simp] theorem v_slT (lo hi : Option Int) : dSl (.tup a) lo hi = some (.tup (cutD a lo hi)) := rfl
@[simp] theorem v_slS (lo hi : Option Int) : dSl (.scr a) lo hi = some (.lst (cutD a lo hi)) := rfl
@[simp] theorem v_gT (y : XGs) : xgTup y (.tup a) ρ = y a ρ := rfl
@[simp] theorem v_gC (x : XG) (y : XGs) (d : D) : xgCons x y (d :: a) ρ = (x d ρ).bind (y a) := rfl
@[simp] theorem v_gN : xgNil [] ρ = some ρ := rfl
@[simp] theorem v_isiI : bIsi [.int i, .ty "int"] = some (.bl true) := rfl
@[simp] theorem v_isiB : bIsi [.int i, .ty "bool"] = some (.bl false) := rfl
@[simp] theorem v_isiT : bIsi [.tup a, .ty "tuple"] = some (.bl true) := rfl
@[simp] theorem v_isiL : bIsi [.lst a, .ty "list"] = some (.bl true) := rfl
@[simp] theorem v_isiBB (x : Bool) : bIsi [.bl x, .ty "bool"] = some (.bl true) := rfl
end
abbrev owl (l : List D) : Sl := .ow (.lst (l.map O.sh))
@[simp] theorem peek_lst (os : List O) : peek (.ow (.lst os)) = (shs os).map D.lst := rfl
@[simp] theorem shs_nil : shs [] = some [] := rfl
@[simp] theorem shs_cons (d : D) (l : List O) : shs (.sh d :: l) = (shs l).map fun r => d :: r := rfl
@[simp] theorem shs_map' (l : List D) : shs (l.map O.sh) = some l := shs_map l
@[simp] theorem shs_mapc {α : Type} (f : α -> D) (l : List α) : shs (l.map (O.sh ∘ f)) = some (l.map f) := by rw [<- List.map_map]; exact shs_map _
@[simp] theorem shs_mapf {α : Type} (f : α -> D) (l : List α) : shs (l.map fun a => O.sh (f a)) = some (l.map f) := shs_mapc f l
@[simp] theorem shs_app : ∀ (a b : List O), shs (a ++ b) = (shs a).bind fun x => (shs b).map fun y => x ++ y
 | [], b => by cases h : shs b <;> simp [h]
 | .sh d :: a, b => by
  rw [List.cons_append, shs_cons, shs_cons, shs_app a b]
  cases shs a with
  | none => rfl
  | some x => cases shs b <;> rfl
 | .dic _ :: _, _ => rfl
 | .lst _ :: a, b => rfl
 | .tup _ :: a, b => rfl
@[simp] theorem subO_nil (o : O) : subO o [] = some o := by unfold subO; rfl
@[simp] theorem subO_lst (l : List O) (k : Int) (r : List Int) : subO (.lst l) (k :: r) = (atI l k).bind fun o => subO o r := rfl
@[simp] theorem subO_tup (l : List O) (k : Int) (r : List Int) : subO (.tup l) (k :: r) = (atI l k).bind fun o => subO o r := rfl
@[simp] theorem putO_nil (o q : O) : putO o [] q = q := by unfold putO; rfl
@[simp] theorem putO_lst (l : List O) (k : Int) (r : List Int) (q : O) : putO (.lst l) (k :: r) q = .lst (putL l k fun o => putO o r q) := rfl
@[simp] theorem putO_tup (l : List O) (k : Int) (r : List Int) (q : O) : putO (.tup l) (k :: r) q = .tup (putL l k fun o => putO o r q) := rfl
@[simp] theorem O_d_sh (d : D) : O.d (.sh d) = d := by unfold O.d; rfl
@[simp] theorem O_d_lst (l : List O) : O.d (.lst l) = .lst (O.ds l) := by rw [O.d]
@[simp] theorem O_d_tup (l : List O) : O.d (.tup l) = .tup (O.ds l) := by rw [O.d]
@[simp] theorem O_ds_nil : O.ds [] = [] := by rw [O.ds]
@[simp] theorem O_ds_cons (o : O) (l : List O) : O.ds (o :: l) = o.d :: O.ds l := by rw [O.ds]
@[simp] theorem O_ds_app : ∀ (a b : List O), O.ds (a ++ b) = O.ds a ++ O.ds b
 | [], b => by simp
 | o :: a, b => by simp [O_ds_app a b]
@[simp] theorem O_ds_map : ∀ l : List D, O.ds (l.map O.sh) = l
 | [] => by simp
 | d :: l => by simp [O_ds_map l]
@[simp] theorem O_ds_mapc {α : Type} (f : α -> D) (l : List α) : O.ds (l.map (O.sh ∘ f)) = l.map f := by rw [<- List.map_map]; exact O_ds_map _
@[simp] theorem at2_0 {α : Type} (a b : α) : atI [a, b] 0 = some a := rfl
@[simp] theorem at2_1 {α : Type} (a b : α) : atI [a, b] 1 = some b := rfl
@[simp] theorem at3_0 {α : Type} (a b c : α) : atI [a, b, c] 0 = some a := rfl
@[simp] theorem at3_1 {α : Type} (a b c : α) : atI [a, b, c] 1 = some b := rfl
@[simp] theorem at3_2 {α : Type} (a b c : α) : atI [a, b, c] 2 = some c := rfl
theorem lim_is : LIM = 1000000 := by unfold LIM; rfl
@[simp] theorem lim0 : (0 : Nat) <= LIM := Nat.zero_le _
@[simp] theorem lim1 : (1 : Nat) <= LIM := by rw [lim_is]; decide
@[simp] theorem lim2 : (2 : Nat) <= LIM := by rw [lim_is]; decide
@[simp] theorem lim3 : (3 : Nat) <= LIM := by rw [lim_is]; decide
@[simp] theorem lim4 : (4 : Nat) <= LIM := by rw [lim_is]; decide
@[simp] theorem lim5 : (5 : Nat) <= LIM := by rw [lim_is]; decide
@[simp] theorem lim6 : (6 : Nat) <= LIM := by rw [lim_is]; decide
@[simp] theorem lim7 : (7 : Nat) <= LIM := by rw [lim_is]; decide
@[simp] theorem lim8 : (8 : Nat) <= LIM := by rw [lim_is]; decide
@[simp] theorem lim9 : (9 : Nat) <= LIM := by rw [lim_is]; decide
@[simp] theorem lim10 : (10 : Nat) <= LIM := by rw [lim_is]; decide
@[simp] theorem lim0' : (0 : Nat) < LIM := by rw [lim_is]; decide
@[simp] theorem dEq_int (neg : Bool) (i j : Int) : dEq neg (.int i) (.int j) = some (.bl (if neg then !decide (i = j) else decide (i = j))) := by
 unfold dEq
 rw [if_pos ⟨by simp [okD], by simp [okD]⟩]
 have : eqD (.int i) (.int j) = decide (i = j) := by simp [eqD]; by_cases h : i = j <;> simp [h]
 rw [this]
@[simp] theorem dEq_bl (neg : Bool) (i j : Bool) : dEq neg (.bl i) (.bl j) = some (.bl (if neg then !decide (i = j) else decide (i = j))) := by
 unfold dEq
 rw [if_pos ⟨by simp [okD], by simp [okD]⟩]
 have : eqD (.bl i) (.bl j) = decide (i = j) := by simp [eqD]; by_cases h : i = j <;> simp [h]
 rw [this]
theorem dens_ints {K : W.Frag} {S : Hp} : ∀ ns : List Int, Dens K S (ns.map D.int) (ns.map V.int)
 | [] => .nil
 | n :: ns => .cons (den_int.mpr rfl) (dens_ints ns)
theorem sp_script {K : W.Frag} {H : Hp} {a : Addr} {ns : List Int} {m : List D -> Option O} {E : XK} (hS : SqL K H a (ns.map V.int)) (h : (m [.scr (ns.map D.int)]).map O.d = some (.bl true)) : spOf K 1 m [.ref a] H (fun v _ => v = .bl true) E := by
 cases q : m [.scr (ns.map D.int)] with
 | none => rw [q] at h; cases h
 | some o =>
  rw [q] at h
  have e : o.d = .bl true := Option.some.inj h
  exact ⟨rfl, H, [.scr (ns.map D.int)], o, Same.refl _, .cons (den_scr.mpr ⟨a, _, rfl, hS, dens_ints ns⟩) .nil, q, fun v fp S' H' z ow _ _ => by
   have dv := ow.denH z.sub
   rw [e] at dv
   exact den_bl.mp dv⟩
end M
namespace L2
open PySem PySem.Spec PyProof.Rows
theorem bt_len : bootBuiltins "len" = some (.builtin "len") := by decide +kernel
theorem bt_sorted : bootBuiltins "sorted" = some (.builtin "sorted") := by decide +kernel
theorem bt_max : bootBuiltins "max" = some (.builtin "max") := by decide +kernel
theorem bt_min : bootBuiltins "min" = some (.builtin "min") := by decide +kernel
theorem bt_sum : bootBuiltins "sum" = some (.builtin "sum") := by decide +kernel
theorem bt_isinstance : bootBuiltins "isinstance" = some (.builtin "isinstance") := by decide +kernel
theorem bt_tuple : bootBuiltins "tuple" = some (.type "tuple") := by decide +kernel
theorem bt_int : bootBuiltins "int" = some (.type "int") := by decide +kernel
theorem bt_bool : bootBuiltins "bool" = some (.type "bool") := by decide +kernel
section
variable {X : Cx}
theorem kit_sub {K : W.Frag} {t T : String} (ht : t ∈ ["NoneType", "bool", "int", "str", "list", "tuple"]) (hT : T ∈ ["bool", "int", "str", "list", "tuple"]) : W.kitOne K (.type t) (.type T) = some (M.subM t T) := by
 simp only [List.mem_cons, List.not_mem_nil, or_false] at ht hT
 rcases ht with rfl | rfl | rfl | rfl | rfl | rfl <;> rcases hT with rfl | rfl | rfl | rfl | rfl <;> kernel_rfl
theorem lex_same : ∀ a b : List Int, Srt.lexI a b = HT.lexLt a b
 | [], [] => rfl
 | [], _ :: _ => rfl
 | _ :: _, [] => rfl
 | x :: xs, y :: ys => by
  rw [HT.lexLt_cons, <- lex_same xs ys]
  rfl
end
end L2
namespace Rev
open PySem
section
variable {prog : Program} {w : World} {A : Around} {s : Shared} {R : Result -> Shared -> Prop} {I : Addr} {fp wr : List Addr} {G : Array GenState -> Array GenState -> Prop} {n : Nat} {P : Nat -> Value -> Prop} {St : Nat -> Shared -> Prop}
end
section
variable {prog : Program} {w : World} {A : Around} {E : Value -> Shared -> Prop} {s : Shared} {I : Addr} {fp wr : List Addr} {G : Array GenState -> Array GenState -> Prop} {n : Nat} {P : Nat -> Value -> Prop} {St : Nat -> Shared -> Prop}
end
end Rev
namespace L2
open PySem PySem.Spec PyProof.Rows
theorem bt_reversed : bootBuiltins "reversed" = some (.type "reversed") := by decide +kernel
section
variable {X : Cx} {tg : Expr}
theorem pi_seq {l : Expr} {tl : TE} (hl : PE X l tl) : PI X tg l (iSeq X.K tl) := by
 intro pins s σ H R I h
 refine thn (hl pins s σ H _ I h) fun v s1 h1 => ?_
 obtain ⟨x, H1, I1, r1, a, e, q⟩ := h1
 subst e
 cases r1
 rcases q with ⟨⟨xs, hq⟩, q⟩ | ⟨⟨xs, hq⟩, q⟩
 ·obtain ⟨its, rv, p, hz⟩ := I1.list hq
  refine wpAny_pyIter_list p.isList ⟨s1.heap.objs.size, [s1.heap.objs.size], _, _, H1, rfl, I1.kept (t' := s1.toks) fun b o e => Heap.get?_push_of_some _ e, turn_list a _, ⟨_, Heap.get?_push_size _ rfl, rfl, rfl⟩, fun b hb => ?_, q⟩
  rw [List.mem_singleton.mp hb]
  exact I1.fpOk (Nat.le_refl _) I1.fresh
 ·obtain ⟨its, rv, p, hz⟩ := I1.tuple hq
  refine wpAny_pyIter_tuple (show s1.heap.IsTuple a its.toArray from p) ⟨s1.heap.objs.size, [s1.heap.objs.size], _, _, H1, rfl, I1.kept (t' := s1.toks) fun b o e => Heap.get?_push_of_some _ e, turn_tuple a _, ⟨_, Heap.get?_push_size _ rfl, rfl, rfl⟩, fun b hb => ?_, q⟩
  rw [List.mem_singleton.mp hb]
  exact I1.fpOk (Nat.le_refl _) I1.fresh
end
section
variable {X : Cx} {tg : Expr}
theorem ints_vals : ∀ {vs : List Value} {ns : List Int}, IntsAre vs ns -> Vals (ns.map V.int) vs
 | _, _, .nil => .nil
 | _, _, .cons n t h => .cons ⟨t, rfl⟩ (ints_vals h)
theorem call_sortedI : CallR X (.builtin "sorted") (rSortedI X.K) := by
 intro pins s σ H xs us Q I r h
 obtain ⟨p, ns, rfl, hS, h64, k⟩ := h
 obtain ⟨u, rfl, ru⟩ := r.one
 cases ru
 obtain ⟨its, rv, pl, hz⟩ := I.list hS
 have hI : IntsAre its ns := intsAre_of rv
 have hl : its.length = ns.length := by have := rv.length; rw [List.length_map] at this; exact this.symm
 refine Srt.sorted_ints' pl.isList hI (by rw [sizeLine_eq]; lia) fun out ms ho perm pw => ?_
 obtain ⟨e, at1⟩ := sortedAll_at s.heap its out
 have fresh : s.heap.objs.size <= s.heap.objs.size + 1 := Nat.le_succ _
 refine ⟨.ref (s.heap.objs.size + 1), upd H (s.heap.objs.size + 1) (.lst (ms.map V.int)), I.laid (t' := s.toks) (fun b o hb => sortedAll_old hb) fresh ?_, rfl, k ms _ perm pw (I.hok.fresh fresh)⟩
 exact ⟨by rw [List.length_map, perm.length_eq, sizeLine_eq]; lia, out.toList, e, ints_vals ho, by simpa using at1⟩
theorem call_sumL (hc : X.calm = true) : CallR X (.builtin "sum") (rSumL X.K) := by
 intro pins s σ H xs us Q I r h
 obtain ⟨p, ns, rfl, hS, q⟩ := h
 obtain ⟨u, rfl, ru⟩ := r.one
 cases ru
 obtain ⟨its, rv, pl, hz⟩ := I.list hS
 have hI : IntsAre its ns := intsAre_of rv
 obtain ⟨ys, e⟩ := hI.allInts.items
 have hl := pl.isList
 have en : ns = ys.toList.map (·.1) := by
  rw [<- nums_intItems, <- e]
  simpa using hI.numsOf.symm
 rw [e] at hl
 refine sum_intListG (I.ok.hd hc) hl fun h' tk t' hk => ⟨.int ns.sum, H, I.kept hk, ⟨t', ?_⟩, q⟩
 rw [preSum_eq, List.take_of_length_le (by simp), en]
end
end L2
namespace HT
open PySem PySem.Spec PyProof.Rows
section
variable {prog : Program} {w : World} {A : Around} {E : Value -> Shared -> Prop} {s : Shared}
end
end HT
namespace L2
open PySem PySem.Spec PyProof.Rows M
theorem Inv.rdl {X : Cx} {pins : List (Addr × Obj)} {σ : St} {H : Hp} {s : Shared} {l : Addr} {xs : List V} (I : Inv X pins σ H s) (h : Rd H l (.lst xs)) : xs.length <= sizeLine /\ ∃ (its : List Value) (n : Nat), Vals xs its /\ xs.length = its.length /\ s.heap.get? l = some { cls := .type "list", data := .seq its.toArray n } := by
 obtain ⟨h1, its, n, r, e⟩ := (show ObjOk X.prog X.w H s.heap l (.lst xs) from h.ok I.hok)
 exact ⟨h1, its, n, r, r.length, e⟩
section
variable {X : Cx}
theorem op_catM : OpR X (binaryOp .Add) rCatM := by
 intro pins s σ H x y v u Q I rx ry h
 obtain ⟨l, b, xs, zs, rfl, rfl, hH, hB, hz, q⟩ := h
 cases rx
 cases ry
 obtain ⟨z, its, n, r, hl, e⟩ := I.rdl hH
 obtain ⟨z2, its2, n2, r2, hl2, e2⟩ := I.rdl hB
 refine PySem.P.add_list e e2 ?_ (by rw [List.size_toArray, List.size_toArray]; lia)
 have ea : its.toArray ++ its2.toArray = (its ++ its2).toArray := by simp
 rw [ea]
 exact ⟨.ref _, _, I.lnew (t' := s.toks) (r.append r2) (by rw [List.length_append]; lia), rfl, q _ I.fresh⟩
theorem op_tupM : OpR X (binaryOp .Add) (rTupM X.K) := by
 intro pins s σ H x y v u Q I rx ry h
 obtain ⟨a, b, xs, ys, rfl, rfl, ha, hb, hz, q1, q2, q⟩ := h
 cases rx
 cases ry
 obtain ⟨its, r1, p1, _⟩ := I.tuple ha
 obtain ⟨its2, r2, p2, _⟩ := I.tuple hb
 have hz2 : its.length + its2.length <= sizeLine := by rw [<- r1.length, <- r2.length]; exact hz
 by_cases hv : its = []
 ·have hx : xs = [] := r1.nil_iff.mp hv
  obtain ⟨⟨cls, dd, data, sl⟩, ho, hc, n, hd⟩ := id p1
  obtain ⟨⟨cls2, dd2, data2, sl2⟩, ho2, hc2, n2, hd2⟩ := id p2
  simp only at hc hd hc2 hd2; subst hc hd hc2 hd2
  exact concat_meets ⟨_, ho, rfl⟩ ⟨_, ho2, rfl⟩ noFill_tuple_add seq_tuple_add PySem.F.slot_tuple_add PySem.F.entry_tuple_add (PySem.F.args_tuple_add_2 (.ref a) (.ref b)) (tuple_addW0 a b its.toArray its2.toArray n n2 dd dd2 sl sl2 (by simp [hv])) ⟨ho, ho2, ⟨.ref b, H, I, rfl, q2 hx⟩⟩
 ·refine HT.cat_tup p1 p2 hv (fun z => ⟨.ref a, H, I, rfl, q1 (r2.nil_iff.mp z)⟩) (fun z => ?_) hz2
  refine ⟨.ref s.heap.objs.size, _, I.laid (t' := s.toks) (o := .tup (xs ++ ys)) (fun b ob e => Heap.get?_push_of_some _ e) (Nat.le_refl _) ?_, rfl, q _ (I.hok.fresh (Nat.le_refl _))⟩
  exact ⟨by rw [List.length_append]; exact hz, _, r1.append r2, IsTup.new _ _⟩
theorem op_strM : OpR X (binaryOp .Add) rStrM := op_add_str
theorem op_addM : OpR X (binaryOp .Add) (rAddM X.K) := op_add.or (op_catM.or (op_tupM.or op_strM))
mutual
def pyD : D -> PyData
 | .non => .none
 | .bl b => .bool b
 | .int i => .int i
 | .str x => .str x
 | .lst l => .list (pyDs l)
 | .tup l => .tuple (pyDs l)
 | _ => .none
def pyDs : List D -> List PyData
 | [] => []
 | d :: l => pyD d :: pyDs l
end
mutual
theorem ok_can : ∀ (n : Nat) (d : D), okD n d = true -> (pyD d).canLay0 = true /\ (pyD d).depth <= n
 | _, .non, _ => by simp [pyD, PyData.canLay0, PyData.depth]
 | _, .bl _, _ => by simp [pyD, PyData.canLay0, PyData.depth]
 | _, .int _, _ => by simp [pyD, PyData.canLay0, PyData.depth]
 | n, .str x, h => by
  have h' : PyData.strOk x = true := by cases n <;> simpa [okD] using h
  simp [pyD, PyData.canLay0, PyData.depth, h']
 | 0, .lst l, h => by simp [okD] at h
 | n + 1, .lst l, h => by
  obtain ⟨a, b⟩ := oks_can n l (by simpa [okD] using h)
  simp only [pyD, PyData.canLay0, PyData.depth]
  exact ⟨a, by lia⟩
 | 0, .tup l, h => by simp [okD] at h
 | n + 1, .tup l, h => by
  obtain ⟨a, b⟩ := oks_can n l (by simpa [okD] using h)
  simp only [pyD, PyData.canLay0, PyData.depth]
  exact ⟨a, by lia⟩
 | n, .ty _, h => by cases n <;> simp [okD] at h
 | n, .scr _, h => by cases n <;> simp [okD] at h
 | n, .ins _ _ _, h => by cases n <;> simp [okD] at h
theorem oks_can : ∀ (n : Nat) (l : List D), okDs n l = true -> PyData.canLayAll0 (pyDs l) = true /\ PyData.depthAll (pyDs l) <= n
 | _, [], _ => by simp [pyDs, PyData.canLayAll0, PyData.depthAll]
 | n, d :: l, h => by
  rw [okDs, Bool.and_eq_true] at h
  obtain ⟨a, b⟩ := ok_can n d h.1
  obtain ⟨c, e⟩ := oks_can n l h.2
  simp only [pyDs, PyData.canLayAll0, PyData.depthAll, a, c]
  exact ⟨rfl, by lia⟩
end
mutual
theorem eqv_is : ∀ (n m : Nat) (d e : D), okD n d = true -> okD m e = true -> PyData.eqv (pyD d) (pyD e) = eqD d e
 | n, m, .non, e, _, he => by cases e <;> first | (simp [pyD, PyData.eqv, eqD]; done) | (cases m <;> simp [okD] at he)
 | n, m, .bl _, e, _, he => by cases e <;> first | (simp [pyD, PyData.eqv, eqD]; done) | (cases m <;> simp [okD] at he)
 | n, m, .int _, e, _, he => by cases e <;> first | (simp [pyD, PyData.eqv, eqD]; done) | (cases m <;> simp [okD] at he)
 | n, m, .str _, e, _, he => by cases e <;> first | (simp [pyD, PyData.eqv, eqD]; done) | (cases m <;> simp [okD] at he)
 | 0, m, .lst _, e, hd, he => by simp [okD] at hd
 | n + 1, m, .lst l, e, hd, he => by
  cases e with
  | lst l' =>
   cases m with
   | zero => simp [okD] at he
   | succ m =>
    simp only [pyD, PyData.eqv, eqD]
    exact eqvs_is n m l l' (by simpa [okD] using hd) (by simpa [okD] using he)
  | _ => first | (simp [pyD, PyData.eqv, eqD]; done) | (cases m <;> simp [okD] at he)
 | 0, m, .tup _, e, hd, he => by simp [okD] at hd
 | n + 1, m, .tup l, e, hd, he => by
  cases e with
  | tup l' =>
   cases m with
   | zero => simp [okD] at he
   | succ m =>
    simp only [pyD, PyData.eqv, eqD]
    exact eqvs_is n m l l' (by simpa [okD] using hd) (by simpa [okD] using he)
  | _ => first | (simp [pyD, PyData.eqv, eqD]; done) | (cases m <;> simp [okD] at he)
 | n, _, .ty _, _, h, _ => by cases n <;> simp [okD] at h
 | n, _, .scr _, _, h, _ => by cases n <;> simp [okD] at h
 | n, _, .ins _ _ _, _, h, _ => by cases n <;> simp [okD] at h
theorem eqvs_is : ∀ (n m : Nat) (l l' : List D), okDs n l = true -> okDs m l' = true -> PyData.eqvAll (pyDs l) (pyDs l') = eqDs l l'
 | _, _, [], [], _, _ => by simp [pyDs, PyData.eqvAll, eqDs]
 | _, _, [], _ :: _, _, _ => by simp [pyDs, PyData.eqvAll, eqDs]
 | _, _, _ :: _, [], _, _ => by simp [pyDs, PyData.eqvAll, eqDs]
 | n, m, d :: l, e :: l', hd, he => by
  rw [okDs, Bool.and_eq_true] at hd he
  rw [pyDs, pyDs, PyData.eqvAll, eqDs, eqv_is n m d e hd.1 he.1, eqvs_is n m l l' hd.2 he.2]
end
mutual
theorem den_reads {pins : List (Addr × Obj)} {σ : St} {H : Hp} {s : Shared} (I : Inv X pins σ H s) : ∀ (n : Nat) {d : D} {x : V} {v : Value}, okD n d = true -> Den X.K H d x -> RelV x v -> ∃ as, Reads s.heap v (pyD d) as
 | _, .non, x, v, _, dx, r => by rw [den_non.mp dx] at r; cases r; exact ⟨_, .none⟩
 | _, .bl b, x, v, _, dx, r => by rw [den_bl.mp dx] at r; cases r; exact ⟨_, .bool b⟩
 | _, .int i, x, v, _, dx, r => by rw [den_int.mp dx] at r; obtain ⟨t, rfl⟩ := r; exact ⟨_, .int i t⟩
 | _, .str y, x, v, _, dx, r => by rw [den_str.mp dx] at r; obtain ⟨t, rfl⟩ := r; exact ⟨_, .str y t⟩
 | 0, .lst _, x, v, h, dx, r => by simp [okD] at h
 | n + 1, .lst l, x, v, h, dx, r => by
  obtain ⟨p, xs, rfl, hp, ds⟩ := den_lst.mp dx
  cases r
  obtain ⟨_, its, k, rv, _, e⟩ := I.rdl hp
  obtain ⟨as, ra⟩ := dens_reads I n (by simpa [okD] using h) ds rv
  exact ⟨_, .list e rfl rfl (by simpa using ra)⟩
 | 0, .tup _, x, v, h, dx, r => by simp [okD] at h
 | n + 1, .tup l, x, v, h, dx, r => by
  obtain ⟨p, xs, rfl, hp, ds⟩ := den_tupS dx
  cases r
  obtain ⟨its, rv, ⟨o, e, c, k, d⟩, _⟩ := I.tuple hp
  obtain ⟨as, ra⟩ := dens_reads I n (by simpa [okD] using h) ds rv
  exact ⟨_, .tuple e c d (by simpa using ra)⟩
 | n, .ty _, _, _, h, _, _ => by cases n <;> simp [okD] at h
 | n, .scr _, _, _, h, _, _ => by cases n <;> simp [okD] at h
 | n, .ins _ _ _, _, _, h, _, _ => by cases n <;> simp [okD] at h
theorem dens_reads {pins : List (Addr × Obj)} {σ : St} {H : Hp} {s : Shared} (I : Inv X pins σ H s) : ∀ (n : Nat) {ds : List D} {xs : List V} {vs : List Value}, okDs n ds = true -> Dens X.K H ds xs -> Vals xs vs -> ∃ as, ReadsAll s.heap vs (pyDs ds) as
 | _, [], xs, vs, _, d, r => by
  rw [d.nil_of] at r
  cases r
  exact ⟨_, .nil⟩
 | n, d :: ds, xs, vs, h, dd, r => by
  rw [okDs, Bool.and_eq_true] at h
  obtain ⟨y, ys, rfl, a, b⟩ := dd.cons_of
  cases r with
  | cons r rr =>
   obtain ⟨as, ra⟩ := den_reads I n h.1 a r
   obtain ⟨bs, rb⟩ := dens_reads I n h.2 b rr
   exact ⟨_, .cons ra rb⟩
end
theorem op_eqM (hu : X.A.units + 64 < cLine) : OpR X (compareOp .Eq) (rEqM X.K false) := by
 intro pins s σ H x y v u Q I rx ry h
 obtain ⟨S, d, e, sm, dx, dy, cd, ce, q⟩ := h
 obtain ⟨as, ra⟩ := den_reads I 50 cd (denP_H sm dx) rx
 obtain ⟨bs, rb⟩ := den_reads I 50 ce (denP_H sm dy) ry
 obtain ⟨a1, a2⟩ := ok_can 50 d cd
 obtain ⟨b1, b2⟩ := ok_can 50 e ce
 have hm := Nat.min_le_left (pyD d).depth (pyD e).depth
 refine SeqAt.compareEq_reads ra rb a1 b1 (by lia) ⟨.bl _, H, I, rfl, ?_⟩
 rw [eqv_is 50 50 d e cd ce]
 exact q
theorem op_neM (hu : X.A.units + 64 < cLine) : OpR X (compareOp .NotEq) (rEqM X.K true) := by
 intro pins s σ H x y v u Q I rx ry h
 obtain ⟨S, d, e, sm, dx, dy, cd, ce, q⟩ := h
 obtain ⟨as, ra⟩ := den_reads I 50 cd (denP_H sm dx) rx
 obtain ⟨bs, rb⟩ := den_reads I 50 ce (denP_H sm dy) ry
 obtain ⟨a1, a2⟩ := ok_can 50 d cd
 obtain ⟨b1, b2⟩ := ok_can 50 e ce
 have hm := Nat.min_le_left (pyD d).depth (pyD e).depth
 refine SeqAt.compareNe_reads ra rb a1 b1 (by lia) ⟨.bl _, H, I, rfl, ?_⟩
 rw [eqv_is 50 50 d e cd ce]
 exact q
theorem call_lenM : CallR X (.builtin "len") (rLenM X.K) := call_len
theorem call_isiM : CallR X (.builtin "isinstance") (rIsiM X.K) := by
 intro pins s σ H xs us Q I r h
 obtain ⟨x, T, t, rfl, ht, hm, q⟩ := h
 obtain ⟨u, w', rfl, ru, rw'⟩ := r.two
 cases rw'
 have fin : ∀ tk : Nat, EP X pins σ Q (.bool (subM t T)) { s with toks := tk } := fun tk => ⟨.bl _, H, I.tok tk, rfl, q⟩
 cases x with
 | non => cases ht; exact isinst_ok I ru .non (kit_sub (by decide) hm) fin
 | bl b => cases ht; exact isinst_ok I ru (.bl b) (kit_sub (by decide) hm) fin
 | int i => cases ht; exact isinst_ok I ru (.int i) (kit_sub (by decide) hm) fin
 | str y => cases ht; exact isinst_ok I ru (.str y) (kit_sub (by decide) hm) fin
 | ref p =>
  cases ru
  rcases ht with ⟨rfl, xs, h⟩ | ⟨rfl, xs, h⟩
  ·obtain ⟨_, its, n, rv, _, e⟩ := I.rdl h
   exact W.kia_one W.kitx_list I.kIn ⟨_, e, rfl⟩ (kit_sub (by decide) hm) (fun z => nomatch z) fin
  ·obtain ⟨its, rv, ⟨o, e, c, _⟩, _⟩ := I.tuple h
   exact W.kia_one W.kitx_tuple I.kIn ⟨o, e, c⟩ (kit_sub (by decide) hm) (fun z => nomatch z) fin
 | _ => exact (show False from ht).elim
theorem mt_extM : MtM X "list.extend" rExtM := by
 intro pins s σ H x vs v us Q I rx rv h
 obtain ⟨l, b, xs, zs, rfl, rfl, hH, hB, hz, q⟩ := h
 cases rx
 obtain ⟨u, rfl, ru⟩ := rv.one
 cases ru
 obtain ⟨z, its, n, r, hl, e⟩ := I.lstM hH
 obtain ⟨z2, its2, n2, r2, hl2, e2⟩ := I.rdl hB
 have hsz : its.toArray.size + its2.toArray.size <= sizeLine := by rw [List.size_toArray, List.size_toArray]; lia
 have hlong : ¬ (!its.toArray.isEmpty && Builtin.List.listTooLong (its.toArray.size + its2.toArray.size)) = true := by
  rw [notLongL hsz, Bool.and_false]
  exact Bool.false_ne_true
 refine call_meets F.slot_list_extend ⟨_, e, rfl⟩ F.entry_list_extend (F.args_list_extend_2 _ _)
  (AutoSeq1.list_extend_list_list_0 l its.toArray n b its2.toArray n2 hlong (by rw [List.size_toArray]; lia) (by lia)) ⟨e, e2, ?_⟩
 refine ⟨.non, _, I.lset (its' := its ++ its2) hH e (by simp) (r.append r2) ?_, rfl, q⟩
 rw [List.length_append]
 lia
theorem call_sortM : CallR X (.builtin "sorted") (rSortM X.K) := by
 intro pins s σ H xs us Q I r h
 obtain ⟨p, yks, rfl, hS, h64, hk, k⟩ := h
 obtain ⟨u, rfl, ru⟩ := r.one
 cases ru
 obtain ⟨its, rv, pl, hz⟩ := I.list hS
 have hl : yks.length = its.length := by rw [<- rv.length, List.length_map]
 have atI : ∀ i, i < its.length -> ∃ yk, yks[i]? = some yk /\ yks.getD i (.non, []) = yk /\ RelV yk.1 (its.getD i Value.none) := fun i hi => by
  have ey : yks[i]? = some yks[i] := List.getElem?_eq_getElem (by lia)
  have ex : (yks.map (·.1))[i]? = some yks[i].1 := by rw [List.getElem?_map, ey]; rfl
  obtain ⟨v, ev, rl⟩ := rv.get ex
  exact ⟨_, ey, by rw [List.getD_eq_getElem?_getD, ey]; rfl, by rw [List.getD_eq_getElem?_getD, ev]; exact rl⟩
 have tup : ∀ i, i < its.length -> Srt.TupI s.heap (its.getD i Value.none) (yks.getD i (.non, [])).2 /\ (yks.getD i (.non, [])).2 ≠ [] := fun i hi => by
  obtain ⟨yk, e1, e2, rl⟩ := atI i hi
  obtain ⟨q, e3, e4, e5⟩ := hk _ (List.mem_of_getElem? e1)
  rw [e2]
  refine ⟨?_, e5⟩
  rw [e3] at rl
  have rl' : its.getD i Value.none = Value.ref q := rl
  obtain ⟨js, rj, ⟨o, ho, hc, n, hd⟩, _⟩ := I.tuple e4
  refine ⟨q, o, js.toArray, n, rl', ho, hc, hd, ?_⟩
  simpa using intsAre_of rj
 refine Srt.sorted_by (Srt.lexI_ord fun i => (yks.getD i (.non, [])).2) pl.isList (by rw [sizeLine_eq]; lia) (Srt.known_tups tup) fun q hq ha => ?_
 obtain ⟨pv, pw⟩ := Srt.out_ok (vs := its) (d := Value.none) hq ha
 rw [<- hl] at hq ha
 obtain ⟨py, wy⟩ := Srt.out_ok (vs := yks) (d := ((V.non, []) : V × List Int)) hq ha
 obtain ⟨e, at1⟩ := sortedAll_at s.heap its (Srt.outOf its q)
 have hv : Vals ((q.toList.map fun i => yks.getD i (.non, [])).map (·.1)) (q.toList.map fun i => its.getD i Value.none) := by
  have hb : ∀ i ∈ q.toList, i < its.length := fun i hi => by
   have : i < yks.length := by simpa using (Array.perm_iff_toList_perm.mp hq).mem_iff.mp hi
   lia
  revert hb
  generalize q.toList = L
  induction L with
  | nil => exact fun _ => .nil
  | cons i L ih =>
   intro hb
   refine .cons ?_ (ih fun j hj => hb j (List.mem_cons_of_mem _ hj))
   obtain ⟨yk, _, e2, rl⟩ := atI i (hb i List.mem_cons_self)
   dsimp only
   rw [e2]
   exact rl
 have fresh : s.heap.objs.size <= s.heap.objs.size + 1 := Nat.le_succ _
 refine ⟨.ref (s.heap.objs.size + 1), upd H (s.heap.objs.size + 1) (.lst ((q.toList.map fun i => yks.getD i (.non, [])).map (·.1))), I.laid (t' := s.toks) (fun b o hb => sortedAll_old hb) fresh ?_, rfl, ?_⟩
 ·refine ⟨by rw [List.length_map, py.length_eq, sizeLine_eq]; lia, _, e, hv, at1⟩
 ·refine k _ _ py (wy _ fun i j _ _ h => ?_) (I.hok.fresh fresh)
  rw [<- lex_same]
  exact h
theorem call_sortedM : CallR X (.builtin "sorted") (rSortedM X.K) := call_sortedI.or call_sortM
end
end L2
namespace M
def dStep (a : List Int) (k : Int) : List Int := if a.any (· == k) then a else a ++ [k]
def dist (ns : List Int) : List Int := ns.foldl dStep []
end M
namespace L2
open PySem
section
variable {X : Cx}
end
end L2
namespace M
open PySem L2
section
variable {K : W.Frag}
end
end M
namespace L2
open PySem M
end L2
namespace M
open PySem L2
@[simp] def xLenSet (a : XE) : XE := fun ρ => (a ρ).bind fun d => match d with | .lst l => (intsOf l).bind fun ns => if ns.length < 4000 then some (.int ((dist ns).length : Nat)) else none | _ => none
end M
namespace L2
open PySem
def ClsN (K : W.Frag) (Ns : List Str) (P : Addr -> Prop) : Prop := ∀ N ∈ Ns, ∀ C, W.nsIn K mainGlobals N = some (some (.ref C)) -> P C
def InsN (K : W.Frag) (Ns : List Str) (H : Hp) (x : V) (a : Addr) (C dx : Addr) (fs : List (Str × V)) : Prop := x = .ref a /\ (∃ N ∈ Ns, W.nsIn K mainGlobals N = some (some (.ref C))) /\ H a = some (.ins C dx fs)
def tFldN (K : W.Frag) (Ns : List Str) (ta : TE) (f : Str) : TE := fun σ H Q => ta σ H fun x H1 => ∃ a C dx fs v, InsN K Ns H1 x a C dx fs /\ fs.lookup f = some v /\ Q v H1
def tMethN (K : W.Frag) (Ns : List Str) (m : Str) (sp : Sp) (ta : TE) (t : TA) : TE := fun σ H Q => ta σ H fun x H1 => ∃ a C dx fs, InsN K Ns H1 x a C dx fs /\ fs.lookup m = none /\ t σ H1 fun vs H2 => sp (x :: vs) H2 Q E0
def tMakeN (K : W.Frag) (N : Str) (sp : Sp) (t : TA) : TE := fun σ H Q => ∀ C, W.nsIn K mainGlobals N = some (some (.ref C)) -> tMake C sp [] E0 t σ H Q
section
variable {X : Cx} {o e : Expr} {es : List Expr} {f m : Str} {pos apos p : Pos} {ta : TE} {t : TA} {Ns : List Str} {k : Nat} {g C : Addr} {fd : FuncData} {ps : List Str} {sp : Sp}
theorem pe_fldN (hc : ClsN X.K Ns fun C => Cls X.K C /\ NoAttr X.K C f) (he : PE X e ta) (hb : attributeBase e f X.env (eval e X.env) = eval e X.env) : PE X (.Attribute e f pos) (tFldN X.K Ns ta f) := by
 intro pins s σ H Q I h
 refine attr_of hb (thn (he pins s σ H _ I h) fun u s1 hpt9 => ?_)
 obtain ⟨x, H1, I1, rx, a, C, dx, fs, v, ⟨ex, ⟨N, hN, hC⟩, ea⟩, l, q⟩ := hpt9
 subst ex
 have eu : u = Value.ref a := rx
 subst eu
 obtain ⟨c, n⟩ := hc N hN C hC
 exact getattr_ok I1 ea c n l fun u' s2 I2 ru => ⟨v, H1, I2, ru, q⟩
theorem pe_methN {pl : Sem Bool} (hc : ClsN X.K Ns fun C => Cls X.K C /\ Meth X.K C m g) (F : FnOk X.prog X.w X.K X.mg X.base CX0 k g fd ps sp) (hr : Room k X.A) (hb : Binds X.K fd ps []) (hx : Passes CX0 X E0) (he : PE X o ta) (ha : PA X (e :: es) t)
  (hst : starEach (e :: es) X.env = (false, eval e X.env) :: starEach es X.env := by rfl) (hpl : (backTo pos (starEach es X.env)).any (·.1) = false := by rfl)
  (ht : eval (.Call (.Attribute o m apos) (e :: es) [] pos) X.env = (do
   let ov ← eval o X.env
   standAt apos.atName
   let (f, first) ← holding [ov] (getMethod ov m pl)
   callWith pos f first (backTo pos (starEach (e :: es) X.env)) (backToKw pos (keywordEach [] X.env))) := by rfl) :
  PE X (.Call (.Attribute o m apos) (e :: es) [] pos) (tMethN X.K Ns m sp ta t) := by
 intro pins s σ H Q I h
 refine W.methodCall_KW (pl := pl) (thn (he pins s σ H _ I h) fun u s1 hpt9 => ?_) ht
 obtain ⟨x, H1, I1, rx, a, C, dx, fs, ⟨ex, ⟨N, hN, hC⟩, ea⟩, l, q⟩ := hpt9
 subst ex
 have eu : u = Value.ref a := rx
 subst eu
 obtain ⟨c, hm⟩ := hc N hN C hC
 refine getmeth_ok I1 ea c hm l ?_
 refine W.callWith_K (first := [.ref a]) (h₀ := X.base) I.ok.mod.kin hm.kp (thn (ha pos pins s1 σ H1 _ I1 q) fun us s2 ⟨vs, H2, I2, r, q2⟩ => ⟨I2.kIn, ?_⟩) hst hpl
 exact run_fn (us := .ref a :: us) (vs := .ref a :: vs) (dvs := []) F hr hb .nil hx I2 (.cons rfl r) (by rw [List.append_nil]; exact q2)
structure ClsFn (K : W.Frag) (C : Addr) (m : Str) (f : Addr) : Prop where
 sp : W.specialIn K (.ref C) "__getattribute__" = some (some (.builtin "type.__getattribute__"))
 rd : W.readsIn K C (.type "type") = true
 fn : W.findCls K (.ref C) (.type "type") m = some (.val (.ref f))
 kp : W.keepIn K (.ref f) = true
theorem pe_clsCall {pl : Sem Bool} {B : Str} (cf : ClsFn X.K C m g) (gB : Gl X B) (hm : X.mg B = some (.ref C)) (F : FnOk X.prog X.w X.K X.mg X.base CX0 k g fd ps sp) (hr : Room k X.A) (hb : Binds X.K fd ps []) (hx : Passes CX0 X E0) (ha : PA X (e :: es) t) (hdb : (B == ("__debug__" : Str)) = false := by decide)
  (hst : starEach (e :: es) X.env = (false, eval e X.env) :: starEach es X.env := by rfl) (hpl : (backTo pos (starEach es X.env)).any (·.1) = false := by rfl)
  (ht : eval (.Call (.Attribute (.Name B p) m apos) (e :: es) [] pos) X.env = (do
   let ov ← eval (.Name B p) X.env
   standAt apos.atName
   let (f, first) ← holding [ov] (getMethod ov m pl)
   callWith pos f first (backTo pos (starEach (e :: es) X.env)) (backToKw pos (keywordEach [] X.env))) := by rfl) :
  PE X (.Call (.Attribute (.Name B p) m apos) (e :: es) [] pos) (tCall sp [] E0 t) := by
 intro pins s σ H Q I h
 refine W.methodCall_KW (pl := pl) (thn (pe_glob (v := .ref C) gB hm rfl hdb pins s σ H (fun x H1 => x = .ref C /\ H1 = H) I ⟨rfl, rfl⟩) fun u s1 hpt9 => ?_) ht
 obtain ⟨x, H1, I1, rx, ex, eH⟩ := hpt9
 subst ex
 subst eH
 have eu : u = Value.ref C := rx
 subst eu
 refine W.method_cls I1.kIn cf.sp (W.cls_value I1.kIn cf.rd cf.fn rfl ?_)
 refine W.callWith_K (first := []) (h₀ := X.base) I.ok.mod.kin cf.kp (thn (ha pos pins _ σ H1 _ (I1.tok _) h) fun us s2 ⟨vs, H2, I2, r, q2⟩ => ⟨I2.kIn, ?_⟩) hst hpl
 exact run_fn F hr hb .nil hx I2 r q2
theorem pe_makeN {N : Str} (hN : W.nsIn X.K mainGlobals N = some (some (.ref C))) (M : Mk X.K C g) (F : FnOk X.prog X.w X.K X.mg X.base CX0 k g fd ps sp) (hr : Room (k + 1) X.A) (hg : Gl X N) (hm : X.mg N = some (.ref C)) (hb : Binds X.K fd ps []) (hx : Passes CX0 X E0)
  (ha : PA X (e :: es) t) (hdb : (N == ("__debug__" : Str)) = false := by decide) (he : starEach (e :: es) X.env = (false, eval e X.env) :: starEach es X.env := by rfl) (hpl : (backTo pos (starEach es X.env)).any (·.1) = false := by rfl) :
  PE X (.Call (.Name N p) (e :: es) [] pos) (tMakeN X.K N sp t) := fun a b c d q I h => pe_make M F hr hg hm hb .nil hx ha hdb he hpl a b c d q I (h C hN)
end
end L2
namespace M
open PySem L2
section
variable {K : W.Frag} {S S' H H' : Hp}
def fldD : List Str -> List D -> Str -> Option D
 | n :: ns, d :: l, f => if f = n then some d else fldD ns l f
 | _, _, _ => none
theorem fld_of : ∀ {fs : List (Str × V)} {l : List D} {f : Str} {d : D}, Dens K S l (fs.map (·.2)) -> fldD (fs.map (·.1)) l f = some d -> ∃ v, fs.lookup f = some v /\ Den K S d v
 | [], l, f, d, h, e => by
  cases l <;> simp [fldD] at e
 | (n, v) :: fs, l, f, d, h, e => by
  cases l with
  | nil => simp [fldD] at e
  | cons a l =>
   obtain ⟨y, ys, e1, h1, h2⟩ := h.cons_of
   rw [List.map_cons] at e1
   cases e1
   rw [List.map_cons, fldD] at e
   by_cases hf : f = n
   ·rw [if_pos hf] at e
    cases e
    exact ⟨v, by simp [List.lookup, hf], h1⟩
   ·rw [if_neg hf] at e
    obtain ⟨w, q1, q2⟩ := fld_of h2 e
    have hb : (f == n) = false := by simpa using hf
    exact ⟨w, by simp [List.lookup, hb, q1], q2⟩
theorem fld_no : ∀ {fs : List (Str × V)} {f : Str}, (fs.map (·.1)).contains f = false -> fs.lookup f = none
 | [], _, _ => rfl
 | (n, v) :: fs, f, h => by
  simp at h
  have hb : (f == n) = false := by simpa using h.1
  rw [List.lookup, hb]
  exact fld_no (by simpa using h.2)
@[simp] def xFld (Ns : List Str) (f : Str) (e : XE) : XE := fun ρ => (e ρ).bind fun d => match d with | .ins N ns l => if Ns.contains N then fldD ns l f else none | _ => none
theorem s_fld {Ns : List Str} {f : Str} {ta : TE} {e : XE} (h : SE K ta e) : SE K (tFldN K Ns ta f) (xFld Ns f e) := fun ρ σ S H Q d r x k => by
 unfold xFld at x
 cases q : e ρ with
 | none => rw [q] at x; cases x
 | some d0 =>
  rw [q] at x
  dsimp only [Option.bind] at x
  cases d0 <;> try (cases x; done)
  rename_i N ns l
  dsimp only at x
  split at x
  ·rename_i hc
   refine h ρ σ S H _ _ r q fun v S1 H1 z1 d1 => ?_
   obtain ⟨p, C, dx, fs, rfl, hC, h1, h2, h3⟩ := den_ins.mp d1
   subst h2
   obtain ⟨w, w1, w2⟩ := fld_of h3 x
   exact ⟨p, C, dx, fs, w, ⟨rfl, ⟨N, by simpa using hc, hC⟩, z1.sub _ _ h1⟩, w1, k w S1 H1 z1 w2⟩
  ·cases x
@[simp] def xMeth (Ns : List Str) (m : Str) (g : List D -> Option D) (e : XE) (a : XA) : XE := fun ρ => (e ρ).bind fun d => match d with | .ins N ns l => if Ns.contains N && !ns.contains m then (a ρ).bind fun ds => g (.ins N ns l :: ds) else none | _ => none
theorem s_meth {Ns : List Str} {m : Str} {n : Nat} {g : List D -> Option O} {ta : TE} {t : TA} {e : XE} {a : XA} (h : SE K ta e) (ha : SA K t a) (hn : ∀ ρ ds, a ρ = some ds -> ds.length = n) : SE K (tMethN K Ns m (spOf K (n + 1) g) ta t) (xMeth Ns m (fun ds => (g ds).map O.d) e a) := fun ρ σ S H Q d r x k => by
 unfold xMeth at x
 cases q : e ρ with
 | none => rw [q] at x; cases x
 | some d0 =>
  rw [q] at x
  dsimp only [Option.bind] at x
  cases d0 <;> try (cases x; done)
  rename_i N ns l
  dsimp only at x
  split at x
  ·rename_i hc
   rw [Bool.and_eq_true] at hc
   cases qa : a ρ with
   | none => rw [qa] at x; cases x
   | some ds =>
    rw [qa] at x
    dsimp only at x
    cases qg : g (.ins N ns l :: ds) with
    | none => rw [qg] at x; cases x
    | some o =>
     rw [qg] at x
     cases x
     refine h ρ σ S H _ _ r q fun v S1 H1 z1 d1 => ?_
     obtain ⟨p, C, dx, fs, rfl, hC, h1, h2, h3⟩ := den_ins.mp d1
     refine ⟨p, C, dx, fs, ⟨rfl, ⟨N, by simpa using hc.1, hC⟩, z1.sub _ _ h1⟩, fld_no (by rw [h2]; simpa using hc.2), ?_⟩
     refine ha ρ σ S1 H1 _ ds (r.ext z1) qa fun vs S2 H2 z2 d2 => ?_
     have dd : Dens K S2 (.ins N ns l :: ds) (.ref p :: vs) := .cons (d1.mono z2.sh) d2
     refine ⟨by rw [List.length_cons, <- d2.length, hn ρ ds qa], S2, _, o, z2.sub, dd, qg, fun v fp S3 H3 z3 ow nd fr => ?_⟩
     exact k v _ H3 ((z1.trans z2).trans (frzS_ext z3 fr)) (ow.den (frzS_same fun b hb => (fr b hb).2) fun b hb => frzS_in hb)
  ·cases x
def spIni (K : W.Frag) (Ns : List Str) (f : Str) (n : Nat) (mi : List D -> Option D) : Sp := fun vs H Q _ => vs.length = n + 1 /\ ∃ x rest C dx S ds d, vs = .ref x :: rest /\ H x = some (.ins C dx []) /\ (∃ N ∈ Ns, W.nsIn K mainGlobals N = some (some (.ref C))) /\ S x = none /\ Same S H /\ Dens K S ds rest /\ mi ds = some d /\
 ∀ S' H' v, Ext S H S' H' -> Den K S' d v -> Q .non (upd H' x (.ins C dx [(f, v)]))
def ini1 : List D -> Option D
 | [d] => some d
 | _ => none
theorem ini_base {Ns : List Str} {f : Str} {vs : List V} {H : Hp} {Q : VK} {E : XK} (hc : ClsN K Ns fun C => Cls K C /\ NoAttr K C f) {N : List Str} (h : spIni K Ns f 1 ini1 vs H Q E) : sFld K (tVar 0) (tVar 1) f { nx := fun _ H' => Q .non H', rt := Q } (L2.start N vs) H := by
 obtain ⟨_, x, rest, C, dx, S, ds, d, rfl, hx, ⟨M, hM, hC⟩, nS, sub, dd, e, k⟩ := h
 match ds, e with
 | [d'], e =>
  cases e
  obtain ⟨v, ys, rfl, dv, dn⟩ := dd.cons_of
  cases dn.nil_of
  obtain ⟨c, n⟩ := hc M hM C hC
  exact ⟨v, rfl, .ref x, rfl, x, C, dx, [], rfl, hx, c, n, by decide, k S H v (Ext.refl sub) dv⟩
theorem rl_self {x : Addr} {ds : List D} {vs : List V} (s : Same S H) (h : Dens K S ds vs) : Rl K (.lo :: ds.map .sh) (some (.ref x) :: vs.map some) S H := by
 have hl := h.length
 refine ⟨fun _ => none, fun i => if i = 0 then some x else none, fun _ => [], ?_⟩
 have ge : ∀ (i : Nat) t, (Sl.lo :: ds.map Sl.sh)[i]? = some t -> (i = 0 /\ t = .lo) \/ ∃ d v, t = .sh d /\ (some (V.ref x) :: vs.map some)[i]? = some (some v) /\ Den K S d v := fun i t ht => by
  cases i with
  | zero => cases ht; exact .inl ⟨rfl, rfl⟩
  | succ i =>
   rw [List.getElem?_cons_succ, List.getElem?_map] at ht
   cases q : ds[i]? with
   | none => rw [q] at ht; cases ht
   | some d =>
    rw [q] at ht
    cases ht
    obtain ⟨v, e1, e2⟩ := h.get q
    refine .inr ⟨d, v, rfl, ?_, e2⟩
    rw [List.getElem?_cons_succ, List.getElem?_map, e1]
    rfl
 exact {
  len := by rw [List.length_cons, List.length_cons, List.length_map, List.length_map, hl]
  sub := s
  sh := fun i d hi => by
   rcases ge i _ hi with ⟨_, e⟩ | ⟨d', v, e, h1, h2⟩
   ·cases e
   ·cases e; exact ⟨v, h1, h2⟩
  ow := fun i o hi => by
   rcases ge i _ hi with ⟨_, e⟩ | ⟨d', v, e, h1, h2⟩
   ·cases e
   ·cases e
  dj := fun i j o o' _ hi _ => by
   rcases ge i _ hi with ⟨_, e⟩ | ⟨d', v, e, h1, h2⟩
   ·cases e
   ·cases e
  lo := fun i hi => by
   rcases ge i _ hi with ⟨rfl, e⟩ | ⟨d', v, e, h1, h2⟩
   ·exact ⟨x, rfl, rfl⟩
   ·cases e
  asub := fun b o e => by cases e
  adis := fun b => .inr rfl }
def iniT (xt : XT) (xe : XE) (ds : List D) : Option D := if xt (.lo :: ds.map .sh) = some false then xe (.lo :: ds.map .sh) else none
theorem ini_call {Ns : List Str} {f : Str} {te : TE} {xe : XE} {x : Addr} {rest : List V} {C dx : Addr} {ds : List D} {d : D} {S H : Hp} {Dd : _} {Q : VK} (he : SE K te xe) (sub : Same S H) (dd : Dens K S ds rest) (hx : H x = some (.ins C dx [])) (hc : ∃ N ∈ Ns, W.nsIn K mainGlobals N = some (some (.ref C))) (nS : S x = none)
  (e : xe (.lo :: ds.map .sh) = some d) (hD : Dd = ({ nx := fun _ H' => Q .non H', rt := Q } : _)) (k : ∀ S' H' v, Ext S H S' H' -> Den K S' d v -> Q .non (upd H' x (.ins C dx [(f, v)]))) :
  tDrop (tCall (spIni K Ns f 1 ini1) [] E0 (tCons (tVar 0) (tCons te tNil))) Dd (some (.ref x) :: rest.map some) H := by
 subst hD
 refine ⟨.ref x, rfl, he _ _ S H _ d (rl_self sub dd) e fun v S1 H1 z1 d1 => ?_⟩
 refine ⟨rfl, x, [v], C, dx, S1, [d], d, rfl, (z1.al x _ hx nS).1, hc, (z1.al x _ hx nS).2, z1.sub, .cons d1 .nil, rfl, fun S2 H2 w z2 d2 => k S2 H2 w (z1.trans z2) d2⟩
theorem ini_test {Ns : List Str} {f : Str} {n : Nat} {tt : TT} {xt : XT} {te : TE} {xe : XE} {N : List Str} {vs : List V} {H : Hp} {Q : VK} {E : XK} (ht : ST K tt xt) (he : SE K te xe) (hN : N.length = n + 1) (h : spIni K Ns f n (iniT xt xe) vs H Q E) :
  tSeq (tIfS tt tNever tNext) (tDrop (tCall (spIni K Ns f 1 ini1) [] E0 (tCons (tVar 0) (tCons te tNil)))) { nx := fun _ H' => Q .non H', rt := Q } (L2.start N vs) H := by
 obtain ⟨hl, x, rest, C, dx, S, ds, d, rfl, hx, hc, nS, sub, dd, e, k⟩ := h
 have es : L2.start N (.ref x :: rest) = some (.ref x) :: rest.map some := by
  unfold L2.start
  rw [hl, hN, Nat.sub_self]
  simp
 unfold iniT at e
 split at e
 ·rename_i q
  rw [es]
  refine ht _ _ S H _ false (rl_self sub dd) q fun S1 H1 z1 => ?_
  rw [if_neg Bool.false_ne_true]
  exact ini_call he z1.sub (dd.mono z1.sh) (z1.al x _ hx nS).1 hc (z1.al x _ hx nS).2 e rfl fun S2 H2 w z2 d2 => k S2 H2 w (z1.trans z2) d2
 ·cases e
@[simp] def xMake (N f : Str) (mi : List D -> Option D) (a : XA) : XE := fun ρ => ((a ρ).bind mi).map fun d => .ins N [f] [d]
theorem s_make {Ns : List Str} {N f : Str} {n : Nat} {mi : List D -> Option D} {t : TA} {a : XA} (hN : N ∈ Ns) (h : SA K t a) (hn : ∀ ρ ds, a ρ = some ds -> ds.length = n) : SE K (tMakeN K N (spIni K Ns f n mi) t) (xMake N f mi a) := fun ρ σ S H Q d r x k C hC => by
 unfold xMake at x
 cases q : a ρ with
 | none => rw [q] at x; cases x
 | some ds =>
  rw [q] at x
  dsimp only [Option.bind] at x
  cases q2 : mi ds with
  | none => rw [q2] at x; cases x
  | some d0 =>
   rw [q2] at x
   cases x
   refine h ρ σ S H _ ds r q fun vs S1 H1 z1 d1 => ?_
   intro x dx nx ndx nex
   have s0 : Same S1 (upd (upd H1 dx (.own x)) x (.ins C dx [])) := fun b o e => by
    have e' := z1.sub b o e
    rw [upd_ne (ne_of_none e' nx), upd_ne (ne_of_none e' ndx)]
    exact e'
   have nS : S1 x = none := z1.sub.free nx
   refine ⟨by rw [List.append_nil, List.length_cons, <- d1.length, hn ρ ds q], x, vs, C, dx, S1, ds, d0, by rw [List.append_nil], upd_same, ⟨N, hN, hC⟩, nS, s0, d1, q2, fun S2 H2 v z2 d2 => ⟨rfl, ?_⟩⟩
   have hx2 := z2.al x _ upd_same nS
   have z3 : Ext S1 H1 (upd S2 x (.ins C dx [(f, v)])) (upd H2 x (.ins C dx [(f, v)])) := {
    sh := fun b o e => by
     rw [upd_ne (ne_of_none (z1.sub b o e) nx)]
     exact z2.sh b o e
    sub := fun b o e => by
     by_cases hb : b = x
     ·subst hb; rw [upd_same] at e ⊢; exact e
     ·rw [upd_ne hb] at e ⊢; exact z2.sub b o e
    al := fun b o e ne => by
     have hb := ne_of_none e nx
     rw [upd_ne hb, upd_ne hb]
     exact z2.al b o (by rw [upd_ne hb, upd_ne (ne_of_none e ndx)]; exact e) ne }
   refine k (.ref x) _ _ (z1.trans z3) (den_ins.mpr ⟨x, C, dx, [(f, v)], rfl, hC, upd_same, rfl, ?_⟩)
   refine .cons (d2.mono fun b o e => ?_) .nil
   rw [upd_ne (ne_of_none e hx2.2)]
   exact e
end
end M
namespace M
def minL : List Int -> Int
 | [] => 0
 | [a] => a
 | a :: l => min a (minL l)
theorem minL_cons (a b : Int) (l : List Int) : minL (a :: b :: l) = min a (minL (b :: l)) := rfl
theorem minL_spec : ∀ (a : Int) (l : List Int), minL (a :: l) ∈ a :: l /\ ∀ b ∈ a :: l, minL (a :: l) <= b
 | a, [] => ⟨List.mem_cons_self, fun b hb => by rw [List.mem_singleton] at hb; subst hb; exact Int.le_refl _⟩
 | a, c :: l => by
  obtain ⟨h1, h2⟩ := minL_spec c l
  rw [minL_cons]
  refine ⟨?_, fun b hb => ?_⟩
  ·rcases Int.le_total a (minL (c :: l)) with h | h
   ·rw [Int.min_eq_left h]; exact List.mem_cons_self
   ·rw [Int.min_eq_right h]; exact List.mem_cons_of_mem _ h1
  ·rcases List.mem_cons.mp hb with rfl | hb
   ·exact Int.min_le_left _ _
   ·exact Int.le_trans (Int.min_le_right _ _) (h2 b hb)
theorem minL_uniq {ns : List Int} {m : Int} (h1 : m ∈ ns) (h2 : ∀ a, a ∈ ns -> m <= a) : minL ns = m := by
 cases ns with
 | nil => cases h1
 | cons a l =>
  obtain ⟨k1, k2⟩ := minL_spec a l
  exact Int.le_antisymm (k2 m h1) (h2 _ k1)
end M
namespace L2
open PySem PySem.Spec PyProof.Rows
section
variable {prog : Program} {w : World} {A : Around} {E : Value -> Shared -> Prop} {s : Shared}
theorem args_min4 (a b c d : Value) : argsOk "min" ⟨[a, b, c, d], []⟩ := by unfold argsOk; kernel_rfl
theorem min_walk4 {a b c d : Value} {Q : Value -> Shared -> Prop}
  (h : wpAny (model prog w) A.in1 (pyIter (.ref s.heap.objs.size)) (fun it s₂ => ∃ I fp wr n P St bt, it = .ref I /\ Walks prog w A.in1 I fp wr n P St /\ St 0 s₂.heap /\ (∀ b ∈ fp, b < s₂.heap.objs.size) /\ 0 < n /\ CmpOf prog w A.in1 .Lt P bt /\ ∀ v h' tk, P (argBest bt (n - 1)) v -> (∀ b o, b ∉ wr -> s₂.heap.get? b = some o -> h'.get? b = some o) -> Q v { s₂ with heap := h', toks := tk }) E { s with heap := s.heap.push { cls := .type "tuple", data := .seq #[a, b, c, d] } }) :
  wpAny (model prog w) A (call (.builtin "min") [a, b, c, d]) Q E s := by
 have hname : (toString "min" ++ toString ".loop" : String) = "min.loop" := by decide
 refine call_function_tree F.kind_min F.plain_min F.entry_min (args_min4 _ _ _ _) ?_; show wpAny _ A.in1 (Builtin.Builtins.bindParams "min" ["key", "default"] 0 ⟨[], []⟩ >>= _) _ _ s
 refine wpAny_bind (wpAny_of_eq (show Builtin.Builtins.bindParams "min" ["key", "default"] 0 ⟨[], []⟩ = pure [none, none] from rfl) ?_); show wpAny _ A.in1 (newTuple [a, b, c, d] >>= _) _ _ s
 refine wpAny_bind (wpAny_newObj_type ?_); refine wpAny_bind (wpAny_mono h (fun it s₂ h₂ => ?_) fun _ _ e => e); obtain ⟨I, fp, wr, n, P, St, bt, rfl, W, hst, hfp, hn, hcmp, hQ⟩ := h₂
 refine wpAny_bind (wpAny_newObj_type ?_); have hSf : s₂.heap.objs.size ∉ fp := fun hm => Nat.lt_irrefl _ (hfp _ hm)
 rw [hname]; refine wpAny_pure ⟨plainId_quiet F.plain_min_loop _, codeAny_min_loop_first W bt hcmp s₂.heap.objs.size hSf hn (W.frame _ _ _ hst fun b _ o e => Heap.get?_push_of_some _ e) (Heap.get?_push_size _ rfl) fun v h' tk hP hk => ?_⟩
 exact hQ v h' tk hP fun b o hbw e => hk b o hbw (Nat.ne_of_lt (Heap.lt_size e)) (Heap.get?_push_of_some _ e)
theorem min_of_four {a b c d : Int} {t u x y : Tok} {Q : Value -> Shared -> Prop} (hh : A.handled = none) (h : ∀ (h' : Heap) (z : Tok) (tk : Nat), (∀ b o, s.heap.get? b = some o -> h'.get? b = some o) -> Q (.int (M.minL [a, b, c, d]) z) { s with heap := h', toks := tk }) :
  wpAny (model prog w) A (call (.builtin "min") [.int a t, .int b u, .int c x, .int d y]) Q E s := by
 have hT : (s.heap.push { cls := .type "tuple", data := .seq #[.int a t, .int b u, .int c x, .int d y] }).IsTuple s.heap.objs.size (intItems #[(a, t), (b, u), (c, x), (d, y)]) := ⟨_, Heap.get?_push_size _ rfl, rfl, 0, by simp [intItems]⟩
 refine min_walk4 (wpAny_pyIter_tuple hT ?_); have hsz : (s.heap.push { cls := .type "tuple", data := .seq #[.int a t, .int b u, .int c x, .int d y] }).objs.size = s.heap.objs.size + 1 := Heap.size_push ..
 refine ⟨_, [_, s.heap.objs.size], [_], _, _, _, _, rfl, Walks.tuple (A := A.in1) hh _ s.heap.objs.size (by rw [hsz]; exact Nat.ne_of_lt (Nat.lt_succ_self _)) (intItems #[(a, t), (b, u), (c, x), (d, y)]), ⟨⟨_, Heap.get?_push_size _ rfl, rfl, rfl⟩, hT.push _⟩, fun e hd => ?_, by simp [intItems], CmpOf.ints_lt (numAt #[(a, t), (b, u), (c, x), (d, y)]) (fun _ _ => intItems_at), fun v h' tk hP hk => ?_⟩
 ·show e < ((s.heap.push _).push _).objs.size
  rw [Heap.size_push, hsz]; rcases List.mem_cons.mp hd with rfl | hd
  ·rw [hsz]; exact Nat.lt_succ_self _
  ·rcases List.mem_cons.mp hd with rfl | hd
   ·exact Nat.lt_succ_of_lt (Nat.lt_succ_self _)
   ·cases hd
 ·have hold : ∀ z o, s.heap.get? z = some o -> h'.get? z = some o := fun z o e => by
   refine hk z o (fun hm => ?_) (Heap.get?_push_of_some _ (Heap.get?_push_of_some _ e)); rcases List.mem_cons.mp hm with e1 | hm
   ·have := Heap.lt_size e; rw [e1, hsz] at this; exact Nat.lt_irrefl _ (Nat.lt_of_succ_lt this)
   ·cases hm
  have hP' : (intItems #[(a, t), (b, u), (c, x), (d, y)])[argBest (fun i j => decide (numAt #[(a, t), (b, u), (c, x), (d, y)] i < numAt #[(a, t), (b, u), (c, x), (d, y)] j)) 3]? = some v := by
   have hsz2 : (intItems #[(a, t), (b, u), (c, x), (d, y)]).size - 1 = 3 := by simp [intItems]
   rw [<- hsz2]; exact hP
  obtain ⟨z, rfl⟩ := intItems_at hP'; obtain ⟨h1, h2⟩ := argBest_lt (numAt #[(a, t), (b, u), (c, x), (d, y)]) 3
  have em : M.minL [a, b, c, d] = numAt #[(a, t), (b, u), (c, x), (d, y)] (argBest (fun i j => decide (numAt #[(a, t), (b, u), (c, x), (d, y)] i < numAt #[(a, t), (b, u), (c, x), (d, y)] j)) 3) := by
   have k0 := h2 0 (by lia); have k1 := h2 1 (by lia); have k2 := h2 2 (by lia); have k3 := h2 3 (by lia)
   generalize hg : argBest (fun i j => decide (numAt #[(a, t), (b, u), (c, x), (d, y)] i < numAt #[(a, t), (b, u), (c, x), (d, y)] j)) 3 = g at h1 k0 k1 k2 k3 ⊢
   refine M.minL_uniq ?_ fun e he => ?_
   ·rcases (show g = 0 \/ g = 1 \/ g = 2 \/ g = 3 by lia) with rfl | rfl | rfl | rfl <;> simp [numAt]
   ·simp only [List.mem_cons, List.not_mem_nil, or_false] at he
    rcases he with rfl | rfl | rfl | rfl
    ·exact k0
    ·exact k1
    ·exact k2
    ·exact k3
  rw [<- em]; exact h h' z tk hold
end
def rMin4 : List V -> Hp -> VK -> Prop := fun xs H Q => ∃ a b c d, xs = [.int a, .int b, .int c, .int d] /\ Q (.int (M.minL [a, b, c, d])) H
section
variable {X : Cx}
theorem call_min4 (hc : X.calm = true) : CallR X (.builtin "min") rMin4 := by
 intro pins s σ H xs us Q I r h
 obtain ⟨a, b, c, d, rfl, q⟩ := h
 cases r with
 | cons r1 r => cases r with
  | cons r2 r => cases r with
   | cons r3 r => cases r with
    | cons r4 r =>
     cases r
     obtain ⟨t, rfl⟩ := r1
     obtain ⟨t2, rfl⟩ := r2
     obtain ⟨t3, rfl⟩ := r3
     obtain ⟨t4, rfl⟩ := r4
     exact min_of_four (I.ok.hd hc) fun h' t tk k => ⟨.int (M.minL [a, b, c, d]), H, I.kept k, ⟨t, rfl⟩, q⟩
end
end L2
namespace M
open PySem L2
def bMinL : List D -> Option D
 | [.lst l] => (intsOf l).bind fun ns => if 0 < ns.length then some (.int (minL ns)) else none
 | _ => none
def bMin4 : List D -> Option D
 | [.int a, .int b, .int c, .int d] => some (.int (minL [a, b, c, d]))
 | _ => none
section
variable {K : W.Frag}
theorem four_of {S H : Hp} {a b c d : D} {vs : List V} (h : DensP K S H [a, b, c, d] vs) : ∃ v w x y, vs = [v, w, x, y] /\ DenP K S H a v /\ DenP K S H b w /\ DenP K S H c x /\ DenP K S H d y := by
 cases h with
 | cons h1 h => cases h with
  | cons h2 h => cases h with
   | cons h3 h => cases h with
    | cons h4 h => cases h; exact ⟨_, _, _, _, rfl, h1, h2, h3, h4⟩
theorem b_min4 : SRB K rMin4 bMin4 := fun S H vs ds g Q s d q k => by
 unfold bMin4 at q
 split at q
 ·rename_i a b c e
  cases q
  obtain ⟨v, w, x, y, rfl, d1, d2, d3, d4⟩ := four_of d
  exact ⟨a, b, c, e, by rw [d1.int, d2.int, d3.int, d4.int], k _ S H (Ext.refl s) (den_int.mpr rfl)⟩
 ·cases q
end
end M
namespace L2
open PySem
theorem cmpok {XN : List Str} {sc scope : Scope} {N : List Str} {js : List (Option Nat)} (h1 : scope.kind = .function := by rfl) (h2 : ∀ y ∈ scope.names, y.2 ≠ .cell := by decide +kernel) (h3 : ∀ y ∈ scope.names, y.2 = .free -> sc.names.lookup y.1 = some .cell \/ sc.names.lookup y.1 = some .free := by decide +kernel)
  (h4 : ∀ y ∈ scope.names, y.2 = .local -> scope.names.lookup y.1 = some .local := by decide +kernel) (h5 : js.length = N.length := by rfl) (h6 : ((N.zip js).all fun p => match p.2 with | none => true | some j => decide (XN[j]? = some p.1) && decide (scope.names.lookup p.1 = some .free)) = true := by decide +kernel) : CmpOk XN sc scope N js := ⟨h1, h2, h3, h4, h5, h6⟩
end L2
namespace M
open PySem L2
@[simp] def xCallD (m : List D -> Option D) (e : D) (a : XA) : XE := fun ρ => (a ρ).bind fun ds => m (ds ++ [e])
section
variable {K : W.Frag}
end
end M
namespace L2
open PySem
section
variable {P : Program} {w : World} {K : W.Frag} {mg : Str -> Option Value} {base : Heap}
end
end L2
namespace L2
open PySem PySem.Spec PyProof.Rows
section
variable {X : Cx} {pins : List (Addr × Obj)} {σ : St} {H : Hp} {s : Shared} {XN N : List Str} {sc scope : Scope} {js : List (Option Nat)}
variable {tg iter elt : Expr} {ifs : List Expr} {pos : Pos} {wi : TI} {g : TG} {tt : TIf} {te : TE}
end
end L2
namespace RevT
open PySem PySem.Calls PyProof.Rows
theorem slot_next : Slot "reversed" "__next__" "reversed.__next__" := .of (owner := "reversed") (n := "__next__") (by rw [typeLookup_type, builtinLookup_eq_fast]; kernel_rfl) (by decide +kernel) (by decide +kernel) (by decide +kernel) (by first | exact .inl (by decide +kernel) | exact .inr (by decide +kernel)) (by rw [isSubtype_type]; kernel_rfl)
theorem entry_next : entryFor table "reversed.__next__" = some Builtin.«reversed.__next__» := entryFor_of_tree (by kernel_rfl)
theorem args_next (a : Value) : argsOk "reversed.__next__" ⟨[a], []⟩ := by unfold argsOk; kernel_rfl
theorem slot_iter : Slot "reversed" "__iter__" "reversed.__iter__" := .of (owner := "reversed") (n := "__iter__") (by rw [typeLookup_type, builtinLookup_eq_fast]; kernel_rfl) (by decide +kernel) (by decide +kernel) (by decide +kernel) (by first | exact .inl (by decide +kernel) | exact .inr (by decide +kernel)) (by rw [isSubtype_type]; kernel_rfl)
theorem args_iter (a : Value) : argsOk "reversed.__iter__" ⟨[a], []⟩ := by unfold argsOk; kernel_rfl
theorem entry_iter : entryFor table "reversed.__iter__" = some Builtin.«dict_keyiterator.__iter__» := entryFor_alias (id' := "dict_keyiterator.__iter__") (by kernel_rfl) (by first | rfl | decide +kernel | (unfold String.splitOn; simp +decide [String.splitOnAux])) (by decide +kernel) (by kernel_rfl)
theorem no_rev : typeLookup (.type "tuple") "__reversed__" = pure none := by rw [typeLookup_type, builtinLookup_eq_fast]; kernel_rfl
theorem has_get : typeLookup (.type "tuple") "__getitem__" = pure (some (.builtin "tuple.__getitem__")) := by rw [typeLookup_type, builtinLookup_eq_fast]; kernel_rfl
theorem no_dict : isSubtype (.type "tuple") (.type "dict") = pure false := by rw [isSubtype_type]; kernel_rfl
theorem sub_self : isSubtype (.type "reversed") (.type "reversed") = pure true := by rw [isSubtype_type]; kernel_rfl
def recObj (t : Addr) (i : Int) : Obj := { cls := .type "reversed", data := .fields #[.ref t, rawInt i] }
def IsRev (h : Heap) (a t : Addr) (i : Int) : Prop := ∃ o, h.get? a = some o /\ o.cls = .type "reversed" /\ o.data = .fields #[.ref t, rawInt i]
section
variable {prog : Program} {w : World} {A : Around} {E : Value -> Shared -> Prop} {s : Shared}
theorem IsRev.typeIs {a t : Addr} {i : Int} (x : IsRev s.heap a t i) : s.TypeIs (.ref a) "reversed" := let ⟨o, ho, hc, _⟩ := x; ⟨o, ho, hc⟩
theorem next_item {it t : Addr} {i : Nat} {items : Array Value} {x : Value} {Q : Option Value -> Shared -> Prop} (hit : IsRev s.heap it t (i : Int)) (ht : IsTup s.heap t items) (hx : items[i]? = some x) (hi : (i : Int) < 2 ^ 62)
  (hQ : ∀ h' tk, IsRev h' it t ((i : Int) - 1) -> Heap.SameBut it s.heap h' -> Q (some x) { s with heap := h', toks := tk }) : wpAny (model prog w) A (pyNext (.ref it)) Q E s := by
 obtain ⟨o, ho, hc, hd⟩ := id hit
 unfold pyNext
 refine wpAny_bind (wpAny_attempt (wpAny_callSpecial?_slot (name := Str.ofString "__next__") hit.typeIs slot_next (wpAny_call_entry slot_next hit.typeIs entry_next ?_ (args_next _))))
 unfold Builtin.«reversed.__next__»
 refine wpAny_bind (wpAny_of_eq (a := (Value.ref it, [])) rfl ?_)
 try dsimp only
 refine wpAny_bind (wpAny_field ho hd (x := .ref t) rfl ?_)
 refine wpAny_bind (wpAny_field ho hd (x := rawInt (i : Int)) rfl ?_)
 show wpAny _ _ (if (i : Int) < 0 then _ else _) _ _ s
 rw [if_neg (by lia)]
 refine wpAny_bind (wpAny_specialOf ht.typeIs has_get ?_)
 rw [if_neg (show ¬ ((some (Value.builtin "tuple.__getitem__")).isNone = true) from Bool.false_ne_true)]
 refine wpAny_bind (wpAny_mkInt ?_)
 have p63 : (2 : Int) ^ 63 = 9223372036854775808 := by decide
 have p62 : (2 : Int) ^ 62 = 4611686018427387904 := by decide
 have hsz := (Array.getElem?_eq_some_iff.mp hx).1
 have hix : seqIndex? (i : Int) items.size = some i := by
  unfold seqIndex?
  simp
  lia
 refine wpAny_bind (wpAny_attempt (getItem_tuple (s := { s with toks := s.toks + 1 }) (j := i) ht (by lia) (by lia) hix hx ?_))
 dsimp only
 refine wpAny_bind (wpAny_field (s := { s with toks := s.toks + 1 }) ho hd (x := rawInt (i : Int)) rfl ?_)
 show wpAny _ _ (setField (.ref it) 1 (rawInt ((i : Int) - 1)) >>= _) _ _ _
 refine wpAny_bind (wpAny_setField (s := { s with toks := s.toks + 1 }) ho hd (by simp) ?_)
 refine wpAny_pure ⟨x, rfl, wpAny_pure (hQ _ _ ?_ (Heap.SameBut.update ..))⟩
 exact ⟨_, Heap.get?_update_self _ ho (Obj.isFreed_of_fields (Obj.data_mapFields hd _)), (Obj.cls_mapFields ..).trans hc, by rw [Obj.data_mapFields hd]; simp⟩
theorem next_end {it t : Addr} {Q : Option Value -> Shared -> Prop} (hh : A.handled = none) (hit : IsRev s.heap it t (-1)) (hQ : ∀ h', Heap.ExtBut it s.heap h' -> Q none { s with heap := h' }) : wpAny (model prog w) A (pyNext (.ref it)) Q E s := by
 obtain ⟨o, ho, hc, hd⟩ := id hit
 unfold pyNext
 refine wpAny_bind (wpAny_attempt (wpAny_callSpecial?_slot (name := Str.ofString "__next__") hit.typeIs slot_next (wpAny_call_entry slot_next hit.typeIs entry_next ?_ (args_next _))))
 unfold Builtin.«reversed.__next__»
 refine wpAny_bind (wpAny_of_eq (a := (Value.ref it, [])) rfl ?_)
 try dsimp only
 refine wpAny_bind (wpAny_field ho hd (x := .ref t) rfl ?_)
 refine wpAny_bind (wpAny_field ho hd (x := rawInt (-1)) rfl ?_)
 show wpAny _ _ (if (-1 : Int) < 0 then _ else _) _ _ s
 rw [if_pos (by decide)]
 refine wpAny_bind (wpAny_rule ?_)
 refine wpAny_bind ?_
 refine wpAny_bind (wpAny_setField ho hd (by simp) ?_)
 have ho' := Heap.get?_update_self (h := s.heap) (Obj.mapFields (·.setIfInBounds 1 (rawInt (-1)))) ho (Obj.isFreed_of_fields (Obj.data_mapFields hd _))
 have hd' := Obj.data_mapFields hd (·.setIfInBounds 1 (rawInt (-1)))
 refine wpAny_setField (s := { s with heap := s.heap.update it (Obj.mapFields (·.setIfInBounds 1 (rawInt (-1)))) }) ho' hd' (by simp) ?_
 first
 | show wpAny _ _ (newExc (.type "StopIteration") [] >>= _) _ _ _
 | (refine wpAny_bind ?_; show wpAny _ _ (newExc (.type "StopIteration") [] >>= _) _ _ _)
 refine wpAny_bind ?_
 simp only [newExc, newTuple]
 refine wpAny_bind (wpAny_newObj_type ?_ (by size_fits))
 refine wpAny_bind (m := firstArgMember _ _) (wpAny_of_eq (a := Value.none) (by first | rfl | (simp only [firstArgMember]; rfl)) ?_)
 refine wpAny_newObj_type ?_ (by size_fits)
 simp only [raiseNew]
 refine wpAny_bind (wpAny_handled ?_)
 first | rw [show A.in1.handled = none from hh] | rw [hh]
 refine wpAny_bind (wpAny_pure (wpAny_throw ?_))
 refine wpAny_bind (wpAny_isInstance (T := "StopIteration") (b := true) ⟨_, Heap.get?_push_size _ rfl, rfl⟩ isSubtype_stop ?_)
 exact wpAny_pure (hQ _ ((((Heap.SameBut.update ..).trans (Heap.SameBut.update ..)).extBut.push _).push _))
theorem iter_self {it t : Addr} {i : Int} {Q : Value -> Shared -> Prop} (hit : IsRev s.heap it t i) (h : Q (.ref it) s) : wpAny (model prog w) A (pyIter (.ref it)) Q E s := by
 refine wpAny_pyIter_slot hit.typeIs slot_iter (wpAny_call_entry slot_iter hit.typeIs entry_iter ?_ (args_iter _))
 show wpAny _ _ (ret (.ref it)) _ _ s
 exact wpAny_pure ⟨_, rfl, "reversed", _, hit.typeIs, slot_next.lookup, h⟩
end
theorem mro_rev : mroOf (.type "reversed") = pure [.type "reversed", .type "object"] := by rw [mroOf_type]; kernel_rfl
theorem look_new : typeLookup (.type "reversed") "__new__" = pure (some (.builtin "reversed.__new__")) := by rw [typeLookup_type, builtinLookup_eq_fast]; kernel_rfl
theorem slot_init : Slot "reversed" "__init__" "object.__init__" := .of (owner := "object") (n := "__init__") (by rw [typeLookup_type, builtinLookup_eq_fast]; kernel_rfl) (by decide +kernel) (by decide +kernel) (by decide +kernel) (by first | exact .inl (by decide +kernel) | exact .inr (by decide +kernel)) (by rw [isSubtype_type]; kernel_rfl)
theorem called_rev : TypeCalled "reversed" "reversed.__new__" "object.__init__" := ⟨by decide +kernel, by decide +kernel, ⟨_, _, mro_rev⟩, madeBy_type mro_rev look_new (by decide +kernel), by decide +kernel, by rw [isSubtype_type]; kernel_rfl, slot_init⟩
theorem typeCall_rev (a : Value) : checkTypeCall "reversed" ⟨[a], []⟩ = pure () := by kernel_rfl
theorem newCall_rev (a : Value) : checkBuiltinCall "reversed.__new__" ⟨[.type "reversed", a], []⟩ = pure () := by kernel_rfl
theorem entry_new : entryFor table "reversed.__new__" = some Builtin.«reversed.__new__» := entryFor_of_tree (by kernel_rfl)
theorem newClass_rev (a : Value) : Builtin.SmallTypes.newClass "reversed" ⟨[.type "reversed", a], []⟩ = pure (.type "reversed", [a]) := by
 unfold Builtin.SmallTypes.newClass
 simp only [isType, sub_self, pure_bind, Bool.not_true, Bool.false_eq_true, if_false]
theorem meets_new (t : Addr) (items : Array Value) (hz : (items.size : Int) < 2 ^ 63) : Meets (Builtin.«reversed.__new__» ⟨[.type "reversed", .ref t], []⟩) (fun _ R s => IsTup s.heap t items /\ R (.ok (.ret (.ref s.heap.objs.size))) { s with heap := s.heap.push (recObj t ((items.size : Int) - 1)), toks := s.toks + 1 + 1 }) :=
 .of_wp fun prog w A R s h => by
  obtain ⟨ht, h⟩ := h
  unfold Builtin.«reversed.__new__»
  refine wpAny_bind (wpAny_of_eq (newClass_rev _) ?_)
  try dsimp only
  refine wpAny_bind (wpAny_of_eq (a := ()) (by first | rfl | kernel_rfl) ?_)
  refine wpAny_bind (wpAny_of_eq (a := ()) (by first | rfl | kernel_rfl) ?_)
  try dsimp only
  refine wpAny_bind (wpAny_specialOf ht.typeIs no_rev ?_)
  try dsimp only
  refine wpAny_bind (wpAny_bind (wpAny_isInstance (T := "tuple") (b := false) ht.typeIs no_dict ?_))
  rw [if_neg Bool.false_ne_true]
  refine wpAny_bind (wpAny_specialOf ht.typeIs has_get ?_)
  refine (show wpAny _ _ (pure true) _ _ _ from wpAny_pure ?_)
  show wpAny _ _ (if (!true) = true then _ else _) _ _ _
  rw [if_neg (by decide)]
  refine wpAny_bind (len_tuple ht hz ?_)
  show wpAny _ _ (Builtin.SmallTypes.newRecord (.type "reversed") [.ref t, rawInt ((items.size : Int) - 1)] >>= _) _ _ _
  refine wpAny_bind (wpAny_newObj_type (data := .fields #[.ref t, rawInt ((items.size : Int) - 1)]) ?_ (by size_fits))
  exact wpAny_pure ⟨_, rfl, h⟩
theorem call_rev {prog : Program} {w : World} {A : Around} {E : Value -> Shared -> Prop} {s : Shared} {t : Addr} {items : Array Value} {Q : Value -> Shared -> Prop} (ht : IsTup s.heap t items) (hz : (items.size : Int) < 2 ^ 63)
  (h : Q (.ref s.heap.objs.size) { s with heap := s.heap.push (recObj t ((items.size : Int) - 1)), toks := s.toks + 1 + 1 }) : wpAny (model prog w) A (call (.type "reversed") [.ref t]) Q E s :=
 callType_new called_rev (by decide) (typeCall_rev _) (newCall_rev _) (fun obj => F.args_object_init_2 obj _) entry_new (meets_new t items hz) ⟨ht, ⟨_, Heap.get?_push_size _ rfl, rfl⟩, h⟩
end RevT
namespace L2
open PySem PySem.Spec PyProof.Rows
def Itv (K : W.Frag) (a : Addr) (xs : List V) : It :=
 ⟨fun i H => SqT K H a xs /\ ∃ x, xs.reverse[i]? = some x, fun i H x H' => H' = H /\ xs.reverse[i]? = some x, fun i H => SqT K H a xs /\ xs.length = i⟩
def iRev (K : W.Frag) (ta : TA) : TI := fun σ H R => ta σ H fun vs H1 => ∃ a xs, vs = [.ref a] /\ SqT K H1 a xs /\ R (Itv K a xs) H1
section
variable {X : Cx} {tg : Expr}
theorem turn_rev {P : Program} {w : World} {K : W.Frag} (a it : Addr) (xs : List V) : Turn P w K tg (Itv K a xs) [it] it (fun i h => RevT.IsRev h it a ((xs.length : Int) - 1 - (i : Nat))) where
 mem := by simp
 obj := fun i h st b hb => by
  rw [List.mem_singleton.mp hb]
  obtain ⟨o, e, c, d⟩ := st
  exact ⟨o, e, fun v z => by rw [d] at z; cases z⟩
 keep := fun i h h' st k => by
  obtain ⟨o, e, r⟩ := st
  exact ⟨o, k it (by simp) _ e, r⟩
 item := by
  intro X hP hw hK hc i pins s σ H E I hf st hg
  subst hP hw hK
  obtain ⟨hq, x, hx⟩ := hg
  obtain ⟨its, rv, p, hz⟩ := I.tuple hq
  have hi : i < xs.length := by have := (List.getElem?_eq_some_iff.mp hx).1; simpa using this
  have hx' : xs[xs.length - 1 - i]? = some x := by rw [List.getElem?_reverse hi] at hx; exact hx
  obtain ⟨u, hu, ru⟩ := rv.get hx'
  obtain ⟨f0, f1, f2, f3, f4, f5⟩ := hf it (by simp)
  have e : (xs.length : Int) - 1 - (i : Nat) = ((xs.length - 1 - i : Nat) : Int) := by lia
  have hn : (sizeLine : Nat) < 2 ^ 60 := by rw [sizeLine_eq]; decide
  have p62 : (2 : Int) ^ 62 = 4611686018427387904 := by decide
  rw [e] at st
  refine RevT.next_item st p (x := u) (by simpa using hu) (by lia) fun h' tk st' sb => ?_
  have I1 : Inv X pins σ H { s with heap := h', toks := tk } := I.turned (fun b o hb e => (sb.2 b hb).trans e) f0 f1 f3 f4 f5
  have st2 : RevT.IsRev h' it a ((xs.length : Int) - 1 - ((i + 1 : Nat) : Int)) := by
   have e2 : (xs.length : Int) - 1 - ((i + 1 : Nat) : Int) = ((xs.length - 1 - i : Nat) : Int) - 1 := by lia
   rw [e2]; exact st'
  obtain ⟨o, e, c, d⟩ := id st'
  exact ⟨u, rfl, go_of (s := { s with heap := h', toks := tk }) e c d (by decide) ⟨x, H, I1, ru, ⟨rfl, hx⟩, st2, fun b hb => (hf b hb).1⟩⟩
 done := by
  intro X hP hw hK hc i pins s σ H E I hf st hg
  subst hP hw hK
  obtain ⟨hq, hx⟩ := hg
  obtain ⟨f0, f1, f2, f3, f4, f5⟩ := hf it (by simp)
  have e : (xs.length : Int) - 1 - (i : Nat) = -1 := by lia
  rw [e] at st
  exact RevT.next_end (I.ok.hd hc) st fun h' eb => ⟨rfl, I.turned (t' := s.toks) (fun b o hb e => eb b o hb e) f0 f1 f3 f4 f5⟩
 self := fun _ _ _ _ _ st h => RevT.iter_self st h
theorem pi_rev {a : Expr} {ta : TA} {p pos : Pos} (hg : Gl X "reversed") (hm : X.mg "reversed" = none) (ha : PA X [a] ta) (hs : starEach [a] X.env = [(false, eval a X.env)] := by rfl) : PI X tg (.Call (.Name "reversed" p) [a] [] pos) (iRev X.K ta) := by
 intro pins s σ H R I h
 refine Call_ (ld_blt I hg hm bt_reversed (PyProof.Rows.callWith_type1 (thn (ha pos pins s σ H _ I h) fun us s1 h1 => ?_) hs rfl))
 obtain ⟨vs, H1, I1, r1, t, xs, rfl, hq, q⟩ := h1
 obtain ⟨u, rfl, rx⟩ := vals1 r1
 cases rx
 obtain ⟨its, rv, p, hz⟩ := I1.tuple hq
 have hlen := rv.length
 have hn := line63
 refine RevT.call_rev p (by simp only [List.size_toArray] <;> lia) ?_
 have I2 : Inv X pins σ H1 { s1 with heap := s1.heap.push (RevT.recObj t ((its.toArray.size : Int) - 1)), toks := s1.toks + 1 + 1 } := I1.kept fun b o e => Heap.get?_push_of_some _ e
 have st : RevT.IsRev (s1.heap.push (RevT.recObj t ((its.toArray.size : Int) - 1))) s1.heap.objs.size t ((xs.length : Int) - 1 - ((0 : Nat) : Int)) := by
  refine ⟨_, Heap.get?_push_size _ rfl, rfl, ?_⟩
  have e : (xs.length : Int) - 1 - ((0 : Nat) : Int) = (its.toArray.size : Int) - 1 := by simp [hlen]
  rw [e]; rfl
 refine RevT.iter_self (s := { s1 with heap := s1.heap.push (RevT.recObj t ((its.toArray.size : Int) - 1)), toks := s1.toks + 1 + 1 }) st ?_
 refine ⟨s1.heap.objs.size, [s1.heap.objs.size], _, _, H1, rfl, I2, turn_rev t _ xs, st, fun b hb => ?_, q⟩
 rw [List.mem_singleton.mp hb]
 exact I1.fpOk (Nat.le_refl _) I1.fresh
end
end L2
namespace M
open PySem L2
section
variable {K : W.Frag} {S S' H H' : Hp}
def revD : List D -> Option (List D)
 | [.tup l] => some l.reverse | _ => none
@[simp] def xRevI (a : XA) : XA := fun ρ => (a ρ).bind revD
theorem i_rev {t : TA} {a : XA} (h : SAP K t a) : SI K (iRev K t) (xRevI a) := fun ρ σ S H R l r x k => by
 unfold xRevI at x
 cases q : a ρ with
 | none => rw [q] at x; cases x
 | some ds =>
  rw [q] at x
  dsimp only [Option.bind] at x
  unfold revD at x
  split at x
  ·rename_i l'
   cases x
   refine h ρ σ S H _ _ r q fun vs S1 H1 z1 d1 => ?_
   cases d1 with
   | cons a1 d1 =>
    cases d1
    rcases a1 with a1 | ⟨l2, _, _, e, _⟩
    ·obtain ⟨p, xs, rfl, h1, h2⟩ := den_tupS a1
     refine ⟨p, xs, rfl, sqT_mono z1.sub h1, k _ S1 H1 z1 fun S' H' s1 s2 => ⟨fun i d hd => ?_, sqT_mono (s1.trans s2) h1, by rw [List.length_reverse]; exact h2.length.symm⟩⟩
     have hi : i < l'.length := by have := (List.getElem?_eq_some_iff.mp hd).1; simpa using this
     rw [List.getElem?_reverse hi] at hd
     obtain ⟨y, e1, e2⟩ := h2.get hd
     have hl := h2.length
     have e3 : xs.reverse[i]? = some y := by rw [List.getElem?_reverse (by lia)]; rw [<- e1]; congr 2; lia
     refine ⟨⟨sqT_mono (s1.trans s2) h1, y, e3⟩, fun x H'' hy => ⟨hy.1, ?_⟩⟩
     have := hy.2
     rw [e3] at this
     cases this
     exact e2.mono s1
    ·cases e
  ·cases x
end
end M
namespace L2
open PySem
section
variable {X : Cx} {e : Expr} {pos p p' : Pos} {ta : TE} {T : Addr} {N : Str} {ans : List (Str × Bool)}
end
end L2
namespace M
open PySem L2
section
variable {K : W.Frag} {S S' H H' : Hp}
@[simp] def xIsiN (ans : List (Str × Bool)) (e : XE) : XE := fun ρ => (e ρ).bind fun d => match d with | .ins N _ _ => (ans.lookup N).map .bl | _ => none
end
end M
namespace L2
open PySem PySem.Spec PyProof.Rows Builtin Builtin.ObjectAttr Builtin.Getset_descriptor
section
variable {prog : Program} {w : World} {A : Around} {E : Value -> Shared -> Prop} {s : Shared} {K : W.Frag} {C a : Addr}
end
end L2
namespace L2
open PySem PySem.Spec PyProof.Rows
section
variable {H H' : Hp} {B h0 h h' : Heap} {fs : List Addr}
end
section
variable {X : Cx} {pins : List (Addr × Obj)} {σ : St} {H : Hp} {s : Shared} {E : XK} {B : Heap} {e : Addr} {cls a0 : Value}
end
section
variable {P : Program} {w : World} {K : W.Frag} {mg : Str -> Option Value} {base : Heap} {N : List Str} {qual : Str} {scope : Scope} {f : Addr} {cdv : Value} {A : Around} {outer : List Env} {s : Shared} {H : Hp} {E : XK}
end
section
variable {X : Cx} {E : XK} {x : Str} {e : Expr} {te : TE} {np cpos pos : Pos}
end
section
variable {X : Cx} {pins : List (Addr × Obj)} {σ : St} {H H' : Hp} {s s' : Shared} {e : Addr}
end
section
variable {X : Cx} {body suite : List Stmt} {b0 : Stmt} {x n : Str} {i : Nat} {L : List Str} {tb : XK -> TS} {ts : TS} {np hp pos : Pos}
end
section
variable {X : Cx} {e : Expr} {pos p p' : Pos} {i : Nat} {N : Str} {ans : List (Str × Bool)} {vv : V} {u : Value}
end
end L2
namespace M
open PySem L2
section
variable {K : W.Frag} {S S' H H' : Hp}
inductive RO where
 | rz (N : Str) | nx (ρ : Env)
abbrev XR := Env -> Option RO
variable {E : XK}
@[simp] def xrNext : XR := fun ρ => some (.nx ρ)
@[simp] def xrRaise (N : Str) : XR := fun _ => some (.rz N)
@[simp] def xrIf (c : XT) (m n : XR) : XR := fun ρ => (c ρ).bind fun b => if b = true then m ρ else n ρ
@[simp] def xrSeq (m n : XR) : XR := fun ρ => (m ρ).bind fun o => match o with | .nx ρ' => n ρ' | .rz N => some (.rz N)
@[simp] def xrStop (m : XR) : XR := fun ρ => (m ρ).bind fun o => match o with | .nx _ => none | .rz N => some (.rz N)
@[simp] def xrE (m : Env -> Option Str) : XR := fun ρ => (m ρ).map .rz
@[simp] def xeCall (m : List D -> Option Str) (a : XA) : Env -> Option Str := fun ρ => (a ρ).bind m
def lookN (N : Str) : List (List (Str × Bool)) -> Option (List Bool)
 | [] => some []
 | a :: l => (a.lookup N).bind fun b => (lookN N l).map fun bs => b :: bs
def hSets (i : Nat) (N : Str) : List (Nat × List (List (Str × Bool))) -> Env -> Option Env
 | [], ρ => some ρ
 | p :: l, ρ => if p.1 = i then none else (lookN N p.2).bind fun bs => if bs.length <= 1000 then hSets i N l (ρ.set p.1 (.sh (.lst (bs.map .bl)))) else none
@[simp] def xTry (L : List Str) (i : Nat) (m : XR) (l : List (Nat × List (List (Str × Bool)))) : XS := fun ρ => if i < ρ.length then (m ρ).bind fun o => match o with
 | .rz N => if L.contains N then (hSets i N l (ρ.map fun _ => .un)).map fun ρ' => .nx (ρ'.set i .un) else none
 | .nx ρ' => some (.nx ρ') else none
end
end M
namespace L2
open PySem PySem.Spec PyProof.Rows
theorem turn_long {P : Program} {w : World} {K : W.Frag} {tg : Expr} (it : Addr) (lo : Int) (n : Nat) : Turn P w K tg (Itr lo n) [it] it (fun i h => IsLongIter h it (lo + (i : Nat) * 1) ((n : Int) - (i : Nat)) 1) where
 mem := by simp
 obj := fun i h st b hb => by
  obtain rfl : b = it := by simpa using hb
  refine ⟨_, st, fun v z => ?_⟩
  have y : Data.fields _ = Data.cell v := z
  cases y
 keep := fun i h h' st k => k it (by simp) _ st
 item := by
  intro X hP hw hK hc i pins s σ H E I hf st hg
  subst hP hw hK
  have ⟨g0, g1, g2, g3, g4, g5⟩ := hf it (by simp)
  refine (Walks.longrange (prog := X.prog) (w := X.w) (I.ok.hd hc) it lo 1 n).item i s _ _ hg st fun v h' tk hv st' kk => ?_
  obtain ⟨t, rfl⟩ := hv
  have J : Inv X pins σ H { s with heap := h', toks := tk } := I.turned (fun b o hb q => kk b o (by simpa using hb) q) g0 g1 g3 g4 g5
  exact ⟨_, rfl, go_of (s := { s with heap := h', toks := tk }) (n := "longrange_iterator") st' rfl rfl (by decide) ⟨.int (lo + i), H, J, ⟨t, by rw [Int.mul_one]⟩, ⟨rfl, rfl⟩, st', fun b hb => (hf b hb).1⟩⟩
 done := by
  intro X hP hw hK hc i pins s σ H E I hf st hg
  subst hP hw hK
  have ⟨g0, g1, g2, g3, g4, g5⟩ := hf it (by simp)
  exact wpAny_pyNext_long_end (I.ok.hd hc) st (by have : n <= i := hg; lia) fun h' eb => ⟨rfl, I.turned (t' := s.toks) (fun b o hb q => eb b o hb q) g0 g1 g3 g4 g5⟩
 self := fun _ _ _ _ _ st h => wpAny_pyIter_longiter st h
section
variable {X : Cx} {tg : Expr}
theorem range_all {pins : List (Addr × Obj)} {σ : St} {H : Hp} {s : Shared} {R : It -> Hp -> Prop} {E : Value -> Shared -> Prop} {lo hi : Int} {t u v : Tok} {tk : Nat} (I : Inv X pins σ H s) (q : R (Itr lo (hi - lo).toNat) H) :
  wpAny (model X.prog X.w) X.A (pyIter (.ref s.heap.objs.size)) (PIE X pins σ tg R) E { s with heap := s.heap.push { cls := .type "range", data := .fields #[.int lo t, .int hi u, .int 1 v] }, toks := tk } := by
 have J : Inv X pins σ H { s with heap := s.heap.push { cls := .type "range", data := .fields #[.int lo t, .int hi u, .int 1 v] }, toks := tk } := I.kept fun b o z => Heap.get?_push_of_some _ z
 have hs : (((hi - lo).toNat : Nat) : Int) - ((0 : Nat) : Int) = Builtin.Range.rangeSize lo hi 1 := by rw [rangeSize_one]; split <;> lia
 have h0 : lo + ((0 : Nat) : Int) * 1 = lo := by simp
 cases hb : Builtin.Range.small lo hi 1 with
 | true =>
  refine wpAny_pyIter_range (IsRange.new ..) hb ?_
  refine ⟨_, [(s.heap.push { cls := .type "range", data := .fields #[.int lo t, .int hi u, .int 1 v] }).objs.size], _, _, H, rfl, J.kept (t' := tk) fun b o z => Heap.get?_push_of_some _ z, turn_range _ lo (hi - lo).toNat, ?_, fun b hb => ?_, q⟩
  ·show IsRangeIter _ _ (lo + ((0 : Nat) : Int) * 1) ((((hi - lo).toNat : Nat) : Int) - ((0 : Nat) : Int)) 1
   rw [h0, hs]
   exact Heap.get?_push_size _ rfl
  ·have z : b = (s.heap.push { cls := .type "range", data := .fields #[.int lo t, .int hi u, .int 1 v] }).objs.size := by simpa using hb
   subst z
   exact J.fpOk (Nat.le_refl _) (J.hok.fresh (Nat.le_refl _))
 | false =>
  refine wpAny_pyIter_longrange (IsRange.new ..) hb ?_
  refine ⟨_, [(s.heap.push { cls := .type "range", data := .fields #[.int lo t, .int hi u, .int 1 v] }).objs.size], _, _, H, rfl, J.kept (t' := tk) fun b o z => Heap.get?_push_of_some _ z, turn_long _ lo (hi - lo).toNat, ?_, fun b hb => ?_, q⟩
  ·show IsLongIter _ _ (lo + ((0 : Nat) : Int) * 1) ((((hi - lo).toNat : Nat) : Int) - ((0 : Nat) : Int)) 1
   rw [h0, hs]
   exact Heap.get?_push_size _ rfl
  ·have z : b = (s.heap.push { cls := .type "range", data := .fields #[.int lo t, .int hi u, .int 1 v] }).objs.size := by simpa using hb
   subst z
   exact J.fpOk (Nat.le_refl _) (J.hok.fresh (Nat.le_refl _))
def iRngA (ta : TA) : TI := fun σ H R => ta σ H fun vs H1 => ∃ i j : Int, vs = [.int i, .int j] /\ R (Itr i (j - i).toNat) H1
theorem pi_rangeA {a b : Expr} {ta : TA} {p pos : Pos} (hg : Gl X "range") (hm : X.mg "range" = none) (ha : PA X [a, b] ta) (hs : starEach [a, b] X.env = [(false, eval a X.env), (false, eval b X.env)] := by rfl) (hs2 : starEach [b] X.env = [(false, eval b X.env)] := by rfl) :
  PI X tg (.Call (.Name "range" p) [a, b] [] pos) (iRngA ta) := by
 intro pins s σ H R I h
 refine Call_ (ld_blt I hg hm boot_range (PyProof.Rows.callWith_type1 (thn (ha pos pins s σ H _ I h) fun us s1 hpt9 => ?_) (by rw [hs, hs2]) (by rw [hs2]; rfl)))
 obtain ⟨vs, H1, I1, r1, q1⟩ := hpt9
 obtain ⟨i, j, rfl, q⟩ := q1
 obtain ⟨u1, u2, rfl, r, r'⟩ := Vals.two r1
 obtain ⟨t, rfl⟩ := r
 obtain ⟨t', rfl⟩ := r'
 exact call_range_2 (range_all I1 q)
end
end L2
namespace M
open PySem L2
section
variable {K : W.Frag} {S S' H H' : Hp}
def rngA : List D -> Option (List D)
 | [.int i, .int j] => some (intsD i (j - i).toNat)
 | _ => none
@[simp] def xRngA (a : XA) : XA := fun ρ => (a ρ).bind rngA
theorem i_rngA {ta tb : TE} {a b : XE} (h : SPk K ta a) (hb : SPk K tb b) : SI K (iRngA (tCons ta (tCons tb tNil))) (xRngA (xCons a (xCons b xNil))) := fun ρ σ S H R l r x k => by
 unfold xRngA at x
 cases q : xCons a (xCons b xNil) ρ with
 | none => rw [q] at x; cases x
 | some ds =>
  rw [q] at x
  obtain ⟨d, e, qa, qb, rfl⟩ := xCons_of q
  obtain ⟨d2, e2, qa2, qb2, rfl⟩ := xCons_of qb
  cases qb2
  cases d <;> try (cases x; done)
  cases d2 <;> try (cases x; done)
  cases x
  refine h ρ σ S H _ _ r qa fun v S1 H1 z1 d1 => hb ρ σ S1 H1 _ _ (r.ext z1) qa2 fun w S2 H2 z2 d2 => ?_
  exact ⟨_, _, by rw [d1.int, d2.int], k _ S2 H2 (z1.trans z2) (walks_rng _ _)⟩
end
end M
namespace L2
open PySem PySem.Spec PyProof.Rows
section
variable {X : Cx} {tg : Expr}
end
end L2
namespace M
open PySem L2
section
variable {K : W.Frag} {S S' H H' : Hp}
def signsD (x : Str) : List D := x.cps.toList.map fun c => D.str ⟨#[c]⟩
def sgD : D -> Option (List D)
 | .str x => some (signsD x)
 | _ => none
@[simp] def xItS (e : XE) : XA := fun ρ => (e ρ).bind sgD
def dSlS (d : D) (lo hi : Option Int) : Option D := match d with
 | .str x => if x.length <= LIM then some (.str (Txt.slice x lo hi)) else none
 | _ => none
@[simp] def xSlS (a : XE) (lo hi : XO) : XE := fun ρ => (a ρ).bind fun d => (lo ρ).bind fun l => (hi ρ).bind fun h => dSlS d l h
end
end M
namespace L2
open PySem
end L2
namespace L2
open PySem PySem.Spec PyProof.Rows
section
variable {X : Cx}
inductive PJ (X : Cx) : List Expr -> List TE -> Prop
 | nil : PJ X [] []
 | cons {e : Expr} {t : TE} {es : List Expr} {ts : List TE} : PE X e t -> PJ X es ts -> PJ X (e :: es) (t :: ts)
end
end L2
namespace M
open PySem L2
section
variable {K : W.Frag} {S S' H H' : Hp}
def fvD : D -> Option D
 | .int i => if i.natAbs.log2 < 1920 then some (.str (toString i)) else none
 | .str y => if y.length <= LIM then some (.str y) else none
 | _ => none
@[simp] def xFv (e : XE) : XE := fun ρ => (e ρ).bind fvD
inductive SJ (K : W.Frag) : List TE -> List XE -> Prop
 | nil : SJ K [] []
 | cons {t : TE} {a : XE} {ts : List TE} {as : List XE} : SPk K t a -> SJ K ts as -> SJ K (t :: ts) (a :: as)
end
end M
namespace L2
open PySem PySem.Spec PyProof.Rows
section
variable {M : Model} {A : Around} {Ex : Value -> Shared -> Prop} {s : Shared}
end
section
variable {P : Program} {w : World} {K : W.Frag} {mg : Str -> Option Value} {base : Heap} {N : List Str} {qual : Str} {scope : Scope} {f : Addr} {cdv : Value} {A : Around} {outer : List Env} {s : Shared} {H : Hp} {E : XK}
end
section
variable {X : Cx} {pins : List (Addr × Obj)} {σ : St} {H : Hp} {s : Shared} {XN N : List Str} {sc scope : Scope} {js : List (Option Nat)}
variable {tg iter elt : Expr} {ifs : List Expr} {pos : Pos} {wi : TI} {g : TG} {tt : TIf} {te : TE} {E : XK}
end
section
variable {X : Cx}
end
end L2
namespace M
open PySem L2
section
variable {K : W.Frag} {S S' H H' : Hp} {E : XK}
@[simp] def xrOf (m : XS) : XR := fun ρ => match m ρ with | some (.nx ρ') => some (.nx ρ') | _ => none
@[simp] def xrOr (n : Env -> Option Str) (m : XS) : XR := fun ρ => match n ρ with | some N => some (.rz N) | none => (match m ρ with | some (.nx ρ') => some (.nx ρ') | _ => none)
@[simp] def xaHead (m : Env -> Option Str) : Env -> Option Str := m
@[simp] def xaTail (e : XE) (m : Env -> Option Str) : Env -> Option Str := fun ρ => (e ρ).bind fun _ => m ρ
@[simp] def xaOr (n : Env -> Option Str) (e : XE) (m : Env -> Option Str) : Env -> Option Str := fun ρ => match n ρ with | some N => some N | none => (e ρ).bind fun _ => m ρ
@[simp] def xeExt (i : Nat) (m : Env -> Option Str) : Env -> Option Str := fun ρ => match ρ[i]? with | some (.ow (.lst _)) => m ρ | _ => none
def compX (g : XG) (c : XT) (e : XE) (n : Env -> Option Str) (ρ0 : Env) : List D -> Option Str
 | [] => none
 | d :: l => (g d ρ0).bind fun ρ1 => (c ρ1).bind fun b => if b = true then (match n ρ1 with | some N => some N | none => (e ρ1).bind fun _ => compX g c e n ρ0 l) else compX g c e n ρ0 l
@[simp] def xeComp (js : List (Option Nat)) (w : XA) (g : XG) (c : XT) (e : XE) (n : Env -> Option Str) : Env -> Option Str := fun ρ => (w ρ).bind fun l => if l.length <= LIM then compX g c e n (innX js ρ) l else none
def loopX (g : XG) (m : XR) : List D -> Env -> Option RO
 | [], ρ => some (.nx ρ)
 | d :: l, ρ => (g d ρ).bind fun ρ1 => (m ρ1).bind fun o => match o with | .nx ρ2 => loopX g m l ρ2 | .rz N => some (.rz N)
@[simp] def xrFor (e : XA) (g : XG) (m : XR) : XR := fun ρ => (e ρ).bind fun l => loopX g m l ρ
end
end M
namespace L2
open PySem
structure Ak (CX : CXT) (n : Nat) (x : Str) (ps : List Str) (sp : W.Frag -> Sp) (P : Program) (w : World) (K : W.Frag) (mg : Str -> Option Value) (base : Heap) (f : Addr) (fd : FuncData) : Prop where
 G : FnOk P w K mg base CX n f fd ps (sp K)
 m : mg x = some (.ref f)
 k : W.keepIn K (.ref f) = true
 b : Binds K fd ps []
structure Am (n : Nat) (x : Str) (Ns : List Str) (ps : List Str) (sp : W.Frag -> Sp) (P : Program) (w : World) (K : W.Frag) (mg : Str -> Option Value) (base : Heap) (f : Addr) (fd : FuncData) : Prop where
 G : FnOk P w K mg base CX0 n f fd ps (sp K)
 b : Binds K fd ps []
 cm : ClsN K Ns fun C => Cls K C /\ Meth K C x f
structure Ac (CX : CXT) (n : Nat) (x : Str) (ps : List Str) (sp : W.Frag -> Sp) (P : Program) (w : World) (K : W.Frag) (mg : Str -> Option Value) (base : Heap) (c f : Addr) (fd : FuncData) : Prop where
 G : FnOk P w K mg base CX n f fd ps (sp K)
 b : Binds K fd ps []
 n : W.nsIn K mainGlobals x = some (some (.ref c))
 M : Mk K c f
 g : mg x = some (.ref c)
structure Ab (n : Nat) (x : Str) (ps : List Str) (sp : W.Frag -> Sp) (P : Program) (w : World) (K : W.Frag) (mg : Str -> Option Value) (base : Heap) (c f : Addr) (fd : FuncData) : Prop where
 G : FnOk P w K mg base CX0 n f fd ps (sp K)
 b : Binds K fd ps []
 cf : ClsFn K c "__init__" f
 g : mg x = some (.ref c)
theorem usS {us : List Value} {n : Nat} (h : us.length = n + 1) : ∃ a v, us = a :: v /\ v.length = n := by
 cases us with
 | nil => cases h
 | cons a v => exact ⟨a, v, rfl, Nat.succ.inj h⟩
theorem us1 {us : List Value} (h : us.length = 1) : ∃ a0, us = [a0] := by
 obtain ⟨a0, v0, rfl, h0⟩ := usS h
 cases v0 with
 | nil => exact ⟨a0, rfl⟩
 | cons a v => cases h0
theorem us2 {us : List Value} (h : us.length = 2) : ∃ a0 a1, us = [a0, a1] := by
 obtain ⟨a0, v0, rfl, h0⟩ := usS h
 obtain ⟨a1, v1, rfl, h1⟩ := usS h0
 cases v1 with
 | nil => exact ⟨a0, a1, rfl⟩
 | cons a v => cases h1
theorem us3 {us : List Value} (h : us.length = 3) : ∃ a0 a1 a2, us = [a0, a1, a2] := by
 obtain ⟨a0, v0, rfl, h0⟩ := usS h
 obtain ⟨a1, v1, rfl, h1⟩ := usS h0
 obtain ⟨a2, v2, rfl, h2⟩ := usS h1
 cases v2 with
 | nil => exact ⟨a0, a1, a2, rfl⟩
 | cons a v => cases h2
theorem us5 {us : List Value} (h : us.length = 5) : ∃ a0 a1 a2 a3 a4, us = [a0, a1, a2, a3, a4] := by
 obtain ⟨a0, v0, rfl, h0⟩ := usS h
 obtain ⟨a1, v1, rfl, h1⟩ := usS h0
 obtain ⟨a2, v2, rfl, h2⟩ := usS h1
 obtain ⟨a3, v3, rfl, h3⟩ := usS h2
 obtain ⟨a4, v4, rfl, h4⟩ := usS h3
 cases v4 with
 | nil => exact ⟨a0, a1, a2, a3, a4, rfl⟩
 | cons a v => cases h4
theorem clsN_nil {K : W.Frag} {P : Addr -> Prop} : ClsN K [] P := fun _ h => by cases h
theorem clsN_cons {K : W.Frag} {P : Addr -> Prop} {N : Str} {Ns : List Str} {c : Addr} (h : W.nsIn K mainGlobals N = some (some (.ref c))) (p : P c) (r : ClsN K Ns P) : ClsN K (N :: Ns) P := fun M hM C hC => by
 rcases List.mem_cons.mp hM with rfl | hM
 ·rw [h] at hC
  cases hC
  exact p
 ·exact r M hM C hC
end L2
namespace L2
open PySem PySem.Spec PyProof.Rows
section
variable {κ : Type} [DecidableEq κ]
def valV (kvs : List (κ × V)) (k : κ) : Option V := (kvs.find? fun kv => decide (kv.1 = k)).map (·.2)
def putK (kvs : List (κ × V)) (k : κ) (v : V) : List (κ × V) :=
 if (kvs.any fun kv => decide (kv.1 = k)) = true then kvs.map (fun kv => if kv.1 = k then (kv.1, v) else kv) else kvs ++ [(k, v)]
theorem valV_pos {p : κ × V} {r : List (κ × V)} {k : κ} (e : p.1 = k) : valV (p :: r) k = some p.2 := by simp [valV, List.find?_cons, e]
theorem valV_neg {p : κ × V} {r : List (κ × V)} {k : κ} (e : ¬ p.1 = k) : valV (p :: r) k = valV r k := by simp [valV, List.find?_cons, e]
theorem valV_any (k : κ) : ∀ kvs : List (κ × V), (kvs.any fun kv => decide (kv.1 = k)) = (valV kvs k).isSome
 | [] => rfl
 | p :: r => by
  rw [List.any_cons]
  by_cases e : p.1 = k
  ·simp only [valV_pos e, decide_eq_true e, Bool.true_or, Option.isSome_some]
  ·rw [valV_neg e, decide_eq_false e, Bool.false_or]; exact valV_any k r
theorem length_putK (kvs : List (κ × V)) (k : κ) (v : V) : (putK kvs k v).length <= kvs.length + 1 := by
 unfold putK
 split
 ·rw [List.length_map]; lia
 ·rw [List.length_append, List.length_cons, List.length_nil]; lia
theorem putK_new {kvs : List (κ × V)} {k : κ} (v : V) (h : valV kvs k = none) : putK kvs k v = kvs ++ [(k, v)] := by
 unfold putK
 rw [valV_any, h]
 exact if_neg (by decide)
theorem RelO.isSome_eq {o : Option V} {u : Option Value} (r : RelO o u) : o.isSome = u.isSome := by
 cases o with
 | none => cases u with
  | none => rfl
  | some _ => exact (show False from r).elim
 | some _ => cases u with
  | none => exact (show False from r).elim
  | some _ => rfl
theorem RelO.getD {o : Option V} {u : Option Value} {d : V} {d' : Value} (r : RelO o u) (rd : RelV d d') : RelV (o.getD d) (u.getD d') := by
 cases o with
 | none => cases u with
  | none => exact rd
  | some _ => exact (show False from r).elim
 | some _ => cases u with
  | none => exact (show False from r).elim
  | some _ => exact r
theorem KV.val {kvs : List (κ × V)} {vs : List (κ × Value)} (r : KV kvs vs) (k : κ) : RelO (valV kvs k) (valueAt vs k) := by
 unfold KV at r
 induction r with
 | nil => exact True.intro
 | @cons p q ps qs h t ih =>
  obtain ⟨h1, h2⟩ := h
  by_cases e : p.1 = k
  ·have e' : q.1 = k := h1.symm.trans e
   have b : valueAt (q :: qs) k = some q.2 := by simp [valueAt, List.find?_cons, e']
   rw [valV_pos e, b]; exact h2
  ·have e' : ¬ q.1 = k := fun z => e (h1.trans z)
   have b : valueAt (q :: qs) k = valueAt qs k := by simp [valueAt, List.find?_cons, e']
   rw [valV_neg e, b]; exact ih
theorem KV.any {kvs : List (κ × V)} {vs : List (κ × Value)} (r : KV kvs vs) (k : κ) : (kvs.any fun kv => decide (kv.1 = k)) = vs.any fun kv => decide (kv.1 = k) := by
 unfold KV at r
 induction r with
 | nil => rfl
 | cons h t ih => rw [List.any_cons, List.any_cons, ih, h.1]
theorem KV.repl {kvs : List (κ × V)} {vs : List (κ × Value)} (r : KV kvs vs) (k : κ) {y : V} {u : Value} (ry : RelV y u) :
  KV (kvs.map fun kv => if kv.1 = k then (kv.1, y) else kv) (vs.map fun kv => if kv.1 = k then (kv.1, u) else kv) := by
 unfold KV at r ⊢
 induction r with
 | nil => exact .nil
 | @cons p q ps qs h t ih =>
  rw [List.map_cons, List.map_cons]
  refine .cons ?_ ih
  obtain ⟨h1, h2⟩ := h
  by_cases e : p.1 = k
  ·rw [if_pos e, if_pos (h1.symm.trans e)]; exact ⟨h1, ry⟩
  ·rw [if_neg e, if_neg (fun z => e (h1.trans z))]; exact ⟨h1, h2⟩
theorem KV.put {kvs : List (κ × V)} {vs : List (κ × Value)} (r : KV kvs vs) (k : κ) {y : V} {u : Value} (ry : RelV y u) : KV (putK kvs k y) (stored vs k u) := by
 unfold putK stored
 rw [r.any k]
 by_cases e : (vs.any fun kv => decide (kv.1 = k)) = true
 ·rw [if_pos e, if_pos e]; exact r.repl k ry
 ·rw [if_neg e, if_neg e]; exact Paired.snoc r ⟨rfl, ry⟩
theorem KV.length {kvs : List (κ × V)} {vs : List (κ × Value)} (r : KV kvs vs) : kvs.length = vs.length := Paired.length r
end
theorem kV_is {P : Program} {w : World} {k : Key} {u : Value} (r : RelV (kV k) u) : (mixKind P w).is k u = true := by
 cases k with
 | inl i => obtain ⟨t, e⟩ := (show ∃ t, u = Value.int i t from r); subst e; exact mixKind_int P w i t
 | inr x => obtain ⟨t, e⟩ := (show ∃ t, u = Value.str x t from r); subst e; exact mixKind_str P w x t
theorem items_are {P : Program} {w : World} : ∀ {ks : List Key} {us : List Value}, Vals (ks.map kV) us -> ItemsAre (mixKind P w) ks us
 | [], _, r => by rw [List.map_nil] at r; cases r; exact .nil
 | k :: ks, _, r => by
  rw [List.map_cons] at r
  cases r with
  | cons h t => exact .cons (kV_is h) (items_are t)
abbrev KT (H : Hp) : List (List Key × V) -> List (List Key × Addr × Value) -> Prop := Paired fun p q => p.1 = q.1 /\ H q.2.1 = some (.tup (p.1.map kV)) /\ RelV p.2 q.2.2
theorem KT.val {H : Hp} {kvs : List (List Key × V)} {xs : List (List Key × Addr × Value)} (r : KT H kvs xs) (k : List Key) : RelO (valV kvs k) ((atKey xs k).map (·.2)) := by
 induction r with
 | nil => exact True.intro
 | @cons p q ps qs h t ih =>
  obtain ⟨h1, _, h2⟩ := h
  by_cases e : p.1 = k
  ·have e' : q.1 = k := h1.symm.trans e
   have b : atKey (q :: qs) k = some q.2 := by simp [atKey, List.find?_cons, e']
   rw [valV_pos e, b]; exact h2
  ·have e' : ¬ q.1 = k := fun z => e (h1.trans z)
   have b : atKey (q :: qs) k = atKey qs k := by simp [atKey, List.find?_cons, e']
   rw [valV_neg e, b]; exact ih
theorem KT.repl {H : Hp} {kvs : List (List Key × V)} {xs : List (List Key × Addr × Value)} (r : KT H kvs xs) (k : List Key) {y : V} {u : Value} (ry : RelV y u) :
  KT H (kvs.map fun kv => if kv.1 = k then (kv.1, y) else kv) (xs.map (putAt k u)) := by
 induction r with
 | nil => exact .nil
 | @cons p q ps qs h t ih =>
  rw [List.map_cons, List.map_cons]
  refine .cons ?_ ih
  obtain ⟨h1, h2, h3⟩ := h
  unfold putAt
  by_cases e : p.1 = k
  ·rw [if_pos e, if_pos (h1.symm.trans e)]; exact ⟨h1, h2, ry⟩
  ·rw [if_neg e, if_neg (fun z => e (h1.trans z))]; exact ⟨h1, h2, h3⟩
theorem KT.put {H : Hp} {kvs : List (List Key × V)} {xs : List (List Key × Addr × Value)} (r : KT H kvs xs) (k : List Key) {b : Addr} {y : V} {u : Value} (hb : H b = some (.tup (k.map kV))) (ry : RelV y u) :
  KT H (putK kvs k y) (storedH xs k b u) := by
 have e : (kvs.any fun kv => decide (kv.1 = k)) = (atKey xs k).isSome := by
  rw [valV_any, (r.val k).isSome_eq, Option.isSome_map]
 unfold putK storedH
 rw [e]
 by_cases q : (atKey xs k).isSome = true
 ·rw [if_pos q, if_pos q]; exact r.repl k ry
 ·rw [if_neg q, if_neg q]; exact Paired.snoc r ⟨rfl, hb, ry⟩
theorem KT.keeps {H H' : Hp} {kvs : List (List Key × V)} {xs : List (List Key × Addr × Value)} (r : KT H kvs xs) (ht : ∀ b ys, H b = some (.tup ys) -> H' b = some (.tup ys)) : KT H' kvs xs :=
 Paired.mapP r fun _ _ z => ⟨z.1, ht _ _ z.2.1, z.2.2⟩
section
variable {P : Program} {w : World} {H : Hp} {h : Heap} {a : Addr}
theorem rd_of {u : HO} (ok : HOk P w H h) (e : Rd H a u) : ObjOk P w H h a u := e.ok ok
theorem dk_rd {kvs : List (Key × V)} (ok : HOk P w H h) (e : Rd H a (.dK kvs)) : kvs.length <= sizeLine /\ (a == sysModules) = false /\ ∃ vs, KV kvs vs /\ h.DictOf (mixKind P w) a vs :=
 show ObjOk P w H h a (.dK kvs) from rd_of ok e
theorem dk_of {kvs : List (Key × V)} (ok : HOk P w H h) (e : H a = some (.dK kvs)) : kvs.length <= sizeLine /\ (a == sysModules) = false /\ ∃ vs, KV kvs vs /\ h.DictOf (mixKind P w) a vs := dk_rd ok (.inl e)
theorem key_of {ks : List Key} (ok : HOk P w H h) (e : H a = some (.tup (ks.map kV))) : (tupleKind (mixKind P w)).is h ks a := by
 obtain ⟨_, its, r, o, h1, h2, n, h3⟩ := (show ObjOk P w H h a (.tup (ks.map kV)) from ok a _ e)
 exact ⟨o, its.toArray, n, h1, h2, h3, by simpa using items_are r⟩
theorem dt_rd {kvs : List (List Key × V)} (ok : HOk P w H h) (e : Rd H a (.dT kvs)) : kvs.length <= sizeLine /\ (a == sysModules) = false /\
  ∃ xs, KT H kvs xs /\ h.DictOfH (tupleKind (mixKind P w)) a xs := by
 obtain ⟨z, y, xs, r, o, es, ep, h1, h2, h3, h4, h5⟩ := (show ObjOk P w H h a (.dT kvs) from rd_of ok e)
 refine ⟨z, y, xs, r, o, es, ep, h1, h2, h3, h4, fun x hx => ?_, h5⟩
 have all : ∀ {l : List (List Key × V)} {m : List (List Key × Addr × Value)}, KT H l m -> ∀ x ∈ m, (tupleKind (mixKind P w)).is h x.1 x.2.1 := by
  intro l m q
  induction q with
  | nil => intro x hx; exact nomatch hx
  | @cons p q ps qs hq t ih =>
   intro x hx
   rcases List.mem_cons.mp hx with e | hx
   ·subst e
    exact key_of ok (by rw [<- hq.1]; exact hq.2.1)
   ·exact ih x hx
 exact all r x hx
theorem dt_of {kvs : List (List Key × V)} (ok : HOk P w H h) (e : H a = some (.dT kvs)) : kvs.length <= sizeLine /\ (a == sysModules) = false /\
  ∃ xs, KT H kvs xs /\ h.DictOfH (tupleKind (mixKind P w)) a xs := dt_rd ok (.inl e)
end
def DPut (H : Hp) (a : Addr) (y v : V) (H' : Hp) : Prop :=
 (∃ kvs k, H a = some (.dK kvs) /\ y = kV k /\ kvs.length < sizeLine /\ H' = upd H a (.dK (putK kvs k v))) \/
 ∃ kvs k b, H a = some (.dT kvs) /\ y = .ref b /\ H b = some (.tup (k.map kV)) /\ kvs.length < sizeLine /\ H' = upd H a (.dT (putK kvs k v))
section
variable {X : Cx} {pins : List (Addr × Obj)} {σ : St} {H : Hp} {s : Shared} {a : Addr} {y v : V} {u r : Value} {o : Option V} {A : Around} {E : Value -> Shared -> Prop}
theorem Inv.big (I : Inv X pins σ H s) : sysModules < s.heap.objs.size := by
 have h : mainGlobals < s.heap.objs.size := (I.mod.glob.keeps I.bk).lt
 exact Nat.lt_trans (by decide) h
theorem d_write {h' : Heap} {t' : Nat} {ob : HO} (I : Inv X pins σ H s) (mu : Mut (H a)) (hs : Heap.SameBut a s.heap h') (he : ∃ q, h'.get? a = some q) (new : ObjOk X.prog X.w (upd H a ob) h' a ob) :
  Inv X pins σ (upd H a ob) { s with heap := h', toks := t' } :=
 I.write (x := a) (e := a) mu (.inl rfl) (fun b q hb z => (hs.2 b hb).trans z) he new
theorem dk_new {P : Program} {w : World} {H' : Hp} {h' : Heap} {kvs : List (Key × V)} {vs : List (Key × Value)} (z : kvs.length <= sizeLine) (hd : (a == sysModules) = false) (rel : KV kvs vs) (dd : h'.DictOf (mixKind P w) a vs) :
  ObjOk P w H' h' a (.dK kvs) := ⟨z, hd, vs, rel, dd⟩
theorem d_setItem {H' : Hp} {Q : Unit -> Shared -> Prop} (hu : A.units + 1 < cLine) (I : Inv X pins σ H s) (g : DPut H a y v H') (ry : RelV y u) (rv : RelV v r) (h : ∀ s', Inv X pins σ H' s' -> Q () s') :
  wpAny (model X.prog X.w) A (setItem (.ref a) u r) Q E s := by
 rcases g with ⟨kvs, k, e, ey, l, eH⟩ | ⟨kvs, k, b, e, ey, eb, l, eH⟩
 ·subst ey eH
  obtain ⟨z, hd, vs, rel, dd⟩ := dk_of I.hok e
  have hz : vs.length <= sizeLine := by rw [<- rel.length]; exact z
  have hl : (putK kvs k v).length <= sizeLine := by have := length_putK kvs k v; lia
  refine wpAny_setItem_pairs (hsz := hz) (kV_is ry) dd fun h' dd' hs => h _ ?_
  have he : ∃ q, h'.get? a = some q := let ⟨q, _, _, hq, _⟩ := dd'; ⟨q, hq⟩
  exact d_write I (by rw [e]; exact True.intro) hs he (dk_new hl hd (rel.put k rv) dd')
 ·subst ey eH
  cases (show u = Value.ref b from ry)
  obtain ⟨z, hd, xs, rel, dd⟩ := dt_of I.hok e
  have hz : xs.length <= sizeLine := by rw [<- Paired.length rel]; exact z
  have hl : (putK kvs k v).length <= sizeLine := by have := length_putK kvs k v; lia
  refine wpAny_setItem_heap (hsz := hz) (tupleKind_room_in1 hu) (key_of I.hok eb) dd fun h' dd' hs => h _ ?_
  obtain ⟨q, es, ep, hq, h2, h3, h4, _, h5⟩ := dd'
  refine d_write I (by rw [e]; exact True.intro) hs ⟨q, hq⟩ ⟨hl, hd, _, (rel.put k eb rv).keeps fun c ys ec => ?_, q, es, ep, hq, h2, h3, h4, h5⟩
  rw [upd_ne (ne_of ec e (fun z => nomatch z))]
  exact ec
end
section
variable {X : Cx} {pins : List (Addr × Obj)} {σ : St} {H : Hp} {s : Shared} {a : Addr} {kvs : List (Key × V)} {k : Key} {u : Value} {A : Around} {E : Value -> Shared -> Prop}
end
def sDPut (td ty tv : TE) : TS := fun D σ H => tv σ H fun v H1 => td σ H1 fun x H2 => ty σ H2 fun y H3 => ∃ a H4, x = .ref a /\ DPut H3 a y v H4 /\ D.nx σ H4
section
variable {X : Cx} {o i e value : Expr} {pos pos' tpos : Pos} {td ty tv : TE}
theorem ps_dput (hu : X.A.units + 1 < cLine) (ho : PE X o td) (hi : PE X i ty) (hv : PE X value tv) (hs : swapsWith value (some (.Subscript o i pos')) pos.line X.env = pure false) :
  PS X (.Assign [.Subscript o i pos'] value pos) (sDPut td ty tv) := by
 intro pins s σ H D I h
 refine wpAny_Assign_Subscript (thn (hv pins s σ H _ I h) fun r s1 ⟨v, H1, I1, rv, q1⟩ => thn (ho pins s1 σ H1 _ I1 q1) fun u s2 ⟨x, H2, I2, rx, q2⟩ => thn (hi pins s2 σ H2 _ I2 q2) fun iv s3 hpt9 => ?_) hs
 obtain ⟨y, H3, I3, ry, a, H4, ex, g, q3⟩ := hpt9
 subst ex
 obtain rfl : u = Value.ref a := rx
 exact d_setItem hu I3 g ry rv fun s4 I4 => ⟨σ, H4, I4, q3⟩
end
theorem dt_empty {P : Program} {w : World} {H : Hp} (h : Heap) (hb : sysModules < h.objs.size) : ObjOk P w H (h.push { cls := .type "dict", data := .dict #[] }) h.objs.size (.dT []) :=
 ⟨Nat.zero_le _, beq_eq_false_iff_ne.mpr (Ne.symm (Nat.ne_of_lt hb)), [], .nil, _, #[], 0, Heap.get?_push_size _ rfl, ⟨rfl, rfl, rfl⟩, rfl, rfl, List.nodup_nil⟩
def tDNewT : TE := fun _ H Q => ∀ p, H p = none -> Q (.ref p) (upd H p (.dT []))
section
variable {X : Cx} {pos : Pos}
theorem pe_dnewT : PE X (.Dict [] [] pos) tDNewT := fun pins s σ H Q I h =>
 wpAny_Dict_empty ⟨.ref s.heap.objs.size, _, I.laid (a := s.heap.objs.size) (o := .dT []) (t' := s.toks) (fun _ _ q => Heap.get?_push_of_some _ q) (Nat.le_refl _) (dt_empty s.heap I.big), rfl, h _ (I.hok.fresh (Nat.le_refl _))⟩
end
section
variable {X : Cx} {pins : List (Addr × Obj)} {σ : St} {H : Hp} {s : Shared} {a : Addr} {y d : V} {u r : Value} {o : Option V} {A : Around} {E : Value -> Shared -> Prop}
end
section
variable {X : Cx} {o e f : Expr} {apos cpos : Pos} {td ty tx : TE}
end
end L2
namespace PySem
namespace DX
section
variable {prog : Program} {w : World} {A : Around} {E : Value -> Shared -> Prop} {s : Shared} {a : Addr} {its : Array Value} {n : Nat} {α : Type}
end
end DX
end PySem
namespace L2
open PySem PySem.Spec PyProof.Rows
section
variable {X : Cx} {pins : List (Addr × Obj)} {σ : St} {H : Hp} {s : Shared} {a b : Addr} {kvs : List (List Key × V)} {k : List Key} {v : V} {r : Value} {A : Around} {E : Value -> Shared -> Prop}
end
section
variable {X : Cx} {pins : List (Addr × Obj)} {σ : St} {A : Around} {a l it : Addr} {xs : List V}
end
theorem un1 {A : Around} (h : A.units + 64 < cLine) : A.units + 1 < cLine := Nat.lt_of_le_of_lt (Nat.add_le_add_left (by decide) _) h
end L2
namespace M
open PySem L2
section
variable {K : W.Frag} {S S' H H' : Hp}
theorem tup_at {l : List D} {v : V} (h : Den K S (.tup l) v) : ∃ p xs, v = .ref p /\ S p = some (.tup xs) /\ Dens K S l xs := by
 obtain ⟨p, xs, e, h1, h2⟩ := den_tup.mp h
 exact ⟨p, xs, e, h1, h2⟩
def kyD : D -> Option (List Int)
 | .tup l => intsOf l
 | _ => none
abbrev kI (k : List Int) : List Key := k.map Sum.inl
theorem kI_V (k : List Int) : (kI k).map kV = k.map V.int := by rw [List.map_map]; rfl
theorem kI_inj {a b : List Int} (h : kI a = kI b) : a = b := by
 induction a generalizing b with
 | nil => cases b with
  | nil => rfl
  | cons _ _ => cases h
 | cons x a ih => cases b with
  | nil => cases h
  | cons y b =>
   injection h with h1 h2
   injection h1 with h1
   rw [h1, ih h2]
theorem key_at {d : D} {k : List Int} {v : V} (h : Den K S d v) (e : kyD d = some k) : ∃ p, v = .ref p /\ S p = some (.tup ((kI k).map kV)) := by
 cases d <;> try (cases e; done)
 obtain ⟨p, xs, rfl, h1, h2⟩ := tup_at h
 obtain ⟨rfl, _⟩ := ints_dens h2 e
 exact ⟨p, rfl, by rw [kI_V]; exact h1⟩
theorem val_dic (q : List Int) : ∀ ks : List (List Int), (valV (dicV ks) (kI q)).isSome = ks.contains q
 | [] => rfl
 | k :: ks => by
  have ih := val_dic q ks
  by_cases h : k = q
  ·subst h
   show (valV ((kI k, V.bl true) :: dicV ks) (kI k)).isSome = _
   rw [valV_pos rfl]
   simp
  ·show (valV ((kI k, V.bl true) :: dicV ks) (kI q)).isSome = _
   rw [valV_neg (fun z => h (kI_inj z)), ih]
   rw [List.contains_cons]
   have : (q == k) = false := by simpa using fun z => h z.symm
   rw [this, Bool.false_or]
def addK (ks : List (List Int)) (q : List Int) : List (List Int) := if ks.contains q then ks else ks ++ [q]
theorem dicV_app (a b : List (List Int)) : dicV (a ++ b) = dicV a ++ dicV b := by unfold dicV; rw [List.map_append]
theorem put_dic (ks : List (List Int)) (q : List Int) : putK (dicV ks) (kI q) (.bl true) = dicV (addK ks q) := by
 unfold addK
 cases h : ks.contains q with
 | false =>
  have hv : valV (dicV ks) (kI q) = none := by
   have := val_dic q ks
   rw [h] at this
   cases z : valV (dicV ks) (kI q) with
   | none => rfl
   | some _ => rw [z] at this; cases this
  rw [putK_new _ hv, if_neg (by decide), dicV_app]
  rfl
 | true =>
  rw [if_pos rfl]
  have ha : ((dicV ks).any fun kv => decide (kv.1 = kI q)) = true := by rw [valV_any, val_dic, h]
  unfold putK
  rw [if_pos ha]
  unfold dicV
  rw [List.map_map]
  refine List.map_congr_left fun k _ => ?_
  show (if kI k = kI q then (kI k, V.bl true) else (kI k, V.bl true)) = _
  split <;> rfl
theorem dicV_len (ks : List (List Int)) : (dicV ks).length = ks.length := List.length_map _
theorem addK_len (ks : List (List Int)) (q : List Int) : (addK ks q).length <= ks.length + 1 := by
 unfold addK
 split
 ·lia
 ·rw [List.length_append]; exact Nat.le_refl _
@[simp] def xDic1 (k : XE) : Env -> Option O := fun ρ => (k ρ).bind fun d => (kyD d).map fun q => .dic [q]
@[simp] def xDic0 : Env -> Option O := fun _ => some (.dic [])
theorem s_dic0 : STr K tDNewT xDic0 := fun ρ σ S H Q o r x c => by
 cases x
 intro p hp
 exact c (.ref p) [p] S _ (Ext.own r.sub hp) (own_dic.mpr ⟨p, rfl, rfl, upd_same⟩) (List.nodup_cons.mpr ⟨by simp, List.nodup_nil⟩) fun c' hc => by rw [List.mem_singleton.mp hc]; exact ⟨hp, r.sub.free hp⟩
def dicAt (ρ : Env) (i : Nat) : Option (List (List Int)) := match ρ[i]? with
 | some (.ow (.dic ks)) => some ks
 | some (.sh (.dic ks)) => some ks
 | _ => none
theorem dic_at {ρ : Env} {σ : St} {i : Nat} {ks : List (List Int)} (r : Rl K ρ σ S H) (h : dicAt ρ i = some ks) : ∃ a, σ[i]? = some (some (.ref a)) /\ Rd H a (.dT (dicV ks)) := by
 unfold dicAt at h
 split at h
 ·rename_i ks' q
  cases h
  obtain ⟨v, fp, e, ow, _⟩ := r.ow i _ q
  obtain ⟨a, rfl, _, ha⟩ := own_dic.mp ow
  exact ⟨a, e, .inl ha⟩
 ·rename_i ks' q
  cases h
  obtain ⟨v, e, dv⟩ := r.sh i _ q
  obtain ⟨a, rfl, ha⟩ := den_dic.mp dv
  exact ⟨a, e, rd_mono r.sub ha⟩
 ·cases h
@[simp] def xInD (neg : Bool) (k : XE) (i : Nat) : XE := fun ρ => (k ρ).bind fun d => (kyD d).bind fun q => (dicAt ρ i).map fun ks => .bl (if neg then !(ks.contains q) else ks.contains q)
theorem RlF.dic {A : Hp} {Λ : Nat -> Option Addr} {Φ : Nat -> List Addr} {ρ : Env} {σ : St} {i : Nat} {ks : List (List Int)} (f : RlF K A Λ Φ ρ σ S H) (h : ρ[i]? = some (.ow (.dic ks))) :
  ∃ a, σ[i]? = some (some (.ref a)) /\ H a = some (.dT (dicV ks)) /\ ∀ ks', RlA K A Λ (ρ.set i (.ow (.dic ks'))) σ S (upd H a (.dT (dicV ks'))) := by
 obtain ⟨v, ev, ow, nd, n⟩ := f.ow i _ h
 obtain ⟨a, rfl, hfp, ha⟩ := own_dic.mp ow
 have ain : a ∈ Φ i := by rw [hfp]; exact List.mem_cons_self
 refine ⟨a, ev, ha, fun ks' => ?_⟩
 have ne : ∀ b, b ≠ a -> upd H a (.dT (dicV ks')) b = H b := fun b hb => upd_ne hb
 have sub' : Same S (upd H a (.dT (dicV ks'))) := fun b u e => by rw [ne b fun z => by subst z; rw [(n b ain).1] at e; cases e]; exact f.sub b u e
 have asub' : Same A (upd H a (.dT (dicV ks'))) := fun b u e => by rw [ne b fun z => by subst z; rw [(n b ain).2] at e; cases e]; exact f.asub b u e
 have fin := f.put (H' := upd H a (.dT (dicV ks'))) i sub' asub' (own_dic.mpr ⟨a, rfl, rfl, upd_same⟩) (List.nodup_cons.mpr ⟨by simp, List.nodup_nil⟩) (fun b hb => by rw [List.mem_singleton.mp hb]; exact n a ain) fun j o' hj e1 b hb => by
  have nb : b ∉ Φ i := fun z => f.dj j i o' _ hj e1 h b hb z
  exact ⟨ne b fun z => nb (z ▸ ain), fun z => nb (by rw [List.mem_singleton.mp z]; exact ain)⟩
 rw [set_same ev] at fin
 exact ⟨_, fin⟩
@[simp] def xPutD (i : Nat) (k : XE) : XS := fun ρ => match ρ[i]? with
 | some (.ow (.dic ks)) => (k ρ).bind fun d => (kyD d).bind fun q => if ks.length < LIM then some (.nx (ρ.set i (.ow (.dic (addK ks q))))) else none
 | _ => none
theorem s_putD {tk : TE} {k : XE} {i : Nat} (h : SE K tk k) : SS K (sDPut (tVar i) tk (tC (.bl true))) (xPutD i k) := fun A Λ ρ σ S H E o r x c => by
 unfold xPutD at x
 split at x <;> try (cases x; done)
 rename_i ks q0
 cases qk : k ρ with
 | none => rw [qk] at x; cases x
 | some d =>
  rw [qk] at x
  dsimp only [Option.bind] at x
  cases qd : kyD d with
  | none => rw [qd] at x; cases x
  | some q =>
   rw [qd] at x
   dsimp only at x
   split at x <;> try (cases x; done)
   rename_i hl
   cases x
   obtain ⟨Φ, f⟩ := r
   obtain ⟨a, ev, _, _⟩ := f.dic q0
   refine ⟨.ref a, ev, h ρ σ S H _ d ⟨A, Λ, Φ, f⟩ qk fun v S1 H1 z1 d1 => ?_⟩
   obtain ⟨b, rfl, hb⟩ := key_at d1 qd
   obtain ⟨a', ev', ha, up⟩ := (f.ext z1).dic q0
   rw [ev] at ev'
   cases ev'
   refine ⟨a, _, rfl, .inr ⟨_, kI q, b, ha, rfl, z1.sub b _ hb, ?_, rfl⟩, ?_⟩
   ·rw [dicV_len]; exact Nat.lt_trans hl lim_lt
   ·rw [put_dic]
    exact c σ S1 _ (up _) z1.sh
def pairsD : List D -> Option (List (List Int))
 | [] => some []
 | .tup [d, .bl true] :: l => (kyD d).bind fun q => (pairsD l).map fun qs => q :: qs
 | _ => none
@[simp] def xUpdD (i : Nat) (e : XA) : XS := fun ρ => match ρ[i]? with
 | some (.ow (.dic ks)) => (e ρ).bind fun l => (pairsD l).bind fun qs => if ks.length + l.length < LIM then some (.nx (ρ.set i (.ow (.dic (qs.foldl addK ks))))) else none
 | _ => none
end
end M
namespace L2
open PySem PySem.Spec PyProof.Rows M
section
variable {X : Cx}
end
end L2
namespace M
open PySem L2
section
variable {K : W.Frag}
end
end M
namespace L2
open PySem PySem.Spec PyProof.Rows
def Itrs (a c : Int) (n : Nat) : It := ⟨fun i _ => i < n, fun i H x H' => H' = H /\ x = .int (a + i * c), fun i _ => n <= i⟩
def iRngS (ta : TA) : TI := fun σ H R => ta σ H fun vs H1 => ∃ a j c : Int, vs = [.int a, .int j, .int c] /\ c ≠ 0 /\ (-1000000 < c /\ c < 1000000) /\ Builtin.Range.small a j c = true /\ R (Itrs a c (Builtin.Range.rangeSize a j c).toNat) H1
section
variable {X : Cx} {tg : Expr}
theorem turn_step {P : Program} {w : World} {K : W.Frag} (it : Addr) (a c : Int) (n : Nat) : Turn P w K tg (Itrs a c n) [it] it (fun i h => IsRangeIter h it (a + (i : Nat) * c) ((n : Int) - (i : Nat)) c) where
 mem := by simp
 obj := fun i h st b hb => by
  rw [List.mem_singleton.mp hb]
  exact ⟨_, st, fun v z => by have z' : Data.fields _ = Data.cell v := z; cases z'⟩
 keep := fun i h h' st k => k it (by simp) _ st
 item := by
  intro X hP hw hK hc i pins s σ H E I hf st hg
  subst hP hw hK
  obtain ⟨f0, f1, f2, f3, f4, f5⟩ := hf it (by simp)
  refine (Walks.range (prog := X.prog) (w := X.w) (I.ok.hd hc) it a c n).item i s _ _ hg st fun v h' tk hv st' kk => ?_
  obtain ⟨t, rfl⟩ := hv
  have I1 : Inv X pins σ H { s with heap := h', toks := tk } := I.turned (fun b o hb e => kk b o (fun z => hb (List.mem_singleton.mp z)) e) f0 f1 f3 f4 f5
  exact ⟨_, rfl, go_of (s := { s with heap := h', toks := tk }) (n := "range_iterator") st' rfl rfl (by decide) ⟨.int (a + i * c), H, I1, ⟨t, rfl⟩, ⟨rfl, rfl⟩, st', fun b hb => (hf b hb).1⟩⟩
 done := by
  intro X hP hw hK hc i pins s σ H E I hf st hg
  subst hP hw hK
  obtain ⟨f0, f1, f2, f3, f4, f5⟩ := hf it (by simp)
  exact wpAny_pyNext_range_end (I.ok.hd hc) st (by have : n <= i := hg; lia) fun h' eb => ⟨rfl, I.turned (t' := s.toks) (fun b o hb e => eb b o hb e) f0 f1 f3 f4 f5⟩
 self := fun _ _ _ _ _ st h => wpAny_pyIter_rangeiter st h
theorem step_it {pins : List (Addr × Obj)} {σ : St} {H : Hp} {s : Shared} {R : It -> Hp -> Prop} {E : Value -> Shared -> Prop} {a j c : Int} {t u v : Tok} {tk : Nat} (I : Inv X pins σ H s) (hs : Builtin.Range.small a j c = true) (q : R (Itrs a c (Builtin.Range.rangeSize a j c).toNat) H) :
  wpAny (model X.prog X.w) X.A (pyIter (.ref s.heap.objs.size)) (PIE X pins σ tg R) E { s with heap := s.heap.push { cls := .type "range", data := .fields #[.int a t, .int j u, .int c v] }, toks := tk } := by
 refine wpAny_pyIter_range (IsRange.new ..) hs ?_
 have I1 : Inv X pins σ H { s with heap := s.heap.push { cls := .type "range", data := .fields #[.int a t, .int j u, .int c v] }, toks := tk } := I.kept fun b o e => Heap.get?_push_of_some _ e
 refine ⟨(s.heap.push { cls := .type "range", data := .fields #[.int a t, .int j u, .int c v] }).objs.size, [(s.heap.push { cls := .type "range", data := .fields #[.int a t, .int j u, .int c v] }).objs.size], _, _, H, rfl, I1.kept (t' := tk) fun b o e => Heap.get?_push_of_some _ e, turn_step _ a c (Builtin.Range.rangeSize a j c).toNat, ?_, fun b hb => ?_, q⟩
 ·have e1 : a + ((0 : Nat) : Int) * c = a := by simp
  have e2 : (((Builtin.Range.rangeSize a j c).toNat : Nat) : Int) - ((0 : Nat) : Int) = Builtin.Range.rangeSize a j c := by rw [<- rangeSize_toNat]; simp
  show IsRangeIter _ _ (a + ((0 : Nat) : Int) * c) ((((Builtin.Range.rangeSize a j c).toNat : Nat) : Int) - ((0 : Nat) : Int)) c
  rw [e1, e2]
  exact Heap.get?_push_size _ rfl
 ·rw [List.mem_singleton.mp hb]
  exact I1.fpOk (Nat.le_refl _) I1.fresh
theorem pi_rangeS {a b c : Expr} {ta : TA} {p pos : Pos} (hg : Gl X "range") (hm : X.mg "range" = none) (ha : PA X [a, b, c] ta) (hs : starEach [a, b, c] X.env = (false, eval a X.env) :: starEach [b, c] X.env := by rfl)
  (hp : (backTo pos (starEach [b, c] X.env)).any (·.1) = false := by rfl) : PI X tg (.Call (.Name "range" p) [a, b, c] [] pos) (iRngS ta) := by
 intro pins s σ H R I h
 refine Call_ (ld_blt I hg hm boot_range (PyProof.Rows.callWith_type1 (thn (ha pos pins s σ H _ I h) fun us s1 h1 => ?_) hs hp))
 obtain ⟨vs, H1, I1, r1, x, j, y, rfl, q1, ⟨q3, q4⟩, q2, q⟩ := h1
 cases r1 with
 | cons r rr =>
  cases rr with
  | cons r' rr =>
   cases rr with
   | cons r'' rr =>
    cases rr
    obtain ⟨t, rfl⟩ := r
    obtain ⟨t', rfl⟩ := r'
    obtain ⟨t'', rfl⟩ := r''
    exact call_range_3 q1 (step_it I1 q2 q)
end
end L2
namespace M
open PySem L2
section
variable {K : W.Frag} {S H : Hp}
def stepsD (a c : Int) (n : Nat) : List D := (List.range n).map fun i : Nat => D.int (a + (i : Int) * c)
def rngSD : List D -> Option (List D)
 | [.int a, .int j, .int c] => ifC (c ≠ 0 /\ (-1000000 < c /\ c < 1000000) /\ Builtin.Range.small a j c = true) (some (stepsD a c (Builtin.Range.rangeSize a j c).toNat)) none
 | _ => none
@[simp] def xRngS (a : XA) : XA := fun ρ => (a ρ).bind rngSD
theorem i_rngS {t : TA} {a : XA} (h : SAP K t a) : SI K (iRngS t) (xRngS a) := fun ρ σ S H R l r x k => by
 unfold xRngS at x
 cases q : a ρ with
 | none => rw [q] at x; cases x
 | some ds =>
  rw [q] at x
  dsimp only [Option.bind] at x
  unfold rngSD at x
  split at x
  ·rename_i aa j bb
   obtain ⟨⟨h1, h3, h2⟩, rfl⟩ := ifC_some x
   refine h ρ σ S H _ _ r q fun vs S1 H1 z1 d1 => ?_
   cases d1 with
   | cons a1 d1 => cases d1 with
    | cons a2 d1 => cases d1 with
     | cons a3 d1 =>
      cases d1
      refine ⟨aa, j, bb, by rw [a1.int, a2.int, a3.int], h1, h3, h2, k _ S1 H1 z1 fun S' H' _ _ => ⟨fun i d h => ?_, by unfold stepsD; rw [List.length_map, List.length_range]; exact Nat.le_refl _⟩⟩
      unfold stepsD at h
      rw [List.getElem?_map] at h
      cases qi : (List.range (Builtin.Range.rangeSize aa j bb).toNat)[i]? with
      | none => rw [qi] at h; cases h
      | some i' =>
       rw [qi] at h
       cases h
       obtain ⟨hi, e⟩ := List.getElem?_eq_some_iff.mp qi
       rw [List.getElem_range] at e
       subst e
       rw [List.length_range] at hi
       exact ⟨hi, fun x H'' y => ⟨y.1, den_int.mpr y.2⟩⟩
  ·cases x
end
end M
namespace L2
open PySem PySem.Spec PyProof.Rows
section
variable {X : Cx}
end
end L2
namespace M
open PySem L2
section
variable {K : W.Frag}
def lstRD : D -> Option (List D)
 | .int j => ifC (0 <= j /\ j < 1000000) (some ((List.range j.toNat).map fun i : Nat => D.int (i : Int))) none
 | _ => none
@[simp] def xListR (a : XE) : XA := fun ρ => (a ρ).bind lstRD
end
end M
namespace L2
open PySem PySem.Spec PyProof.Rows
section
variable {X : Cx} {pins : List (Addr × Obj)} {σ : List (Option V)} {H H' : Hp} {s : Shared} {h' : Heap}
end
section
variable {X : Cx}
end
end L2
namespace M
open PySem L2
section
variable {K : W.Frag} {S S' H H' : Hp}
def enL (k : Nat) : List D -> List D
 | [] => []
 | d :: l => .tup [.int (k : Int), d] :: enL (k + 1) l
@[simp] def xEnI (a : XE) : XA := fun ρ => (a ρ).bind fun d => match d with | .lst l => some (enL 0 l) | _ => none
end
end M
namespace L2
open PySem PySem.Spec PyProof.Rows M
section
variable {X : Cx}
end
end L2
namespace M
open PySem L2
section
variable {K : W.Frag}
end
section
variable {K : W.Frag} {S S' H H' : Hp}
@[simp] def xItT (i : Nat) (p : XP) : XA := fun ρ => match ρ[i]? with
 | some (.ow o) => (p ρ).bind fun is => match subO o is with | some (.lst l) => shs l | _ => none
 | _ => none
end
end M
namespace TL
open PySem PyProof.Rows
section
variable {prog : Program} {w : World} {A : Around} {E : Value -> Shared -> Prop} {s : Shared}
end
end TL
namespace L2
open PySem PySem.Spec PyProof.Rows
section
variable {X : Cx}
end
end L2
namespace M
open PySem L2
section
variable {K : W.Frag}
end
end M
namespace L2
open PySem PySem.Spec PyProof.Rows
section
variable {X : Cx}
end
end L2
namespace M
open PySem L2
section
variable {K : W.Frag}
end
end M
namespace TL
open PySem PyProof.Rows
section
variable {prog : Program} {w : World} {A : Around} {R : Result -> Shared -> Prop} {I : Addr} {fp wr : List Addr} {n : Nat} {P : Nat -> Value -> Prop} {St : Nat -> Heap -> Prop} {h0 : Heap}
end
section
variable {prog : Program} {w : World} {A : Around} {E : Value -> Shared -> Prop} {s : Shared}
end
end TL
namespace L2
open PySem PySem.Spec PyProof.Rows
section
variable {X : Cx}
end
end L2
namespace M
open PySem L2
section
variable {K : W.Frag}
end
section
variable {K : W.Frag} {S S' H H' : Hp}
end
section
variable {K : W.Frag}
@[simp] def xChain (f g : D -> D -> Option D) (a b c : XE) : XE := fun ρ => (a ρ).bind fun x => (b ρ).bind fun y => (f x y).bind fun z => match z with
 | .bl true => (c ρ).bind fun w => g y w
 | .bl false => some (.bl false)
 | _ => none
end
end M
namespace L2
open PySem
section
variable {X : Cx}
end
end L2
namespace M
open PySem L2
section
variable {K : W.Frag}
end
end M
namespace DL
open PySem
section
variable {prog : Program} {w : World} {A : Around} {E : Value -> Shared -> Prop} {s : Shared}
theorem meets_len {d : Addr} (hd : (d == sysModules) = false) :
  MeetsIn prog w (Builtin.«dict.__len__» ⟨[.ref d], []⟩) (fun _ R s => ∃ o es ep, s.heap.get? d = some o /\ o.data = .dict es ep /\ R (.ok (.ret (.int es.size s.toks))) { s with toks := s.toks + 1 }) :=
 .of_wp fun A R s hpt0 => by
  obtain ⟨o, es, ep, ho, hdat, h⟩ := hpt0
  show wpAny _ _ (dictSize d >>= _) _ _ s
  unfold dictSize
  refine wpAny_bind (wpAny_bind (wpAny_dictEntries ho hdat (wpAny_pure ?_)))
  show wpAny _ _ (Builtin.Dict.pendingCount d >>= _) _ _ s
  refine wpAny_bind (wpAny_pendingCount_other hd ?_)
  refine wpAny_ret_mkInt ?_
  rw [Nat.add_zero]; exact h
theorem call_len_of {d : Addr} {o : Obj} {es : Array DictEntry} {ep : Nat} {Q : Value -> Shared -> Prop} (hd : (d == sysModules) = false) (ho : s.heap.get? d = some o) (hx : o.ExactDict) (hdat : o.data = .dict es ep) (hfit : (es.size : Int) < 2 ^ 63)
  (h : Q (.int es.size (s.toks + 1)) { s with toks := s.toks + 1 + 1 }) : wpAny (model prog w) A (call (.builtin "len") [.ref d]) Q E s := by
 have hT : s.TypeIs (.ref d) "dict" := ⟨o, ho, hx.1⟩
 refine Calls.call_function_entry kind_len plain_len entry_len (args_len1 _) ?_
 unfold Builtin.«len»
 refine wpAny_bind (m := oneArg "len" _) (wpAny_pure ?_)
 refine wpAny_bind (m := callSpecial? (.ref d) (Str.ofString "__len__")) (wpAny_callSpecial?_slot (name := Str.ofString "__len__") hT F.slot_dict_len
  (call_meetsIn F.slot_dict_len hT F.entry_dict_len (F.args_dict_len_1 _) (meets_len hd) ⟨o, es, ep, ho, hdat, ?_⟩))
 show wpAny _ _ _ _ _ { s with toks := s.toks + 1 }
 refine wpAny_bind (wpAny_holding (wpAny_pure ?_))
 refine wpAny_bind (wpAny_letGo ?_)
 show wpAny _ _ (if ((es.size : Nat) : Int) < 0 then _ else _) _ _ _
 rw [if_neg (by lia)]
 show wpAny _ _ (if ((es.size : Nat) : Int) ≥ 2 ^ 63 then _ else _) _ _ _
 rw [if_neg (by lia)]
 exact wpAny_bind (wpAny_mkInt (wpAny_pure ⟨_, rfl, h⟩))
end
end DL
namespace L2
open PySem
def rLenT : List V -> Hp -> VK -> Prop := fun xs H Q => ∃ a kvs, xs = [V.ref a] /\ Rd H a (.dT kvs) /\ Q (.int kvs.length) H
section
variable {X : Cx}
theorem call_lenT : CallR X (.builtin "len") rLenT := by
 intro pins s σ H xs us Q I r h
 obtain ⟨a, kvs, rfl, ha, q⟩ := h
 obtain ⟨u, rfl, ru⟩ := r.one
 cases ru
 obtain ⟨z, hd, vs, rel, o, es, ep, h1, h2, h3, h4, h5⟩ := dt_rd I.hok ha
 have hl : es.size = kvs.length := by
  have := congrArg List.length h4
  rw [List.length_map, Array.length_toList] at this
  rw [this, Paired.length rel]
 refine DL.call_len_of hd h1 h2 h3 (by rw [hl]; rw [sizeLine_eq] at z; lia) ?_
 rw [hl]
 exact ⟨.int kvs.length, H, I.tok _, ⟨_, rfl⟩, q⟩
end
end L2
namespace M
open PySem L2
section
variable {K : W.Frag}
@[simp] def xLenD (i : Nat) : XE := fun ρ => (dicAt ρ i).map fun ks => .int (ks.length : Nat)
theorem s_lenD (i : Nat) : SE K (tCB rLenT (tCons (tVar i) tNil)) (xLenD i) := fun ρ σ S H Q g r x c => by
 unfold xLenD at x
 cases qi : dicAt ρ i with
 | none => rw [qi] at x; cases x
 | some ks =>
  rw [qi] at x
  cases x
  obtain ⟨a, e1, ha⟩ := dic_at r qi
  refine ⟨.ref a, e1, a, _, rfl, ha, c _ S H (Ext.refl r.sub) ?_⟩
  rw [dicV_len]
  exact den_int.mpr rfl
end
end M
namespace Rw
abbrev R := List (Int × Int)
def Mem (r : R) (x : Int) : Prop := ∃ p ∈ r, p.1 <= x /\ x <= p.2
def Ok (r : R) : Prop := ∀ p ∈ r, p.1 <= p.2
def Canon (r : R) : Prop := Ok r /\ r.Pairwise fun p q => p.2 + 2 <= q.1
theorem mem_nil (x : Int) : ¬ Mem [] x := by rintro ⟨p, h, _⟩; cases h
theorem mem_cons (p : Int × Int) (r : R) (x : Int) : Mem (p :: r) x ↔ (p.1 <= x /\ x <= p.2) \/ Mem r x := by
 constructor
 ·rintro ⟨q, h, e⟩
  rcases List.mem_cons.mp h with rfl | h
  ·exact .inl e
  ·exact .inr ⟨q, h, e⟩
 ·rintro (e | ⟨q, h, e⟩)
  ·exact ⟨p, List.mem_cons_self, e⟩
  ·exact ⟨q, List.mem_cons_of_mem _ h, e⟩
theorem mem_append (r t : R) (x : Int) : Mem (r ++ t) x ↔ Mem r x \/ Mem t x := by
 constructor
 ·rintro ⟨q, h, e⟩
  rcases List.mem_append.mp h with h | h
  ·exact .inl ⟨q, h, e⟩
  ·exact .inr ⟨q, h, e⟩
 ·rintro (⟨q, h, e⟩ | ⟨q, h, e⟩)
  ·exact ⟨q, List.mem_append_left _ h, e⟩
  ·exact ⟨q, List.mem_append_right _ h, e⟩
theorem mem_perm {r t : R} (h : r.Perm t) (x : Int) : Mem r x ↔ Mem t x :=
 ⟨fun ⟨q, m, e⟩ => ⟨q, h.mem_iff.mp m, e⟩, fun ⟨q, m, e⟩ => ⟨q, h.mem_iff.mpr m, e⟩⟩
theorem mem_filter (r : R) (x : Int) : Mem (r.filter fun p => decide (p.1 <= p.2)) x ↔ Mem r x := by
 constructor
 ·rintro ⟨q, m, e⟩
  exact ⟨q, (List.mem_filter.mp m).1, e⟩
 ·rintro ⟨q, m, e⟩
  exact ⟨q, List.mem_filter.mpr ⟨m, by simp; lia⟩, e⟩
theorem canon_nil : Canon [] := ⟨fun _ h => (by cases h), .nil⟩
theorem canon_cons {p : Int × Int} {r : R} : Canon (p :: r) ↔ p.1 <= p.2 /\ (∀ q ∈ r, p.2 + 2 <= q.1) /\ Canon r := by
 constructor
 ·rintro ⟨h1, h2⟩
  have h3 := List.pairwise_cons.mp h2
  exact ⟨h1 p List.mem_cons_self, h3.1, fun q hq => h1 q (List.mem_cons_of_mem _ hq), h3.2⟩
 ·rintro ⟨h1, h2, h3, h4⟩
  refine ⟨fun q hq => ?_, List.pairwise_cons.mpr ⟨h2, h4⟩⟩
  rcases List.mem_cons.mp hq with rfl | hq
  ·exact h1
  ·exact h3 q hq
theorem canon_above {p : Int × Int} {r : R} (c : Canon (p :: r)) {x : Int} (h : Mem r x) : p.2 + 2 <= x := by
 obtain ⟨q, m, e, _⟩ := h
 have := (canon_cons.mp c).2.1 q m
 lia
theorem canon_low {p : Int × Int} {r : R} (c : Canon (p :: r)) {x : Int} (h : Mem (p :: r) x) : p.1 <= x := by
 rcases (mem_cons p r x).mp h with h | h
 ·exact h.1
 ·have := canon_above c h
  have := (canon_cons.mp c).1
  lia
theorem unique : ∀ {r t : R}, Canon r -> Canon t -> (∀ x, Mem r x ↔ Mem t x) -> r = t
 | [], [], _, _, _ => rfl
 | [], q :: t, _, ct, h => by
  have := (h q.1).mpr ((mem_cons ..).mpr (.inl ⟨Int.le_refl _, (canon_cons.mp ct).1⟩))
  exact (mem_nil _ this).elim
 | p :: r, [], cr, _, h => by
  have := (h p.1).mp ((mem_cons ..).mpr (.inl ⟨Int.le_refl _, (canon_cons.mp cr).1⟩))
  exact (mem_nil _ this).elim
 | p :: r, q :: t, cr, ct, h => by
  have hp := (canon_cons.mp cr).1
  have hq := (canon_cons.mp ct).1
  have a1 : q.1 <= p.1 := canon_low ct ((h p.1).mp ((mem_cons ..).mpr (.inl ⟨Int.le_refl _, hp⟩)))
  have a2 : p.1 <= q.1 := canon_low cr ((h q.1).mpr ((mem_cons ..).mpr (.inl ⟨Int.le_refl _, hq⟩)))
  have e1 : p.1 = q.1 := by lia
  have n1 : ¬ Mem (p :: r) (p.2 + 1) := fun m => by
   rcases (mem_cons ..).mp m with m | m
   ·lia
   ·have := canon_above cr m; lia
  have n2 : ¬ Mem (q :: t) (q.2 + 1) := fun m => by
   rcases (mem_cons ..).mp m with m | m
   ·lia
   ·have := canon_above ct m; lia
  have e2 : p.2 = q.2 := by
   by_cases l1 : p.2 < q.2
   ·exact (n1 ((h _).mpr ((mem_cons ..).mpr (.inl ⟨by lia, by lia⟩)))).elim
   ·by_cases l2 : q.2 < p.2
    ·exact (n2 ((h _).mp ((mem_cons ..).mpr (.inl ⟨by lia, by lia⟩)))).elim
    ·lia
  have e : p = q := by
   obtain ⟨a, b⟩ := p
   obtain ⟨c, d⟩ := q
   simp only at e1 e2
   rw [e1, e2]
  subst e
  have ih : r = t := unique (canon_cons.mp cr).2.2 (canon_cons.mp ct).2.2 fun x => by
   constructor
   ·intro m
    rcases (mem_cons ..).mp ((h x).mp ((mem_cons ..).mpr (.inr m))) with k | k
    ·have := canon_above cr m; lia
    ·exact k
   ·intro m
    rcases (mem_cons ..).mp ((h x).mpr ((mem_cons ..).mpr (.inr m))) with k | k
    ·have := canon_above ct m; lia
    ·exact k
  rw [ih]
def step (acc : R) (p : Int × Int) : R :=
 match acc.getLast? with
 | none => [p]
 | some q => if p.1 <= q.2 + 1 then acc.dropLast ++ [(q.1, if p.2 > q.2 then p.2 else q.2)] else acc ++ [p]
def merge (l : R) : R := l.foldl step []
theorem step_nil (p : Int × Int) : step [] p = [p] := rfl
theorem step_snoc (t : R) (q p : Int × Int) : step (t ++ [q]) p = if p.1 <= q.2 + 1 then t ++ [(q.1, if p.2 > q.2 then p.2 else q.2)] else t ++ [q] ++ [p] := by
 unfold step
 simp
theorem canon_snoc {t : R} {q : Int × Int} : Canon (t ++ [q]) ↔ Canon t /\ q.1 <= q.2 /\ ∀ p ∈ t, p.2 + 2 <= q.1 := by
 constructor
 ·rintro ⟨h1, h2⟩
  have h3 := List.pairwise_append.mp h2
  exact ⟨⟨fun p hp => h1 p (List.mem_append_left _ hp), h3.1⟩, h1 q (List.mem_append_right _ List.mem_cons_self), fun p hp => h3.2.2 p hp q List.mem_cons_self⟩
 ·rintro ⟨⟨h1, h2⟩, h3, h4⟩
  refine ⟨fun p hp => ?_, List.pairwise_append.mpr ⟨h2, .cons (fun _ h => (by cases h)) .nil, fun p hp x hx => ?_⟩⟩
  ·rcases List.mem_append.mp hp with hp | hp
   ·exact h1 p hp
   ·rw [List.mem_singleton.mp hp]; exact h3
  ·rw [List.mem_singleton.mp hx]; exact h4 p hp
theorem step_ok {acc : R} {p : Int × Int} (c : Canon acc) (hp : p.1 <= p.2) (lo : ∀ q ∈ acc, q.1 <= p.1) :
  Canon (step acc p) /\ (∀ x, Mem (step acc p) x ↔ Mem acc x \/ (p.1 <= x /\ x <= p.2)) /\ (∀ q ∈ step acc p, q.1 <= p.1) := by
 rcases List.eq_nil_or_concat acc with rfl | ⟨t, q, rfl⟩
 ·rw [step_nil]
  refine ⟨canon_cons.mpr ⟨hp, fun _ h => (by cases h), canon_nil⟩, fun x => ?_, fun q hq => ?_⟩
  ·rw [mem_cons]
   constructor
   ·rintro (h | h)
    ·exact .inr h
    ·exact .inl h
   ·rintro (h | h)
    ·exact .inr h
    ·exact .inl h
  ·rw [List.mem_singleton.mp hq]; exact Int.le_refl _
 ·rw [List.concat_eq_append] at *
  obtain ⟨ct, hq, ht⟩ := canon_snoc.mp c
  have lq : q.1 <= p.1 := lo q (List.mem_append_right _ List.mem_cons_self)
  rw [step_snoc]
  by_cases h : p.1 <= q.2 + 1
  ·rw [if_pos h]
   have m : ∀ z, (if p.2 > q.2 then p.2 else q.2) = z -> q.2 <= z /\ p.2 <= z /\ (z = p.2 \/ z = q.2) := fun z e => by
    split at e <;> lia
   obtain ⟨m1, m2, m3⟩ := m _ rfl
   generalize (if p.2 > q.2 then p.2 else q.2) = z at *
   refine ⟨canon_snoc.mpr ⟨ct, by dsimp only; lia, ht⟩, fun x => ?_, fun s hs => ?_⟩
   ·rw [mem_append, mem_append, mem_cons, mem_cons]
    dsimp only
    constructor
    ·rintro (k | k | k)
     ·exact .inl (.inl k)
     ·by_cases hx : x <= q.2
      ·exact .inl (.inr (.inl ⟨k.1, hx⟩))
      ·right; lia
     ·exact (mem_nil _ k).elim
    ·rintro ((k | k | k) | k)
     ·exact .inl k
     ·right; left; lia
     ·exact (mem_nil _ k).elim
     ·right; left; lia
   ·rcases List.mem_append.mp hs with hs | hs
    ·exact lo s (List.mem_append_left _ hs)
    ·rw [List.mem_singleton.mp hs]; exact lq
  ·rw [if_neg h]
   refine ⟨canon_snoc.mpr ⟨c, hp, fun s hs => ?_⟩, fun x => ?_, fun s hs => ?_⟩
   ·rcases List.mem_append.mp hs with hs | hs
    ·have := ht s hs; lia
    ·rw [List.mem_singleton.mp hs]; lia
   ·rw [mem_append, mem_cons]
    constructor
    ·rintro (k | k | k)
     ·exact .inl k
     ·exact .inr k
     ·exact (mem_nil _ k).elim
    ·rintro (k | k)
     ·exact .inl k
     ·exact .inr (.inl k)
   ·rcases List.mem_append.mp hs with hs | hs
    ·exact lo s hs
    ·rw [List.mem_singleton.mp hs]; exact Int.le_refl _
theorem fold_ok : ∀ (l : R) (acc : R), Canon acc -> Ok l -> l.Pairwise (fun p q => p.1 <= q.1) -> (∀ q ∈ acc, ∀ p ∈ l, q.1 <= p.1) ->
  Canon (l.foldl step acc) /\ ∀ x, Mem (l.foldl step acc) x ↔ Mem acc x \/ Mem l x
 | [], acc, c, _, _, _ => ⟨c, fun x => ⟨fun h => .inl h, fun h => h.elim id fun k => (mem_nil _ k).elim⟩⟩
 | p :: l, acc, c, o, w, lo => by
  obtain ⟨w1, w2⟩ := List.pairwise_cons.mp w
  obtain ⟨c1, m1, l1⟩ := step_ok c (o p List.mem_cons_self) fun q hq => lo q hq p List.mem_cons_self
  obtain ⟨c2, m2⟩ := fold_ok l (step acc p) c1 (fun q hq => o q (List.mem_cons_of_mem _ hq)) w2 fun q hq s hs => by
   have := l1 q hq
   have := w1 s hs
   lia
  refine ⟨c2, fun x => ?_⟩
  show Mem (l.foldl step (step acc p)) x ↔ _
  rw [m2, m1, mem_cons, or_assoc]
def IsRow (ps r : R) : Prop := Canon r /\ ∀ x, Mem r x ↔ Mem ps x
theorem merge_ok {l ps : R} (o : Ok l) (w : l.Pairwise fun p q => p.1 <= q.1) (h : ∀ x, Mem l x ↔ Mem ps x) : IsRow ps (merge l) := by
 obtain ⟨c, m⟩ := fold_ok l [] canon_nil o w fun _ h => (by cases h)
 exact ⟨c, fun x => by
  show Mem (l.foldl step []) x ↔ _
  rw [m x, <- h x]
  exact ⟨fun k => k.elim (fun z => (mem_nil _ z).elim) id, .inr⟩⟩
def shift (r : R) (lo hi : Int) : R := r.map fun p => (p.1 + lo, p.2 + hi)
theorem mem_shift (r : R) (lo hi x : Int) : Mem (shift r lo hi) x ↔ ∃ p ∈ r, p.1 + lo <= x /\ x <= p.2 + hi := by
 constructor
 ·rintro ⟨q, m, e⟩
  obtain ⟨p, hp, rfl⟩ := List.mem_map.mp m
  exact ⟨p, hp, e⟩
 ·rintro ⟨p, hp, e⟩
  exact ⟨_, List.mem_map.mpr ⟨p, hp, rfl⟩, e⟩
theorem shift_ok {r : R} (o : Ok r) {lo hi : Int} (hl : lo <= hi) : Ok (shift r lo hi) := fun q m => by
 obtain ⟨p, hp, rfl⟩ := List.mem_map.mp m
 have := o p hp
 dsimp only
 lia
end Rw
namespace Rw
def pairUp : List Int -> R
 | a :: b :: t => (a, b - 1) :: pairUp t
 | _ => []
def count (r : R) : Int := (r.map fun p => p.2 - p.1 + 1).sum
def many (P : Int -> Prop) (L : Int) : Nat -> Int
 | 0 => 0
 | n + 1 => many P L n + (by classical exact if P (L + n) then 1 else 0)
end Rw
namespace P
open PySem L2 M
abbrev NS : List Str := ["Box"]
def B_Lby_points_0 : XS := xPutD 1 (xTup (xCons (xOp dAdd (xVarP 8) (xVarP 9)) (xCons (xOp dAdd (xVarP 4) (xVarP 10)) xNil)))
def B_Lby_points_1 : XS := xPutD 2 (xVar 11)
def B_Lby_points_2 : XS := xSeq (xAsg (xOp dAdd (xVarP 3) (xC (.int 1))) (xgName 3)) (xSeq (xFor (xIt (xL (xLst (xCons (xTup (xCons (xC (.int 0)) (xCons (xC (.int 0)) xNil))) (xCons (xTup (xCons (xC (.int 1)) (xCons (xC (.int 0)) xNil))) (xCons (xTup (xCons (xC (.int 0)) (xCons (xC (.int 1)) xNil))) (xCons (xTup (xCons (xC (.int 1)) (xCons (xC (.int 1)) xNil))) xNil))))))) (xgTup (xgCons (xgName 9) (xgCons (xgName 10) xgNil))) (B_Lby_points_0)) (xFor (xIt (xL (xLst (xCons (xTup (xCons (xVar 8) (xCons (xVar 4) (xCons (xC (.int 0)) xNil)))) (xCons (xTup (xCons (xVar 8) (xCons (xOp dAdd (xVarP 4) (xC (.int 1))) (xCons (xC (.int 0)) xNil)))) (xCons (xTup (xCons (xVar 8) (xCons (xVar 4) (xCons (xC (.int 1)) xNil)))) (xCons (xTup (xCons (xOp dAdd (xVarP 8) (xC (.int 1))) (xCons (xVar 4) (xCons (xC (.int 1)) xNil)))) xNil))))))) (xgName 11) (B_Lby_points_1)))
def B_Lby_points_3 : XS := xFor (xRngA (xCons (xVarP 6) (xCons (xOp dAdd (xVarP 7) (xC (.int 1))) xNil))) (xgName 8) (B_Lby_points_2)
def B_Lby_points_4 : XS := xFor (xIt (xVar 5)) (xgTup (xgCons (xgName 6) (xgCons (xgName 7) xgNil))) (B_Lby_points_3)
def X_Lby_points : XS := xSeq (xAsgT xDic0 1) (xSeq (xAsgT xDic0 2) (xSeq (xAsg (xC (.int 0)) (xgName 3)) (xSeq (xFor (xIt (xVar 0)) (xgTup (xgCons (xgName 4) (xgCons (xgName 5) xgNil))) (B_Lby_points_4)) (xRet (xTup (xCons (xLenD 1) (xCons (xLenD 2) (xCons (xVar 3) xNil))))))))
def mo_Lby_points : List D -> Option O := fnO 12 X_Lby_points
def m_Lby_points : List D -> Option D := fun ds => (mo_Lby_points ds).map O.d
def X_Lcell_at : XS := xSeq (xIf (xB (xOp dLt (xVarP 1) (xCB bLen (xCons (xVarP 0) xNil)))) (xRet (xOp dIx (xVarP 0) (xVarP 1))) xNext) (xRet (xC (.int 0)))
def mo_Lcell_at : List D -> Option O := fnO 2 X_Lcell_at
def m_Lcell_at : List D -> Option D := fun ds => (mo_Lcell_at ds).map O.d
def B_Llength_0 : XS := xSeq (xIf (xAnd (xB (xOp (dIsN true) (xVarP 2) (xC .non))) (xAnd (xB (xOp (dEq false) (xOp dIx (xVarP 2) (xC (.int 0))) (xVarP 3))) (xB (xOp dLe (xVarP 4) (xOp dIx (xVarP 2) (xC (.int 1))))))) (xAsg (xOp dAdd (xOp dIx (xVarP 2) (xC (.int 1))) (xC (.int 1))) (xgName 4)) xNext) (xIf (xB (xOp dLe (xVarP 4) (xVarP 5))) (xSeq (xAsg (xOp dAdd (xOp dSub (xOp dAdd (xVarP 1) (xVarP 5)) (xVarP 4)) (xC (.int 1))) (xgName 1)) (xAsg (xTup (xCons (xVar 3) (xCons (xVar 5) xNil))) (xgName 2))) xNext)
def X_Llength : XS := xSeq (xAsg (xC (.int 0)) (xgName 1)) (xSeq (xAsg (xC .non) (xgName 2)) (xSeq (xFor (xIt (xL (xCBF bSorted (xCons (xVarP 0) xNil)))) (xgTup (xgCons (xgName 3) (xgCons (xgName 4) (xgCons (xgName 5) xgNil)))) (B_Llength_0)) (xRet (xVar 1))))
def mo_Llength : List D -> Option O := fnO 6 X_Llength
def m_Llength : List D -> Option D := fun ds => (mo_Llength ds).map O.d
def B_Lrow_0 : XS := xSeq (xAsg (xC (.int 1)) (xgName 5)) (xSeq (xIf (xTru (xVarP 2)) (xAsg (xOp dIx (xL (xLst (xCons (xC (.int 1)) (xCons (xC (.int 2)) (xCons (xC (.int 1)) (xCons (xOp dPow (xC (.int 10)) (xC (.int 40))) (xCons (xC (.int 1)) (xCons (xC (.int 1)) (xCons (xC (.int 3)) (xCons (xC (.int 2)) xNil)))))))))) (xVarP 4)) (xgName 5)) xNext) (xSeq (xIf (xB (xOp (dEq false) (xOp dMod (xVarP 0) (xC (.int 2))) (xC (.int 1)))) (xIf (xAnd (xB (xOp dGt (xCB bLen (xCons (xVarP 3) xNil)) (xC (.int 0)))) (xB (xOp (dEq false) (xOp dIx (xOp dIx (xVarP 3) (xUn dNeg (xC (.int 1)))) (xC (.int 1))) (xOp dSub (xVarP 1) (xC (.int 1)))))) (xSetP 3 xPv (xUn dNeg (xC (.int 1))) (xTup (xCons (xOp dIx (xOp dIx (xVarP 3) (xUn dNeg (xC (.int 1)))) (xC (.int 0))) (xCons (xOp dSub (xOp dAdd (xVarP 1) (xVarP 5)) (xC (.int 1))) xNil)))) (xAppP 3 xPv (xSh (xTup (xCons (xVar 1) (xCons (xOp dSub (xOp dAdd (xVarP 1) (xVarP 5)) (xC (.int 1))) xNil)))))) xNext) (xSeq (xAsg (xOp dDiv (xVarP 0) (xC (.int 2))) (xgName 0)) (xAsg (xOp dAdd (xVarP 1) (xVarP 5)) (xgName 1)))))
def X_Lrow : XS := xSeq (xAsgF (xLst xNil) 3) (xSeq (xFor (xRng (xCons (xC (.int 8)) xNil)) (xgName 4) (B_Lrow_0)) (xRet (xCB bTuple (xCons (xVarP 3) xNil))))
def mo_Lrow : List D -> Option O := fnO 6 X_Lrow
def m_Lrow : List D -> Option D := fun ds => (mo_Lrow ds).map O.d
def X_Lsigned : XS := xSeq (xIf (xB (xOp dLt (xVarP 0) (xC (.int 0)))) (xRet (xOp dSub (xC (.int 0)) (xOp dMod (xOp dSub (xC (.int 0)) (xVarP 0)) (xVarP 1)))) xNext) (xRet (xOp dMod (xVarP 0) (xVarP 1)))
def mo_Lsigned : List D -> Option O := fnO 2 X_Lsigned
def m_Lsigned : List D -> Option D := fun ds => (mo_Lsigned ds).map O.d
def X_Lwhole : XS := xRet (xAndV (xCB bIsi (xCons (xVarP 0) (xCons (xC (.ty "int")) xNil))) (xAndV (xNotV (xCB bIsi (xCons (xVarP 0) (xCons (xC (.ty "bool")) xNil)))) (xOp (dEq false) (xVarP 0) (xVarP 1))))
def mo_Lwhole : List D -> Option O := fnO 2 X_Lwhole
def m_Lwhole : List D -> Option D := fun ds => (mo_Lwhole ds).map O.d
def X_row_count : XS := xRet (xCB bSum (xCons (xL (xComp [none, none] (xIt (xVarP 0)) (xgTup (xgCons (xgName 0) (xgCons (xgName 1) xgNil))) xYes (xOp dAdd (xOp dSub (xVarP 1) (xVarP 0)) (xC (.int 1))))) xNil))
def mo_row_count : List D -> Option O := fnO 1 X_row_count
def m_row_count : List D -> Option D := fun ds => (mo_row_count ds).map O.d
def X_row_moved : XS := xRet (xCB bTuple (xCons (xL (xComp [none, none, some 1] (xIt (xVarP 0)) (xgTup (xgCons (xgName 0) (xgCons (xgName 1) xgNil))) xYes (xTup (xCons (xOp dAdd (xVarP 0) (xVarP 2)) (xCons (xOp dAdd (xVarP 1) (xVarP 2)) xNil))))) xNil))
def mo_row_moved : List D -> Option O := fnO 2 X_row_moved
def m_row_moved : List D -> Option D := fun ds => (mo_row_moved ds).map O.d
def B_row_of_0 : XS := xIf (xAnd (xTru (xVarP 1)) (xB (xOp dLe (xVarP 2) (xOp dAdd (xOp dIx (xOp dIx (xVarP 1) (xUn dNeg (xC (.int 1)))) (xC (.int 1))) (xC (.int 1)))))) (xSetP 1 xPv (xUn dNeg (xC (.int 1))) (xTup (xCons (xOp dIx (xOp dIx (xVarP 1) (xUn dNeg (xC (.int 1)))) (xC (.int 0))) (xCons (xCB bMax2 (xCons (xOp dIx (xOp dIx (xVarP 1) (xUn dNeg (xC (.int 1)))) (xC (.int 1))) (xCons (xVarP 3) xNil))) xNil)))) (xAppP 1 xPv (xSh (xTup (xCons (xVar 2) (xCons (xVar 3) xNil)))))
def X_row_of : XS := xSeq (xAsgF (xLst xNil) 1) (xSeq (xFor (xIt (xL (xCBF bSorted (xCons (xL (xComp [none, none] (xIt (xVarP 0)) (xgTup (xgCons (xgName 0) (xgCons (xgName 1) xgNil))) (xB (xOp dLe (xVarP 0) (xVarP 1))) (xTup (xCons (xVar 0) (xCons (xVar 1) xNil))))) xNil)))) (xgTup (xgCons (xgName 2) (xgCons (xgName 3) xgNil))) (B_row_of_0)) (xRet (xCB bTuple (xCons (xVarP 1) xNil))))
def mo_row_of : List D -> Option O := fnO 4 X_row_of
def m_row_of : List D -> Option D := fun ds => (mo_row_of ds).map O.d
def B_stretches_of_0 : XS := xExtP 1 xPv (xL (xComp [none, none, some 2] (xIt (xVarP 3)) (xgTup (xgCons (xgName 0) (xgCons (xgName 1) xgNil))) xYes (xTup (xCons (xVar 2) (xCons (xVar 0) (xCons (xVar 1) xNil))))))
def X_stretches_of : XS := xSeq (xAsgF (xLst xNil) 1) (xSeq (xFor (xIt (xVar 0)) (xgTup (xgCons (xgName 2) (xgCons (xgName 3) xgNil))) (B_stretches_of_0)) (xRetV 1))
def mo_stretches_of : List D -> Option O := fnO 4 X_stretches_of
def m_stretches_of : List D -> Option D := fun ds => (mo_stretches_of ds).map O.d
def mi_Box : List D -> Option D := iniT (xB (xOp dLt (xCB bMin4 (xCons (xVarP 1) (xCons (xVarP 2) (xCons (xVarP 3) (xCons (xVarP 4) xNil))))) (xC (.int 0)))) (xTup (xCons (xTup (xCons (xTup (xCons (xUn dNeg (xVarP 1)) (xCons (xUn dNeg (xVarP 2)) (xCons (xVar 3) (xCons (xVar 4) xNil))))) xNil)) xNil))
def B_Lby_stretches_0 : XS := xSeq (xAppP 1 xPv (xSh (xTup (xCons (xOp dAdd (xVarP 5) (xVarP 9)) (xCons (xVar 7) (xCons (xOp dAdd (xVarP 8) (xC (.int 1))) xNil)))))) (xAppP 2 xPv (xSh (xTup (xCons (xOp dAdd (xVarP 5) (xVarP 9)) (xCons (xVar 7) (xCons (xVar 8) xNil))))))
def B_Lby_stretches_1 : XS := xSeq (xAppP 4 xPv (xSh (xTup (xCons (xVar 5) (xCons (xVar 7) (xCons (xVar 8) xNil)))))) (xSeq (xAppP 3 xPv (xSh (xTup (xCons (xVar 5) (xCons (xVar 7) (xCons (xOp dAdd (xVarP 8) (xC (.int 1))) xNil)))))) (xFor (xIt (xL (xLst (xCons (xC (.int 0)) (xCons (xC (.int 1)) xNil))))) (xgName 9) (B_Lby_stretches_0)))
def B_Lby_stretches_2 : XS := xFor (xIt (xVar 6)) (xgTup (xgCons (xgName 7) (xgCons (xgName 8) xgNil))) (B_Lby_stretches_1)
def X_Lby_stretches : XS := xSeq (xAsgF (xLst xNil) 1) (xSeq (xAsgF (xLst xNil) 2) (xSeq (xAsgF (xLst xNil) 3) (xSeq (xAsgF (xLst xNil) 4) (xSeq (xFor (xIt (xVar 0)) (xgTup (xgCons (xgName 5) (xgCons (xgName 6) xgNil))) (B_Lby_stretches_2)) (xFrz 4 (xFrz 3 (xFrz 2 (xFrz 1 (xRet (xTup (xCons (xCall m_Llength (xCons (xVar 1) xNil)) (xCons (xOp dAdd (xCall m_Llength (xCons (xVar 2) xNil)) (xCall m_Llength (xCons (xVar 3) xNil))) (xCons (xCall m_Llength (xCons (xVar 4) xNil)) xNil)))))))))))))
def mo_Lby_stretches : List D -> Option O := fnO 10 X_Lby_stretches
def m_Lby_stretches : List D -> Option D := fun ds => (mo_Lby_stretches ds).map O.d
def B_Lpicture_0 : XS := xAsg (xOp dAdd (xVarP 7) (xOp dMod (xOp dMul (xC (.int 5)) (xOp dIx (xVarP 0) (xVarP 8))) (xC (.int 256)))) (xgName 7)
def B_Lpicture_1 : XS := xSeq (xAsg (xOp dDiv (xOp dMod (xOp dMul (xOp dIx (xVarP 0) (xOp dAdd (xC (.int 1)) (xVarP 6))) (xC (.int 48271))) (xC (.int 2147483647))) (xC (.int 37))) (xgName 7)) (xSeq (xFor (xRngS (xCons (xOp dAdd (xC (.int 21)) (xVarP 6)) (xCons (xCB bMin2 (xCons (xCB bLen (xCons (xVarP 0) xNil)) (xCons (xC (.int 99)) xNil))) (xCons (xC (.int 20)) xNil)))) (xgName 8) (B_Lpicture_0)) (xSeq (xAsg (xCall m_Lrow (xCons (xVar 7) (xCons (xVar 3) (xCons (xOp (dEq false) (xOp dMod (xVarP 2) (xC (.int 3))) (xC (.int 1))) xNil)))) (xgName 9)) (xIf (xB (xOp dGt (xCB bLen (xCons (xVarP 9) xNil)) (xC (.int 0)))) (xAppP 5 xPv (xSh (xTup (xCons (xOp dAdd (xVarP 4) (xVarP 6)) (xCons (xVar 9) xNil))))) xNext)))
def X_Lpicture : XS := xSeq (xAsg (xCall m_Lcell_at (xCons (xVar 0) (xCons (xC (.int 0)) xNil))) (xgName 2)) (xSeq (xAsg (xOp dAdd (xCall m_Lsigned (xCons (xOp dDiv (xVarP 2) (xC (.int 12))) (xCons (xOp dIx (xL (xLst (xCons (xC (.int 9)) (xCons (xOp dPow (xC (.int 10)) (xC (.int 58))) xNil)))) (xOp dMod (xOp dDiv (xVarP 2) (xC (.int 3))) (xC (.int 2)))) xNil))) (xVarP 1)) (xgName 3)) (xSeq (xAsg (xOp dAdd (xCall m_Lsigned (xCons (xOp dDiv (xVarP 2) (xC (.int 24))) (xCons (xOp dIx (xL (xLst (xCons (xC (.int 9)) (xCons (xOp dPow (xC (.int 10)) (xC (.int 58))) xNil)))) (xOp dMod (xOp dDiv (xVarP 2) (xC (.int 6))) (xC (.int 2)))) xNil))) (xVarP 1)) (xgName 4)) (xSeq (xAsgF (xLst xNil) 5) (xSeq (xFor (xRng (xCons (xCB bMin2 (xCons (xC (.int 20)) (xCons (xOp dSub (xCB bLen (xCons (xVarP 0) xNil)) (xC (.int 1))) xNil))) xNil)) (xgName 6) (B_Lpicture_1)) (xRet (xCB bTuple (xCons (xVarP 5) xNil)))))))
def mo_Lpicture : List D -> Option O := fnO 10 X_Lpicture
def m_Lpicture : List D -> Option D := fun ds => (mo_Lpicture ds).map O.d
def X_count_cells : XS := xRet (xCB bSum (xCons (xL (xComp [none, none] (xIt (xVarP 0)) (xgTup (xgCons (xgName 0) (xgCons (xgName 1) xgNil))) xYes (xCall m_row_count (xCons (xVar 1) xNil)))) xNil))
def mo_count_cells : List D -> Option O := fnO 1 X_count_cells
def m_count_cells : List D -> Option D := fun ds => (mo_count_cells ds).map O.d
def X_moved : XS := xRet (xCB bTuple (xCons (xL (xComp [none, none, some 2, some 1] (xIt (xVarP 0)) (xgTup (xgCons (xgName 0) (xgCons (xgName 1) xgNil))) xYes (xTup (xCons (xOp dAdd (xVarP 0) (xVarP 2)) (xCons (xCall m_row_moved (xCons (xVar 1) (xCons (xVar 3) xNil))) xNil))))) xNil))
def mo_moved : List D -> Option O := fnO 3 X_moved
def m_moved : List D -> Option D := fun ds => (mo_moved ds).map O.d
def B_picture_of_0 : XS := xSeq (xIf (xOr (xNot (xTru (xVarQ 1))) (xB (xOp (dEq true) (xFl (xOp dIx (xOp dIx (xVarQ 1) (xUn dNeg (xC (.int 1)))) (xC (.int 0)))) (xVarP 2)))) (xAppP 1 xPv (xTupT (xConsT (xSh (xVar 2)) (xConsT (xLstT xNilT) xNilT)))) xNext) (xAppP 1 (xPi (xPi xPv (xUn dNeg (xC (.int 1)))) (xC (.int 1))) (xSh (xTup (xCons (xVar 3) (xCons (xVar 4) xNil)))))
def X_picture_of : XS := xSeq (xAsgF (xLst xNil) 1) (xSeq (xFor (xIt (xL (xCBF bSorted (xCons (xL (xComp [none, none, none] (xIt (xVarP 0)) (xgTup (xgCons (xgName 0) (xgCons (xgName 1) (xgCons (xgName 2) xgNil)))) (xB (xOp dLe (xVarP 1) (xVarP 2))) (xTup (xCons (xVar 0) (xCons (xVar 1) (xCons (xVar 2) xNil)))))) xNil)))) (xgTup (xgCons (xgName 2) (xgCons (xgName 3) (xgCons (xgName 4) xgNil)))) (B_picture_of_0)) (xFrz 1 (xRet (xCB bTuple (xCons (xL (xComp [none, none] (xIt (xVar 1)) (xgTup (xgCons (xgName 0) (xgCons (xgName 1) xgNil))) xYes (xTup (xCons (xVar 0) (xCons (xCall m_row_of (xCons (xVar 1) xNil)) xNil))))) xNil)))))
def mo_picture_of : List D -> Option O := fnO 5 X_picture_of
def m_picture_of : List D -> Option D := fun ds => (mo_picture_of ds).map O.d
def X_join : XS := xRet (xCall m_picture_of (xCons (xOp dAdd (xCall m_stretches_of (xCons (xVar 0) xNil)) (xCall m_stretches_of (xCons (xVar 1) xNil))) xNil))
def mo_join : List D -> Option O := fnO 2 X_join
def m_join : List D -> Option D := fun ds => (mo_join ds).map O.d
def C_spread_down_0 : XT := xB (xOp dLt (xVarP 2) (xVarP 1))
def B_spread_down_1 : XS := xSeq (xAsg (xCB bMin2 (xCons (xOp dAdd (xVarP 2) (xC (.int 1))) (xCons (xOp dSub (xVarP 1) (xVarP 2)) xNil))) (xgName 3)) (xSeq (xAsg (xCall m_join (xCons (xVar 0) (xCons (xCall m_moved (xCons (xVar 0) (xCons (xC (.int 0)) (xCons (xVar 3) xNil)))) xNil))) (xgName 0)) (xAug 2 (xVarP 3) dAddI))
def X_spread_down : XS := xSeq (xAsg (xC (.int 0)) (xgName 2)) (xSeq (xWhile (C_spread_down_0) (B_spread_down_1)) (xRet (xVar 0)))
def mo_spread_down : List D -> Option O := fnO 4 X_spread_down
def m_spread_down : List D -> Option D := fun ds => (mo_spread_down ds).map O.d
def X_greater_by_block : XS := xSeq (xAsg (xL (xComp [none, none, none, some 1] (xIt (xCall m_stretches_of (xCons (xVar 0) xNil))) (xgTup (xgCons (xgName 0) (xgCons (xgName 1) (xgCons (xgName 2) xgNil)))) xYes (xTup (xCons (xOp dAdd (xVarP 0) (xOp dIx (xVarP 3) (xC (.int 1)))) (xCons (xOp dAdd (xVarP 1) (xOp dIx (xVarP 3) (xC (.int 0)))) (xCons (xOp dAdd (xVarP 2) (xOp dIx (xVarP 3) (xC (.int 2)))) xNil)))))) (xgName 2)) (xSeq (xIf (xB (xOp (dEq false) (xOp dIx (xVarP 1) (xC (.int 1))) (xOp dIx (xVarP 1) (xC (.int 3))))) (xRet (xVar 2)) xNext) (xRet (xCall m_stretches_of (xCons (xCall m_spread_down (xCons (xCall m_picture_of (xCons (xVar 2) xNil)) (xCons (xOp dSub (xOp dIx (xVarP 1) (xC (.int 3))) (xOp dIx (xVarP 1) (xC (.int 1)))) xNil))) xNil))))
def mo_greater_by_block : List D -> Option O := fnO 3 X_greater_by_block
def m_greater_by_block : List D -> Option D := fun ds => (mo_greater_by_block ds).map O.d
def B_greater_by_part_0 : XS := xExtP 2 xPv (xCall m_greater_by_block (xCons (xVar 0) (xCons (xVar 3) xNil)))
def X_greater_by_part : XS := xSeq (xAsgF (xLst xNil) 2) (xSeq (xFor (xIt (xVar 1)) (xgName 3) (B_greater_by_part_0)) (xFrz 2 (xRet (xCall m_picture_of (xCons (xVar 2) xNil)))))
def mo_greater_by_part : List D -> Option O := fnO 4 X_greater_by_part
def m_greater_by_part : List D -> Option D := fun ds => (mo_greater_by_part ds).map O.d
def B_Form_greater_0 : XS := xAsg (xCall m_greater_by_part (xCons (xVar 1) (xCons (xVar 2) xNil))) (xgName 1)
def X_Form_greater : XS := xSeq (xFor (xRevI (xCons (xFld NS "parts" (xVar 0)) xNil)) (xgName 2) (B_Form_greater_0)) (xRet (xVar 1))
def mo_Form_greater : List D -> Option O := fnO 3 X_Form_greater
def m_Form_greater : List D -> Option D := fun ds => (mo_Form_greater ds).map O.d
def X_corners : XS := xRet (xCall m_count_cells (xCons (xMeth NS "greater" m_Form_greater (xMake "Box" "parts" mi_Box (xCons (xC (.int 0)) (xCons (xC (.int 0)) (xCons (xC (.int 1)) (xCons (xC (.int 1)) xNil))))) (xCons (xVar 0) xNil)) xNil))
def mo_corners : List D -> Option O := fnO 1 X_corners
def m_corners : List D -> Option D := fun ds => (mo_corners ds).map O.d
def X_edges : XS := xSeq (xAsg (xCall m_count_cells (xCons (xMeth NS "greater" m_Form_greater (xMake "Box" "parts" mi_Box (xCons (xC (.int 0)) (xCons (xC (.int 0)) (xCons (xC (.int 1)) (xCons (xC (.int 0)) xNil))))) (xCons (xVar 0) xNil)) xNil)) (xgName 1)) (xSeq (xAsg (xCall m_count_cells (xCons (xMeth NS "greater" m_Form_greater (xMake "Box" "parts" mi_Box (xCons (xC (.int 0)) (xCons (xC (.int 0)) (xCons (xC (.int 0)) (xCons (xC (.int 1)) xNil))))) (xCons (xVar 0) xNil)) xNil)) (xgName 2)) (xRet (xOp dAdd (xVarP 1) (xVarP 2))))
def mo_edges : List D -> Option O := fnO 3 X_edges
def m_edges : List D -> Option D := fun ds => (mo_edges ds).map O.d
def X_told_number : XS := xRet (xOp dAdd (xOp dSub (xCall m_corners (xCons (xVar 0) xNil)) (xCall m_edges (xCons (xVar 0) xNil))) (xCall m_count_cells (xCons (xVar 0) xNil)))
def mo_told_number : List D -> Option O := fnO 1 X_told_number
def m_told_number : List D -> Option D := fun ds => (mo_told_number ds).map O.d
def B_law_0 : XS := xSeq (xIf (xOr (xNot (xTru (xCall m_Lwhole (xCons (xCall m_corners (xCons (xVar 3) xNil)) (xCons (xOp dIx (xVarP 2) (xC (.int 0))) xNil))))) (xNot (xTru (xCall m_Lwhole (xCons (xCall m_edges (xCons (xVar 3) xNil)) (xCons (xOp dIx (xVarP 2) (xC (.int 1))) xNil)))))) (xRet (xC (.bl false))) xNext) (xIf (xNot (xTru (xCall m_Lwhole (xCons (xCall m_told_number (xCons (xVar 3) xNil)) (xCons (xOp dAdd (xOp dSub (xOp dIx (xVarP 2) (xC (.int 0))) (xOp dIx (xVarP 2) (xC (.int 1)))) (xOp dIx (xVarP 2) (xC (.int 2)))) xNil))))) (xRet (xC (.bl false))) xNext)
def X_law : XS := xSeq (xAsg (xCall m_Lpicture (xCons (xVar 0) (xCons (xC (.int 0)) xNil))) (xgName 1)) (xSeq (xAsg (xCall m_Lby_stretches (xCons (xVar 1) xNil)) (xgName 2)) (xSeq (xIf (xAnd (xB (xOp (dEq true) (xOp dMod (xCall m_Lcell_at (xCons (xVar 0) (xCons (xC (.int 0)) xNil))) (xC (.int 3))) (xC (.int 1)))) (xB (xOp (dEq true) (xCall m_Lby_points (xCons (xVar 1) xNil)) (xVarP 2)))) (xRet (xC (.bl false))) xNext) (xSeq (xFor (xIt (xL (xLst (xCons (xVar 1) (xCons (xCall m_Lpicture (xCons (xVar 0) (xCons (xC (.int 1)) xNil))) xNil))))) (xgName 3) (B_law_0)) (xRet (xC (.bl true))))))
def mo_law : List D -> Option O := fnO 4 X_law
def m_law : List D -> Option D := fun ds => (mo_law ds).map O.d
local macro_rules | `(tactic| and_intros) => `(tactic| repeat' first | (with_reducible first | exact b_isi | exact b_len | exact b_max2 | exact b_min2 | exact b_sorted | exact b_sum | exact b_tuple | exact g_name _ | exact g_nil | exact li_nil | exact p_var _ | exact r_add | exact r_div | exact r_eq _ | exact r_gt | exact r_ipadd | exact r_ix | exact r_le | exact r_lt | exact r_mod | exact r_mul | exact r_neg | exact r_notN | exact r_pow | exact r_sub | exact s_dic0 | exact s_lenD _ | exact s_next | exact s_retV _ | exact s_var _ | exact s_varP _ | exact s_varQ _ | exact s_yes | exact sa_nil | exact sp_nil | exact st_nil | apply SE.t | apply SF.e | apply SF.t | apply SQ.fl | apply STr.e | apply g_cons | apply g_tup | apply i_rev | apply i_rng1 | apply i_rngA | apply i_rngS | apply i_seq | apply i_seqP | apply li_cons | apply p_ix | apply s_and | apply s_andV | apply s_appP | apply s_asg | apply s_asgF | apply s_asgT | apply s_aug | apply s_cb | apply s_cbF | apply s_comp | apply s_extP | apply s_fld | apply s_for | apply s_frz | apply s_if | apply s_lst | apply s_lstT | apply s_not | apply s_notV | apply s_op | apply s_opQ | apply s_or | apply s_putD | apply s_ret | apply s_seq | apply s_setP | apply s_test | apply s_truQ | apply s_tup | apply s_tupT | apply s_un | apply s_while | apply sa_cons | apply sp_cons | apply st_cons | apply SE.p | apply SPk.q | apply SI.p) | exact s_c rfl | apply len_cons | exact fun _ _ h => len_nil h | refine' s_call (E := E0) ?_ ?_ | refine' s_meth (Ns := NS) ?_ ?_ ?_ | refine' s_make (Ns := NS) ?_ ?_ ?_ | exact List.Mem.head _ | exact List.Mem.tail _ (List.Mem.head _) | decide +kernel)
abbrev sp_Form___init__ (K : W.Frag) : Sp := spIni K NS "parts" 1 ini1
abbrev sp_Lby_points (K : W.Frag) : Sp := spOf K 1 mo_Lby_points
def pk_Lby_points (K : W.Frag) : { t : TS // SS K t X_Lby_points } := ⟨_, by delta X_Lby_points B_Lby_points_4 B_Lby_points_3 B_Lby_points_2 B_Lby_points_1 B_Lby_points_0; and_intros⟩
abbrev sp_Lcell_at (K : W.Frag) : Sp := spOf K 2 mo_Lcell_at
def pk_Lcell_at (K : W.Frag) : { t : TS // SS K t X_Lcell_at } := ⟨_, by delta X_Lcell_at; and_intros⟩
abbrev sp_Llength (K : W.Frag) : Sp := spOf K 1 mo_Llength
def pk_Llength (K : W.Frag) : { t : TS // SS K t X_Llength } := ⟨_, by delta X_Llength B_Llength_0; and_intros⟩
abbrev sp_Lrow (K : W.Frag) : Sp := spOf K 3 mo_Lrow
def pk_Lrow (K : W.Frag) : { t : TS // SS K t X_Lrow } := ⟨_, by delta X_Lrow B_Lrow_0; and_intros⟩
abbrev sp_Lsigned (K : W.Frag) : Sp := spOf K 2 mo_Lsigned
def pk_Lsigned (K : W.Frag) : { t : TS // SS K t X_Lsigned } := ⟨_, by delta X_Lsigned; and_intros⟩
abbrev sp_Lwhole (K : W.Frag) : Sp := spOf K 2 mo_Lwhole
def pk_Lwhole (K : W.Frag) : { t : TS // SS K t X_Lwhole } := ⟨_, by delta X_Lwhole; and_intros⟩
abbrev sp_row_count (K : W.Frag) : Sp := spOf K 1 mo_row_count
def pk_row_count (K : W.Frag) : { t : TS // SS K t X_row_count } := ⟨_, by delta X_row_count; and_intros⟩
abbrev sp_row_moved (K : W.Frag) : Sp := spOf K 2 mo_row_moved
def pk_row_moved (K : W.Frag) : { t : TS // SS K t X_row_moved } := ⟨_, by delta X_row_moved; and_intros⟩
abbrev sp_row_of (K : W.Frag) : Sp := spOf K 1 mo_row_of
def pk_row_of (K : W.Frag) : { t : TS // SS K t X_row_of } := ⟨_, by delta X_row_of B_row_of_0; and_intros⟩
abbrev sp_stretches_of (K : W.Frag) : Sp := spOf K 1 mo_stretches_of
def pk_stretches_of (K : W.Frag) : { t : TS // SS K t X_stretches_of } := ⟨_, by delta X_stretches_of B_stretches_of_0; and_intros⟩
abbrev sp_Box___init__ (K : W.Frag) : Sp := spIni K NS "parts" 4 mi_Box
abbrev sp_Lby_stretches (K : W.Frag) : Sp := spOf K 1 mo_Lby_stretches
def pk_Lby_stretches (K : W.Frag) : { t : TS // SS K t X_Lby_stretches } := ⟨_, by delta X_Lby_stretches B_Lby_stretches_2 B_Lby_stretches_1 B_Lby_stretches_0; and_intros⟩
abbrev sp_Lpicture (K : W.Frag) : Sp := spOf K 2 mo_Lpicture
def pk_Lpicture (K : W.Frag) : { t : TS // SS K t X_Lpicture } := ⟨_, by delta X_Lpicture B_Lpicture_1 B_Lpicture_0; and_intros⟩
abbrev sp_count_cells (K : W.Frag) : Sp := spOf K 1 mo_count_cells
def pk_count_cells (K : W.Frag) : { t : TS // SS K t X_count_cells } := ⟨_, by delta X_count_cells; and_intros⟩
abbrev sp_moved (K : W.Frag) : Sp := spOf K 3 mo_moved
def pk_moved (K : W.Frag) : { t : TS // SS K t X_moved } := ⟨_, by delta X_moved; and_intros⟩
abbrev sp_picture_of (K : W.Frag) : Sp := spOf K 1 mo_picture_of
def pk_picture_of (K : W.Frag) : { t : TS // SS K t X_picture_of } := ⟨_, by delta X_picture_of B_picture_of_0; and_intros⟩
abbrev sp_join (K : W.Frag) : Sp := spOf K 2 mo_join
def pk_join (K : W.Frag) : { t : TS // SS K t X_join } := ⟨_, by delta X_join; and_intros⟩
abbrev sp_spread_down (K : W.Frag) : Sp := spOf K 2 mo_spread_down
def pk_spread_down (K : W.Frag) : { t : TS // SS K t X_spread_down } := ⟨_, by delta X_spread_down B_spread_down_1 C_spread_down_0; and_intros⟩
abbrev sp_greater_by_block (K : W.Frag) : Sp := spOf K 2 mo_greater_by_block
def pk_greater_by_block (K : W.Frag) : { t : TS // SS K t X_greater_by_block } := ⟨_, by delta X_greater_by_block; and_intros⟩
abbrev sp_greater_by_part (K : W.Frag) : Sp := spOf K 2 mo_greater_by_part
def pk_greater_by_part (K : W.Frag) : { t : TS // SS K t X_greater_by_part } := ⟨_, by delta X_greater_by_part B_greater_by_part_0; and_intros⟩
abbrev sp_Form_greater (K : W.Frag) : Sp := spOf K 2 mo_Form_greater
def pk_Form_greater (K : W.Frag) : { t : TS // SS K t X_Form_greater } := ⟨_, by delta X_Form_greater B_Form_greater_0; and_intros⟩
abbrev sp_corners (K : W.Frag) : Sp := spOf K 1 mo_corners
def pk_corners (K : W.Frag) : { t : TS // SS K t X_corners } := ⟨_, by delta X_corners; and_intros⟩
abbrev sp_edges (K : W.Frag) : Sp := spOf K 1 mo_edges
def pk_edges (K : W.Frag) : { t : TS // SS K t X_edges } := ⟨_, by delta X_edges; and_intros⟩
abbrev sp_told_number (K : W.Frag) : Sp := spOf K 1 mo_told_number
def pk_told_number (K : W.Frag) : { t : TS // SS K t X_told_number } := ⟨_, by delta X_told_number; and_intros⟩
abbrev sp_law (K : W.Frag) : Sp := spOf K 1 mo_law
def pk_law (K : W.Frag) : { t : TS // SS K t X_law } := ⟨_, by delta X_law B_law_0; and_intros⟩
end P
namespace P
open PySem L2 M Rw
def keyP (p : Int × Int) : List Int := [p.1, p.2]
theorem keys_prs : ∀ r : R, keys (r.map prD) = some (r.map keyP)
 | [] => rfl
 | p :: r => by
  rw [List.map_cons, keys, keys_prs r]
  rfl
theorem ints_prs : ∀ {r : R}, r ≠ [] -> intsOf (r.map prD) = none
 | [], h => absurd rfl h
 | p :: r, _ => rfl
def ofKey : List Int -> Int × Int
 | [a, b] => (a, b)
 | _ => (0, 0)
def sortP (ps : R) : R := (sortK (ps.map keyP)).map ofKey
theorem sortP_keys (ps : R) : (sortP ps).map keyP = sortK (ps.map keyP) := by
 unfold sortP
 rw [List.map_map]
 have h : ∀ k ∈ sortK (ps.map keyP), (keyP ∘ ofKey) k = k := fun k hk => by
  have := (sortK_perm _).mem_iff.mp hk
  obtain ⟨p, _, rfl⟩ := List.mem_map.mp this
  rfl
 rw [List.map_congr_left h, List.map_id']
theorem sortP_perm (ps : R) : (sortP ps).Perm ps := by
 have h := (sortK_perm (ps.map keyP)).map ofKey
 rw [List.map_map] at h
 have e : (ofKey ∘ keyP) = id := rfl
 rw [e, List.map_id] at h
 exact h
theorem sortP_pw (ps : R) : (sortP ps).Pairwise fun p q => p.1 <= q.1 := by
 have h := sortK_pw (ps.map keyP)
 rw [<- sortP_keys, List.pairwise_map] at h
 refine h.imp fun {p q} e => ?_
 have e' : (if q.1 = p.1 then HT.lexLt [q.2] [p.2] else decide (q.1 < p.1)) = false := e
 by_cases hq : q.1 = p.1
 ·lia
 ·rw [if_neg hq] at e'
  have := of_decide_eq_false e'
  lia
theorem bSorted_prs (ps : R) (h : ps.length < 30000) : bSorted [lstD ps] = some ((sortP ps).map prD) := by
 show (if (ps.map prD).length < 30000 then _ else _) = _
 rw [if_pos (by rw [List.length_map]; exact h)]
 by_cases e : ps = []
 ·subst e
  have e0 : sortP [] = [] := List.length_eq_zero_iff.mp (by rw [(sortP_perm []).length_eq]; rfl)
  have e1 : sortI [] = [] := List.length_eq_zero_iff.mp (by rw [(sortI_perm []).length_eq]; rfl)
  show some ((sortI []).map D.int) = _
  rw [e0, e1]
  rfl
 ·rw [ints_prs e]
  dsimp only
  rw [keys_prs]
  have : (sortP ps).map prD = (sortK (ps.map keyP)).map tupI := by
   rw [<- sortP_keys, List.map_map]
   rfl
  rw [this]
  rfl
def good (p : Int × Int) : Bool := decide (p.1 <= p.2)
def rowOf (ps : R) : R := merge (sortP (ps.filter good))
theorem isRow_rowOf (ps : R) : IsRow ps (rowOf ps) := by
 refine merge_ok ?_ (sortP_pw _) fun x => ?_
 ·intro p hp
  have := (sortP_perm _).mem_iff.mp hp
  simpa [good] using (List.mem_filter.mp this).2
 ·rw [mem_perm (sortP_perm _)]
  exact mem_filter ps x
theorem step_len (acc : R) (p : Int × Int) : (step acc p).length <= acc.length + 1 := by
 rcases List.eq_nil_or_concat acc with rfl | ⟨t, q, rfl⟩
 ·simp [Rw.step]
 ·rw [List.concat_eq_append, step_snoc]
  split <;> simp
theorem merge_len : ∀ (l acc : R), (l.foldl step acc).length <= acc.length + l.length
 | [], acc => by simp
 | p :: l, acc => by
  have h1 := merge_len l (step acc p)
  have h2 := step_len acc p
  rw [List.foldl_cons, List.length_cons]
  lia
theorem rowOf_len (ps : R) : (rowOf ps).length <= ps.length := by
 have h1 := merge_len (sortP (ps.filter good)) []
 have h2 := (sortP_perm (ps.filter good)).length_eq
 have h3 := List.length_filter_le good ps
 unfold rowOf merge
 simp only [List.length_nil] at h1
 lia
theorem lim_of {n : Nat} (h : n <= 100000) : n <= LIM := Nat.le_trans h (by rw [lim_is]; decide)
theorem lim_of' {n : Nat} (h : n <= 100000) : n < LIM := Nat.lt_of_le_of_lt h (by rw [lim_is]; decide)
theorem tup_pr (a b : Int) : D.tup [.int a, .int b] = prD (a, b) := rfl
theorem filter_fm : ∀ ps : R, ps.filterMap (fun p => if p.1 <= p.2 then some (prD p) else none) = (ps.filter good).map prD
 | [] => rfl
 | p :: t => by
  rw [List.filterMap_cons, List.filter_cons, filter_fm t]
  by_cases h : p.1 <= p.2
  ·simp [good, h]
  ·simp [good, h]
theorem comp_good (ps : R) : compF (xgTup (xgCons (xgName 0) (xgCons (xgName 1) xgNil))) (xB (xOp dLe (xVarP 0) (xVarP 1))) (xTup (xCons (xVar 0) (xCons (xVar 1) xNil))) [.un, .un] (ps.map prD) = some ((ps.filter good).map prD) := by
 rw [compF_fm prD (fun p => if p.1 <= p.2 then some (prD p) else none) ps, filter_fm]
 intro p _
 by_cases h : p.1 <= p.2 <;> simp [oneF, h]
theorem merge_snoc (pre : R) (p : Int × Int) : merge (pre ++ [p]) = step (merge pre) p := by
 unfold merge
 rw [List.foldl_append]
 rfl
theorem merge_le (pre : R) : (merge pre).length <= pre.length := by
 have := merge_len pre []
 unfold merge
 simpa using this
theorem intsD_is (n : Nat) : intsD 0 n = (List.range n).map fun k : Nat => D.int (k : Int) := by
 apply List.ext_getElem?
 intro i
 cases q : (intsD 0 n)[i]? with
 | none =>
  have := List.getElem?_eq_none_iff.mp q
  rw [intsD_len] at this
  rw [List.getElem?_eq_none (by rw [List.length_map, List.length_range]; exact this)]
 | some d =>
  obtain ⟨h1, rfl⟩ := intsD_get n 0 i d q
  rw [List.getElem?_map, List.getElem?_range h1]
  simp
theorem run_seq {m n : XS} {ρ ρ' : M.Env} (h : m ρ = some (.nx ρ')) : xSeq m n ρ = n ρ' := by unfold xSeq; rw [h]
theorem fn_rt {n : Nat} {x : XS} {ds : List D} {d : D} (h : x (ds.map .sh ++ List.replicate (n - ds.length) .un) = some (.rt d)) : (fnO n x ds).map O.d = some d := by unfold fnO; rw [h]; simp
theorem row_of_turn (s0 : Sl) (acc : R) (a b : Int) (h : acc.length <= 30000) : B_row_of_0 [s0, owl (acc.map prD), .sh (.int a), .sh (.int b)] = some (.nx [s0, owl ((step acc (a, b)).map prD), .sh (.int a), .sh (.int b)]) := by
 rcases List.eq_nil_or_concat acc with rfl | ⟨t, q, rfl⟩
 ·simp [B_row_of_0, Rw.step, prD]
 ·rw [List.concat_eq_append] at *
  rw [step_snoc]
  have hl : t.length + 1 <= 30000 := by simpa using h
  have hlim : t.length + 1 < LIM := lim_of' (by lia)
  have at1 : atI (t.map prD ++ [prD q]) (-1) = some (prD q) := atI_neg1 _ _
  by_cases hc : a <= q.2 + 1
  ·simp [B_row_of_0, at1, hc, ixN_neg1, tup_pr]
  ·simp [B_row_of_0, at1, hc, hlim, tup_pr]
theorem m_row_of_is (ps : R) (h : ps.length < 30000) : m_row_of [lstD ps] = some (rowD (rowOf ps)) := by
 have hf := List.length_filter_le good ps
 have hs := (sortP_perm (ps.filter good)).length_eq
 have key : ∃ ρ', loopF (xgTup (xgCons (xgName 2) (xgCons (xgName 3) xgNil))) B_row_of_0 ((sortP (ps.filter good)).map prD) [.sh (lstD ps), .ow (.lst []), .un, .un] = some (.nx ρ') /\ ∃ va vb, ρ' = [.sh (lstD ps), owl ((rowOf ps).map prD), va, vb] := by
  refine loopF_inv prD (fun pre ρ => ∃ va vb, ρ = [.sh (lstD ps), owl ((merge pre).map prD), va, vb]) _ _ ⟨_, _, rfl⟩ ?_
  rintro pre p post _ e ⟨va, vb, rfl⟩
  have hp : pre.length <= 30000 := by
   have := congrArg List.length e
   rw [List.length_append] at this
   lia
  refine ⟨_, _, rfl, .inl (row_of_turn _ (merge pre) p.1 p.2 (by have := merge_le pre; lia)), .sh (.int p.1), .sh (.int p.2), by rw [merge_snoc]⟩
 obtain ⟨ρ', k1, va, vb, rfl⟩ := key
 have hc := comp_good ps
 have hb := bSorted_prs (ps.filter good) (by lia)
 have hl : ps.length <= LIM := lim_of (by lia)
 simp [m_row_of, mo_row_of, fnO, X_row_of, hl, hc, hb, k1]
abbrev Tri := Int × Int × Int
abbrev triD (t : Tri) : D := .tup [.int t.1, .int t.2.1, .int t.2.2]
abbrev Pic := List (Int × R)
abbrev pyD (q : Int × R) : D := .tup [.int q.1, rowD q.2]
abbrev picD (p : Pic) : D := .tup (p.map pyD)
def TMem (ts : List Tri) (x y : Int) : Prop := ∃ t ∈ ts, t.1 = y /\ t.2.1 <= x /\ x <= t.2.2
def PMem (p : Pic) (x y : Int) : Prop := ∃ q ∈ p, q.1 = y /\ Mem q.2 x
def PCanon (p : Pic) : Prop := (∀ q ∈ p, Canon q.2 /\ q.2 ≠ []) /\ p.Pairwise fun a b => a.1 < b.1
theorem pmem_nil (x y : Int) : ¬ PMem [] x y := by rintro ⟨_, h, _⟩; cases h
theorem pmem_cons (q : Int × R) (p : Pic) (x y : Int) : PMem (q :: p) x y ↔ (q.1 = y /\ Mem q.2 x) \/ PMem p x y := by
 constructor
 ·rintro ⟨s, h, e⟩
  rcases List.mem_cons.mp h with rfl | h
  ·exact .inl e
  ·exact .inr ⟨s, h, e⟩
 ·rintro (e | ⟨s, h, e⟩)
  ·exact ⟨q, List.mem_cons_self, e⟩
  ·exact ⟨s, List.mem_cons_of_mem _ h, e⟩
theorem pmem_append (p q : Pic) (x y : Int) : PMem (p ++ q) x y ↔ PMem p x y \/ PMem q x y := by
 constructor
 ·rintro ⟨s, h, e⟩
  rcases List.mem_append.mp h with h | h
  ·exact .inl ⟨s, h, e⟩
  ·exact .inr ⟨s, h, e⟩
 ·rintro (⟨s, h, e⟩ | ⟨s, h, e⟩)
  ·exact ⟨s, List.mem_append_left _ h, e⟩
  ·exact ⟨s, List.mem_append_right _ h, e⟩
theorem tmem_cons (t : Tri) (ts : List Tri) (x y : Int) : TMem (t :: ts) x y ↔ (t.1 = y /\ t.2.1 <= x /\ x <= t.2.2) \/ TMem ts x y := by
 constructor
 ·rintro ⟨s, h, e⟩
  rcases List.mem_cons.mp h with rfl | h
  ·exact .inl e
  ·exact .inr ⟨s, h, e⟩
 ·rintro (e | ⟨s, h, e⟩)
  ·exact ⟨t, List.mem_cons_self, e⟩
  ·exact ⟨s, List.mem_cons_of_mem _ h, e⟩
theorem tmem_append (a b : List Tri) (x y : Int) : TMem (a ++ b) x y ↔ TMem a x y \/ TMem b x y := by
 constructor
 ·rintro ⟨s, h, e⟩
  rcases List.mem_append.mp h with h | h
  ·exact .inl ⟨s, h, e⟩
  ·exact .inr ⟨s, h, e⟩
 ·rintro (⟨s, h, e⟩ | ⟨s, h, e⟩)
  ·exact ⟨s, List.mem_append_left _ h, e⟩
  ·exact ⟨s, List.mem_append_right _ h, e⟩
theorem tmem_perm {a b : List Tri} (h : a.Perm b) (x y : Int) : TMem a x y ↔ TMem b x y :=
 ⟨fun ⟨q, m, e⟩ => ⟨q, h.mem_iff.mp m, e⟩, fun ⟨q, m, e⟩ => ⟨q, h.mem_iff.mpr m, e⟩⟩
theorem pcanon_nil : PCanon [] := ⟨fun _ h => (by cases h), .nil⟩
theorem pcanon_cons {q : Int × R} {p : Pic} : PCanon (q :: p) ↔ (Canon q.2 /\ q.2 ≠ []) /\ (∀ s ∈ p, q.1 < s.1) /\ PCanon p := by
 constructor
 ·rintro ⟨h1, h2⟩
  have h3 := List.pairwise_cons.mp h2
  exact ⟨h1 q List.mem_cons_self, h3.1, fun s hs => h1 s (List.mem_cons_of_mem _ hs), h3.2⟩
 ·rintro ⟨h1, h2, h3, h4⟩
  refine ⟨fun s hs => ?_, List.pairwise_cons.mpr ⟨h2, h4⟩⟩
  rcases List.mem_cons.mp hs with rfl | hs
  ·exact h1
  ·exact h3 s hs
theorem canon_first {r : R} (c : Canon r) (h : r ≠ []) : ∃ x, Mem r x := by
 cases r with
 | nil => exact absurd rfl h
 | cons p r => exact ⟨p.1, (mem_cons ..).mpr (.inl ⟨Int.le_refl _, (canon_cons.mp c).1⟩)⟩
theorem punique : ∀ {p q : Pic}, PCanon p -> PCanon q -> (∀ x y, PMem p x y ↔ PMem q x y) -> p = q
 | [], [], _, _, _ => rfl
 | [], b :: q, _, cq, h => by
  obtain ⟨⟨c1, c2⟩, _⟩ := pcanon_cons.mp cq
  obtain ⟨x, hx⟩ := canon_first c1 c2
  exact (pmem_nil _ _ ((h x b.1).mpr ((pmem_cons ..).mpr (.inl ⟨rfl, hx⟩)))).elim
 | a :: p, [], cp, _, h => by
  obtain ⟨⟨c1, c2⟩, _⟩ := pcanon_cons.mp cp
  obtain ⟨x, hx⟩ := canon_first c1 c2
  exact (pmem_nil _ _ ((h x a.1).mp ((pmem_cons ..).mpr (.inl ⟨rfl, hx⟩)))).elim
 | a :: p, b :: q, cp, cq, h => by
  obtain ⟨⟨ca, na⟩, la, cp'⟩ := pcanon_cons.mp cp
  obtain ⟨⟨cb, nb⟩, lb, cq'⟩ := pcanon_cons.mp cq
  obtain ⟨xa, ha⟩ := canon_first ca na
  obtain ⟨xb, hb⟩ := canon_first cb nb
  have ey : a.1 = b.1 := by
   have h1 : b.1 <= a.1 := by
    rcases (pmem_cons ..).mp ((h xa a.1).mp ((pmem_cons ..).mpr (.inl ⟨rfl, ha⟩))) with ⟨e, _⟩ | ⟨s, hs, e, _⟩
    ·lia
    ·have := lb s hs; lia
   have h2 : a.1 <= b.1 := by
    rcases (pmem_cons ..).mp ((h xb b.1).mpr ((pmem_cons ..).mpr (.inl ⟨rfl, hb⟩))) with ⟨e, _⟩ | ⟨s, hs, e, _⟩
    ·lia
    ·have := la s hs; lia
   lia
  have er : a.2 = b.2 := unique ca cb fun x => by
   have hx := h x a.1
   rw [pmem_cons, pmem_cons] at hx
   have n1 : ¬ PMem p x a.1 := by rintro ⟨s, hs, e, _⟩; have := la s hs; lia
   have n2 : ¬ PMem q x a.1 := by rintro ⟨s, hs, e, _⟩; have := lb s hs; lia
   constructor
   ·intro hm
    rcases hx.mp (.inl ⟨rfl, hm⟩) with z | z
    ·exact z.2
    ·exact absurd z n2
   ·intro hm
    rcases hx.mpr (.inl ⟨ey.symm, hm⟩) with z | z
    ·exact z.2
    ·exact absurd z n1
  have eab : a = b := by
   obtain ⟨a1, a2⟩ := a
   obtain ⟨b1, b2⟩ := b
   simp only at ey er
   rw [ey, er]
  subst eab
  have ih : p = q := punique cp' cq' fun x y => by
   have hx := h x y
   rw [pmem_cons, pmem_cons] at hx
   constructor
   ·intro hm
    rcases hx.mp (.inr hm) with z | z
    ·obtain ⟨s, hs, e, _⟩ := hm; have := la s hs; lia
    ·exact z
   ·intro hm
    rcases hx.mpr (.inr hm) with z | z
    ·obtain ⟨s, hs, e, _⟩ := hm; have := lb s hs; lia
    ·exact z
  rw [ih]
def keyT (t : Tri) : List Int := [t.1, t.2.1, t.2.2]
def ofKeyT : List Int -> Tri
 | [a, b, c] => (a, b, c)
 | _ => (0, 0, 0)
theorem keys_tris : ∀ r : List Tri, keys (r.map triD) = some (r.map keyT)
 | [] => rfl
 | p :: r => by rw [List.map_cons, keys, keys_tris r]; rfl
theorem ints_tris : ∀ {r : List Tri}, r ≠ [] -> intsOf (r.map triD) = none
 | [], h => absurd rfl h
 | _ :: _, _ => rfl
def sortT (ts : List Tri) : List Tri := (sortK (ts.map keyT)).map ofKeyT
theorem sortT_keys (ts : List Tri) : (sortT ts).map keyT = sortK (ts.map keyT) := by
 unfold sortT
 rw [List.map_map]
 have h : ∀ k ∈ sortK (ts.map keyT), (keyT ∘ ofKeyT) k = k := fun k hk => by
  have := (sortK_perm _).mem_iff.mp hk
  obtain ⟨p, _, rfl⟩ := List.mem_map.mp this
  rfl
 rw [List.map_congr_left h, List.map_id']
theorem sortT_perm (ts : List Tri) : (sortT ts).Perm ts := by
 have h := (sortK_perm (ts.map keyT)).map ofKeyT
 rw [List.map_map] at h
 have e : (ofKeyT ∘ keyT) = id := rfl
 rw [e, List.map_id] at h
 exact h
theorem sortT_pw (ts : List Tri) : (sortT ts).Pairwise fun p q => p.1 <= q.1 := by
 have h := sortK_pw (ts.map keyT)
 rw [<- sortT_keys, List.pairwise_map] at h
 refine h.imp fun {p q} e => ?_
 have e' : (if q.1 = p.1 then HT.lexLt [q.2.1, q.2.2] [p.2.1, p.2.2] else decide (q.1 < p.1)) = false := e
 by_cases hq : q.1 = p.1
 ·lia
 ·rw [if_neg hq] at e'
  have := of_decide_eq_false e'
  lia
theorem bSorted_tris (ts : List Tri) (h : ts.length < 30000) : bSorted [.lst (ts.map triD)] = some ((sortT ts).map triD) := by
 show (if (ts.map triD).length < 30000 then _ else _) = _
 rw [if_pos (by rw [List.length_map]; exact h)]
 by_cases e : ts = []
 ·subst e
  have e0 : sortT [] = [] := List.length_eq_zero_iff.mp (by rw [(sortT_perm []).length_eq]; rfl)
  have e1 : sortI [] = [] := List.length_eq_zero_iff.mp (by rw [(sortI_perm []).length_eq]; rfl)
  show some ((sortI []).map D.int) = _
  rw [e0, e1]
  rfl
 ·rw [ints_tris e]
  dsimp only
  rw [keys_tris]
  have : (sortT ts).map triD = (sortK (ts.map keyT)).map tupI := by
   rw [<- sortT_keys, List.map_map]
   rfl
  rw [this]
  rfl
def goodT (t : Tri) : Bool := decide (t.2.1 <= t.2.2)
theorem tmem_filter (ts : List Tri) (x y : Int) : TMem (ts.filter goodT) x y ↔ TMem ts x y := by
 constructor
 ·rintro ⟨q, m, e⟩
  exact ⟨q, (List.mem_filter.mp m).1, e⟩
 ·rintro ⟨q, m, e⟩
  exact ⟨q, List.mem_filter.mpr ⟨m, by simp [goodT]; lia⟩, e⟩
theorem filter_fmT : ∀ ps : List Tri, ps.filterMap (fun p => if p.2.1 <= p.2.2 then some (triD p) else none) = (ps.filter goodT).map triD
 | [] => rfl
 | p :: t => by
  rw [List.filterMap_cons, List.filter_cons, filter_fmT t]
  by_cases h : p.2.1 <= p.2.2
  ·simp [goodT, h]
  ·simp [goodT, h]
theorem comp_goodT (ps : List Tri) : compF (xgTup (xgCons (xgName 0) (xgCons (xgName 1) (xgCons (xgName 2) xgNil)))) (xB (xOp dLe (xVarP 1) (xVarP 2))) (xTup (xCons (xVar 0) (xCons (xVar 1) (xCons (xVar 2) xNil)))) [.un, .un, .un] (ps.map triD) = some ((ps.filter goodT).map triD) := by
 rw [compF_fm triD (fun p => if p.2.1 <= p.2.2 then some (triD p) else none) ps, filter_fmT]
 intro p _
 by_cases h : p.2.1 <= p.2.2 <;> simp [oneF, h]
def gStep (gs : Pic) (t : Tri) : Pic := match gs.getLast? with
 | none => [(t.1, [t.2])]
 | some g => if g.1 = t.1 then gs.dropLast ++ [(g.1, g.2 ++ [t.2])] else gs ++ [(t.1, [t.2])]
theorem gStep_nil (t : Tri) : gStep [] t = [(t.1, [t.2])] := rfl
theorem gStep_snoc (gs : Pic) (g : Int × R) (t : Tri) : gStep (gs ++ [g]) t = if g.1 = t.1 then gs ++ [(g.1, g.2 ++ [t.2])] else gs ++ [g] ++ [(t.1, [t.2])] := by
 unfold gStep
 simp
def group (ts : List Tri) : Pic := ts.foldl gStep []
theorem group_snoc (pre : List Tri) (t : Tri) : group (pre ++ [t]) = gStep (group pre) t := by
 unfold group
 rw [List.foldl_append]
 rfl
structure GOk (gs : Pic) (ts : List Tri) : Prop where
 ne : ∀ g ∈ gs, g.2 ≠ [] /\ Ok g.2
 up : gs.Pairwise fun a b => a.1 < b.1
 mem : ∀ x y, PMem gs x y ↔ TMem ts x y
 le : ∀ g ∈ gs, ∃ t ∈ ts, g.1 = t.1
 len : (gs.map fun g => g.2.length).sum = ts.length
theorem gStep_ok {gs : Pic} {ts : List Tri} {t : Tri} (o : GOk gs ts) (ht : t.2.1 <= t.2.2) (hb : ∀ s ∈ ts, s.1 <= t.1) : GOk (gStep gs t) (ts ++ [t]) := by
 have tm : ∀ x y, TMem (ts ++ [t]) x y ↔ TMem ts x y \/ (t.1 = y /\ t.2.1 <= x /\ x <= t.2.2) := fun x y => by
  rw [tmem_append, tmem_cons]
  constructor
  ·rintro (h | h | ⟨_, h, _⟩)
   ·exact .inl h
   ·exact .inr h
   ·cases h
  ·rintro (h | h)
   ·exact .inl h
   ·exact .inr (.inl h)
 have okt : Ok [t.2] := fun p hp => by rw [List.mem_singleton.mp hp]; exact ht
 rcases List.eq_nil_or_concat gs with rfl | ⟨gs0, g, rfl⟩
 ·rw [gStep_nil]
  have e0 : ts = [] := List.length_eq_zero_iff.mp (by have := o.len; simpa using this.symm)
  subst e0
  refine ⟨fun g hg => ?_, List.pairwise_singleton _ _, fun x y => ?_, fun g hg => ⟨t, by simp, by rw [List.mem_singleton.mp hg]⟩, by simp⟩
  ·rw [List.mem_singleton.mp hg]; exact ⟨by simp, okt⟩
  ·rw [tm, pmem_cons, mem_cons]
   constructor
   ·rintro (⟨h1, h2 | h2⟩ | h)
    ·exact .inr ⟨h1, h2⟩
    ·exact (mem_nil _ h2).elim
    ·exact (pmem_nil _ _ h).elim
   ·rintro (⟨_, h, _⟩ | h)
    ·cases h
    ·exact .inl ⟨h.1, .inl h.2⟩
 ·rw [List.concat_eq_append] at *
  have up := List.pairwise_append.mp o.up
  rw [gStep_snoc]
  have glast : g.1 <= t.1 := by
   obtain ⟨s, hs, e⟩ := o.le g (by simp)
   have := hb s hs
   lia
  by_cases h : g.1 = t.1
  ·rw [if_pos h]
   refine ⟨fun q hq => ?_, ?_, fun x y => ?_, fun q hq => ?_, ?_⟩
   ·rcases List.mem_append.mp hq with hq | hq
    ·exact o.ne q (List.mem_append_left _ hq)
    ·rw [List.mem_singleton.mp hq]
     refine ⟨by simp, fun p hp => ?_⟩
     rcases List.mem_append.mp hp with hp | hp
     ·exact (o.ne g (by simp)).2 p hp
     ·exact okt p hp
   ·refine List.pairwise_append.mpr ⟨up.1, List.pairwise_singleton _ _, fun a ha b hb => ?_⟩
    rw [List.mem_singleton.mp hb]
    exact up.2.2 a ha g (by simp)
   ·rw [tm, <- o.mem, pmem_append, pmem_append, pmem_cons, pmem_cons]
    dsimp only
    rw [mem_append, mem_cons]
    have n0 := pmem_nil x y
    have n1 := mem_nil x
    constructor
    ·rintro (k | ⟨k1, k2 | k2 | k2⟩ | k)
     ·exact .inl (.inl k)
     ·exact .inl (.inr (.inl ⟨k1, k2⟩))
     ·exact .inr ⟨by lia, k2⟩
     ·exact absurd k2 n1
     ·exact absurd k n0
    ·rintro ((k | ⟨k1, k2⟩ | k) | ⟨k1, k2⟩)
     ·exact .inl k
     ·exact .inr (.inl ⟨k1, .inl k2⟩)
     ·exact absurd k n0
     ·exact .inr (.inl ⟨by lia, .inr (.inl k2)⟩)
   ·rcases List.mem_append.mp hq with hq | hq
    ·obtain ⟨s, hs, e⟩ := o.le q (List.mem_append_left _ hq)
     exact ⟨s, List.mem_append_left _ hs, e⟩
    ·rw [List.mem_singleton.mp hq]
     exact ⟨t, by simp, h⟩
   ·have := o.len
    simp only [List.map_append, List.sum_append, List.map_cons, List.map_nil, List.sum_cons, List.sum_nil, List.length_append, List.length_cons, List.length_nil] at this ⊢
    lia
  ·rw [if_neg h]
   refine ⟨fun q hq => ?_, ?_, fun x y => ?_, fun q hq => ?_, ?_⟩
   ·rcases List.mem_append.mp hq with hq | hq
    ·exact o.ne q hq
    ·rw [List.mem_singleton.mp hq]; exact ⟨by simp, okt⟩
   ·refine List.pairwise_append.mpr ⟨o.up, List.pairwise_singleton _ _, fun a ha b hb' => ?_⟩
    rw [List.mem_singleton.mp hb']
    rcases List.mem_append.mp ha with ha | ha
    ·have := up.2.2 a ha g (by simp)
     dsimp only
     lia
    ·rw [List.mem_singleton.mp ha]; dsimp only; lia
   ·rw [tm, <- o.mem, pmem_append, pmem_cons]
    dsimp only
    rw [mem_cons]
    have n0 := pmem_nil x y
    have n1 := mem_nil x
    constructor
    ·rintro (k | ⟨k1, k2 | k2⟩ | k)
     ·exact .inl k
     ·exact .inr ⟨k1, k2⟩
     ·exact absurd k2 n1
     ·exact absurd k n0
    ·rintro (k | ⟨k1, k2⟩)
     ·exact .inl k
     ·exact .inr (.inl ⟨k1, .inl k2⟩)
   ·rcases List.mem_append.mp hq with hq | hq
    ·obtain ⟨s, hs, e⟩ := o.le q hq
     exact ⟨s, List.mem_append_left _ hs, e⟩
    ·rw [List.mem_singleton.mp hq]
     exact ⟨t, by simp, rfl⟩
   ·have := o.len
    simp only [List.map_append, List.sum_append, List.map_cons, List.map_nil, List.sum_cons, List.sum_nil, List.length_append, List.length_cons, List.length_nil] at this ⊢
    lia
theorem group_ok : ∀ (post pre : List Tri), (∀ t ∈ pre ++ post, t.2.1 <= t.2.2) -> (pre ++ post).Pairwise (fun p q => p.1 <= q.1) -> GOk (group pre) pre -> GOk (group (pre ++ post)) (pre ++ post)
 | [], pre, _, _, o => by rw [List.append_nil]; exact o
 | t :: post, pre, h1, h2, o => by
  have e : pre ++ t :: post = (pre ++ [t]) ++ post := by simp
  rw [e] at h1 h2 ⊢
  refine group_ok post (pre ++ [t]) h1 h2 ?_
  rw [group_snoc]
  have h3 := List.pairwise_append.mp h2
  have h4 := List.pairwise_append.mp h3.1
  exact gStep_ok o (h1 t (by simp)) fun s hs => h4.2.2 s hs t (by simp)
theorem group_ok0 {ts : List Tri} (h1 : ∀ t ∈ ts, t.2.1 <= t.2.2) (h2 : ts.Pairwise fun p q => p.1 <= q.1) : GOk (group ts) ts :=
 group_ok ts [] h1 h2 ⟨fun _ h => (by cases h), .nil, fun x y => ⟨fun h => (pmem_nil _ _ h).elim, fun ⟨_, h, _⟩ => by cases h⟩, fun _ h => (by cases h), rfl⟩
def picOf (ts : List Tri) : Pic := (group (sortT (ts.filter goodT))).map fun g => (g.1, rowOf g.2)
theorem sorted_good (ts : List Tri) : GOk (group (sortT (ts.filter goodT))) (sortT (ts.filter goodT)) := group_ok0 (fun t ht => by
 have := (sortT_perm _).mem_iff.mp ht
 simpa [goodT] using (List.mem_filter.mp this).2) (sortT_pw _)
theorem rowOf_ne {ps : R} (h : ps ≠ []) (o : Ok ps) : rowOf ps ≠ [] := fun e => by
 cases ps with
 | nil => exact h rfl
 | cons p ps =>
  have := ((isRow_rowOf (p :: ps)).2 p.1).mpr ((mem_cons ..).mpr (.inl ⟨Int.le_refl _, o p List.mem_cons_self⟩))
  rw [e] at this
  exact mem_nil _ this
theorem picOf_ok (ts : List Tri) : PCanon (picOf ts) /\ ∀ x y, PMem (picOf ts) x y ↔ TMem ts x y := by
 have o := sorted_good ts
 refine ⟨⟨fun q hq => ?_, ?_⟩, fun x y => ?_⟩
 ·obtain ⟨g, hg, rfl⟩ := List.mem_map.mp hq
  obtain ⟨h1, h2⟩ := o.ne g hg
  exact ⟨(isRow_rowOf g.2).1, rowOf_ne h1 h2⟩
 ·unfold picOf
  rw [List.pairwise_map]
  exact o.up
 ·rw [<- tmem_filter ts, <- tmem_perm (sortT_perm _), <- o.mem]
  constructor
  ·rintro ⟨q, hq, e, hm⟩
   obtain ⟨g, hg, rfl⟩ := List.mem_map.mp hq
   exact ⟨g, hg, e, ((isRow_rowOf g.2).2 x).mp hm⟩
  ·rintro ⟨g, hg, e, hm⟩
   exact ⟨_, List.mem_map.mpr ⟨g, hg, rfl⟩, e, ((isRow_rowOf g.2).2 x).mpr hm⟩
def strOf (p : Pic) : List Tri := p.flatMap fun q => q.2.map fun s => (q.1, s)
theorem strOf_cons (q : Int × R) (p : Pic) : strOf (q :: p) = (q.2.map fun s => (q.1, s)) ++ strOf p := rfl
theorem tmem_str (p : Pic) (x y : Int) : TMem (strOf p) x y ↔ PMem p x y := by
 constructor
 ·rintro ⟨t, ht, e, h⟩
  obtain ⟨q, hq, hs⟩ := List.mem_flatMap.mp ht
  obtain ⟨s, hs2, rfl⟩ := List.mem_map.mp hs
  exact ⟨q, hq, e, s, hs2, h⟩
 ·rintro ⟨q, hq, e, s, hs, h⟩
  exact ⟨(q.1, s), List.mem_flatMap.mpr ⟨q, hq, List.mem_map.mpr ⟨s, hs, rfl⟩⟩, e, h⟩
theorem picOf_uniq {ts : List Tri} {p : Pic} (c : PCanon p) (h : ∀ x y, TMem ts x y ↔ PMem p x y) : picOf ts = p :=
 punique (picOf_ok ts).1 c fun x y => ((picOf_ok ts).2 x y).trans (h x y)
theorem picOf_str {p : Pic} (c : PCanon p) : picOf (strOf p) = p := picOf_uniq c (tmem_str p)
mutual
theorem eqD_refl : ∀ (n : Nat) (d : D), okD n d = true -> eqD d d = true
 | _, .non, _ => by simp [eqD]
 | _, .bl _, _ => by simp [eqD]
 | _, .int _, _ => by simp [eqD]
 | _, .str _, _ => by simp [eqD]
 | 0, .lst _, h => by simp [okD] at h
 | n + 1, .lst l, h => by rw [eqD]; exact eqDs_refl n l (by simpa [okD] using h)
 | 0, .tup _, h => by simp [okD] at h
 | n + 1, .tup l, h => by rw [eqD]; exact eqDs_refl n l (by simpa [okD] using h)
 | n, .ty _, h => by cases n <;> simp [okD] at h
 | n, .scr _, h => by cases n <;> simp [okD] at h
 | n, .ins _ _ _, h => by cases n <;> simp [okD] at h
 | n, .dic _, h => by cases n <;> simp [okD] at h
theorem eqDs_refl : ∀ (n : Nat) (l : List D), okDs n l = true -> eqDs l l = true
 | _, [], _ => by simp [eqDs]
 | n, d :: l, h => by
  rw [okDs, Bool.and_eq_true] at h
  rw [eqDs, eqD_refl n d h.1, eqDs_refl n l h.2]
  rfl
end
theorem dEq_self {d : D} (neg : Bool) (h : okD 50 d = true) : dEq neg d d = some (.bl (!neg)) := by
 unfold dEq
 rw [if_pos ⟨h, h⟩, eqD_refl 50 d h]
 cases neg <;> rfl
def grO (g : Int × R) : O := .tup [.sh (.int g.1), .lst (g.2.map (O.sh ∘ prD))]
def grD (g : Int × R) : D := .tup [.int g.1, lstD g.2]
theorem grO_d (g : Int × R) : (grO g).d = grD g := by simp [grO, grD]
theorem grs_d : ∀ gs : Pic, O.ds (gs.map grO) = gs.map grD
 | [] => by simp
 | g :: gs => by rw [List.map_cons, O_ds_cons, grO_d, grs_d gs]; rfl
theorem gStep_len (gs : Pic) (t : Tri) : (gStep gs t).length <= gs.length + 1 := by
 rcases List.eq_nil_or_concat gs with rfl | ⟨gs0, g, rfl⟩
 ·simp [gStep]
 ·rw [List.concat_eq_append, gStep_snoc]
  split <;> simp
theorem group_len : ∀ ts : List Tri, (group ts).length <= ts.length := by
 intro ts
 have key : ∀ (l : List Tri) (gs : Pic), (l.foldl gStep gs).length <= gs.length + l.length := by
  intro l
  induction l with
  | nil => intro gs; simp
  | cons t l ih =>
   intro gs
   have h1 := ih (gStep gs t)
   have h2 := gStep_len gs t
   rw [List.foldl_cons, List.length_cons]
   lia
 have := key ts []
 unfold group
 simpa using this
theorem picture_turn (s0 : Sl) (gs : Pic) (t : Tri) (h : gs.length <= 30000) (hg : ∀ g ∈ gs, g.2.length <= 30000) : B_picture_of_0 [s0, .ow (.lst (gs.map grO)), .sh (.int t.1), .sh (.int t.2.1), .sh (.int t.2.2)] = some (.nx [s0, .ow (.lst ((gStep gs t).map grO)), .sh (.int t.1), .sh (.int t.2.1), .sh (.int t.2.2)]) := by
 rcases List.eq_nil_or_concat gs with rfl | ⟨gs0, g, rfl⟩
 ·simp [B_picture_of_0, gStep, grO]
 ·rw [List.concat_eq_append] at *
  rw [gStep_snoc]
  have hl : gs0.length + 1 <= 30000 := by simpa using h
  have hlim : gs0.length + 1 < LIM := lim_of' (by lia)
  have hg2 : g.2.length < LIM := lim_of' (by have := hg g (by simp); lia)
  by_cases hc : g.1 = t.1
  ·simp [B_picture_of_0, hc, hg2, grO]
  ·simp [B_picture_of_0, hc, hlim, grO]
theorem le_sum_mem : ∀ {l : List Nat} {n : Nat}, n ∈ l -> n <= l.sum
 | [], _, h => by cases h
 | m :: l, n, h => by
  rw [List.sum_cons]
  rcases List.mem_cons.mp h with rfl | h
  ·lia
  ·have := le_sum_mem h; lia
theorem m_picture_of_is (ts : List Tri) (h : ts.length < 30000) : m_picture_of [.lst (ts.map triD)] = some (picD (picOf ts)) := by
 have hf := List.length_filter_le goodT ts
 have hs := (sortT_perm (ts.filter goodT)).length_eq
 have og := sorted_good ts
 have key : ∃ ρ', loopF (xgTup (xgCons (xgName 2) (xgCons (xgName 3) (xgCons (xgName 4) xgNil)))) B_picture_of_0 ((sortT (ts.filter goodT)).map triD) [.sh (.lst (ts.map triD)), .ow (.lst []), .un, .un, .un] = some (.nx ρ') /\ ∃ va vb vc, ρ' = [.sh (.lst (ts.map triD)), .ow (.lst ((group (sortT (ts.filter goodT))).map grO)), va, vb, vc] := by
  refine loopF_inv triD (fun pre ρ => ∃ va vb vc, ρ = [.sh (.lst (ts.map triD)), .ow (.lst ((group pre).map grO)), va, vb, vc]) _ _ ⟨_, _, _, rfl⟩ ?_
  rintro pre t post _ e ⟨va, vb, vc, rfl⟩
  have hp : pre.length <= 30000 := by
   have := congrArg List.length e
   rw [List.length_append] at this
   lia
  have gl := group_len pre
  have gp : GOk (group pre) pre := by
   refine group_ok0 (fun s hs => ?_) ?_
   ·have := (sortT_perm _).mem_iff.mp (show s ∈ sortT (ts.filter goodT) by rw [e]; simp [hs])
    simpa [goodT] using (List.mem_filter.mp this).2
   ·have := sortT_pw (ts.filter goodT)
    rw [e] at this
    exact (List.pairwise_append.mp this).1
  have gg : ∀ g ∈ group pre, g.2.length <= 30000 := fun g hg => by
   have h1 := gp.len
   have h2 : g.2.length <= ((group pre).map fun g => g.2.length).sum := le_sum_mem (List.mem_map.mpr ⟨g, hg, rfl⟩)
   lia
  refine ⟨_, _, rfl, .inl (picture_turn _ (group pre) t (by lia) gg), .sh (.int t.1), .sh (.int t.2.1), .sh (.int t.2.2), by rw [group_snoc]⟩
 obtain ⟨ρ', k1, va, vb, vc, rfl⟩ := key
 have hc := comp_goodT ts
 have hb := bSorted_tris (ts.filter goodT) (by lia)
 have hl : ts.length <= LIM := lim_of (by lia)
 have gl := group_len (sortT (ts.filter goodT))
 have hl2 : (group (sortT (ts.filter goodT))).length <= LIM := lim_of (by lia)
 have c2 : compF (xgTup (xgCons (xgName 0) (xgCons (xgName 1) xgNil))) xYes (xTup (xCons (xVar 0) (xCons (xCall m_row_of (xCons (xVar 1) xNil)) xNil))) [.un, .un] ((group (sortT (ts.filter goodT))).map grD) = some ((picOf ts).map pyD) := by
  rw [compF_map grD (fun g => pyD (g.1, rowOf g.2))]
  ·unfold picOf
   rw [List.map_map]
   rfl
  ·intro g hg
   have h1 : g.2.length < 30000 := by
    have h2 : g.2.length <= ((group (sortT (ts.filter goodT))).map fun g => g.2.length).sum := le_sum_mem (List.mem_map.mpr ⟨g, hg, rfl⟩)
    have := og.len
    lia
   have h3 := m_row_of_is g.2 h1
   simp [oneF, grD, h3]
 simp [m_picture_of, mo_picture_of, fnO, X_picture_of, hl, hc, hb, k1, frz, grs_d, hl2, c2]
theorem strOf_append (p q : Pic) : strOf (p ++ q) = strOf p ++ strOf q := by unfold strOf; rw [List.flatMap_append]
theorem strOf_len_mem {p : Pic} {q : Int × R} (h : q ∈ p) : q.2.length <= (strOf p).length := by
 induction p with
 | nil => cases h
 | cons s p ih =>
  rw [strOf_cons, List.length_append, List.length_map]
  rcases List.mem_cons.mp h with rfl | h
  ·lia
  ·have := ih h; lia
theorem mo_stretches_of_is (p : Pic) (h : (strOf p).length <= 100000) : mo_stretches_of [picD p] = some (.lst ((strOf p).map (O.sh ∘ triD))) := by
 obtain ⟨ρ', k1, v2, v3, rfl⟩ := loopF_inv (g := xgTup (xgCons (xgName 2) (xgCons (xgName 3) xgNil))) (m := B_stretches_of_0) pyD (fun pre ρ => ∃ v2 v3, ρ = [.sh (picD p), .ow (.lst ((strOf pre).map (O.sh ∘ triD))), v2, v3]) p [.sh (picD p), .ow (.lst []), .un, .un] ⟨_, _, rfl⟩ (by
  rintro pre q post _ e ⟨v2, v3, rfl⟩
  have hlen : (strOf pre).length + q.2.length <= 100000 := by
   rw [e, strOf_append, strOf_cons, List.length_append, List.length_append, List.length_map] at h
   lia
  have hl : (strOf pre).length + q.2.length <= LIM := lim_of hlen
  have hl2 : q.2.length <= LIM := lim_of (by lia)
  have hc : compF (xgTup (xgCons (xgName 0) (xgCons (xgName 1) xgNil))) xYes (xTup (xCons (xVar 2) (xCons (xVar 0) (xCons (xVar 1) xNil)))) [.un, .un, .sh (.int q.1)] (q.2.map prD) = some (q.2.map fun s => triD (q.1, s)) := compF_map prD _ q.2 fun s _ => by simp [oneF]
  refine ⟨_, [.sh (picD p), .ow (.lst ((strOf (pre ++ [q])).map (O.sh ∘ triD))), .sh (.int q.1), .sh (rowD q.2)], rfl, .inl ?_, _, _, rfl⟩
  have es : strOf (pre ++ [q]) = strOf pre ++ q.2.map fun s => (q.1, s) := by rw [strOf_append, strOf_cons]; simp [strOf]
  rw [es]
  simp [B_stretches_of_0, hl, hl2, hc])
 simp [mo_stretches_of, fnO, X_stretches_of, k1]
theorem m_stretches_of_is (p : Pic) (h : (strOf p).length <= 100000) : m_stretches_of [picD p] = some (.lst ((strOf p).map triD)) := by
 unfold m_stretches_of
 rw [mo_stretches_of_is p h]
 simp
theorem m_row_count_is (r : R) (h : r.length <= 30000) : m_row_count [rowD r] = some (.int (count r)) := by
 have hl : r.length <= LIM := lim_of (by lia)
 have hc : compF (xgTup (xgCons (xgName 0) (xgCons (xgName 1) xgNil))) xYes (xOp dAdd (xOp dSub (xVarP 1) (xVarP 0)) (xC (.int 1))) [.un, .un] (r.map prD) = some (r.map fun p => .int (p.2 - p.1 + 1)) := compF_map prD _ r fun p _ => by simp [oneF]
 have hi : bSum [.lst (r.map fun p => .int (p.2 - p.1 + 1))] = some (.int (count r)) := by
  have e : (r.map fun p => D.int (p.2 - p.1 + 1)) = (r.map fun p => p.2 - p.1 + 1).map D.int := by rw [List.map_map]; rfl
  rw [e]
  show (intsOf _).map _ = _
  rw [ints_map]
  rfl
 simp [m_row_count, mo_row_count, fnO, X_row_count, hl, hc, hi]
def cnt (p : Pic) : Int := (p.map fun q => count q.2).sum
def sumT (ts : List Tri) : Int := (ts.map fun t => t.2.2 - t.2.1 + 1).sum
theorem m_count_cells_is (p : Pic) (h : p.length <= 30000) (hr : ∀ q ∈ p, q.2.length <= 30000) : m_count_cells [picD p] = some (.int (cnt p)) := by
 have hl : p.length <= LIM := lim_of (by lia)
 have hc : compF (xgTup (xgCons (xgName 0) (xgCons (xgName 1) xgNil))) xYes (xCall m_row_count (xCons (xVar 1) xNil)) [.un, .un] (p.map pyD) = some (p.map fun q => .int (count q.2)) := compF_map pyD _ p fun q hq => by
  have := m_row_count_is q.2 (hr q hq)
  simp [oneF, this]
 have hi : bSum [.lst (p.map fun q => .int (count q.2))] = some (.int (cnt p)) := by
  have e : (p.map fun q => D.int (count q.2)) = (p.map fun q => count q.2).map D.int := by rw [List.map_map]; rfl
  rw [e]
  show (intsOf _).map _ = _
  rw [ints_map]
  rfl
 simp [m_count_cells, mo_count_cells, fnO, X_count_cells, hl, hc, hi]
theorem sumT_append (a b : List Tri) : sumT (a ++ b) = sumT a + sumT b := by unfold sumT; rw [List.map_append, List.sum_append]
theorem sumT_cons (t : Tri) (b : List Tri) : sumT (t :: b) = t.2.2 - t.2.1 + 1 + sumT b := by unfold sumT; rw [List.map_cons, List.sum_cons]
theorem cnt_str : ∀ p : Pic, cnt p = sumT (strOf p)
 | [] => rfl
 | q :: p => by
  rw [strOf_cons, sumT_append, <- cnt_str p]
  unfold cnt
  rw [List.map_cons, List.sum_cons]
  congr 1
  unfold sumT count
  rw [List.map_map]
  rfl
def zs (lo : Int) : Nat -> List Int
 | 0 => []
 | n + 1 => lo :: zs (lo + 1) n
theorem intsD_zs : ∀ (n : Nat) (lo : Int), intsD lo n = (zs lo n).map D.int
 | 0, _ => rfl
 | n + 1, lo => by rw [intsD, zs, List.map_cons, intsD_zs n]
theorem zs_len : ∀ (n : Nat) (lo : Int), (zs lo n).length = n
 | 0, _ => rfl
 | n + 1, lo => by rw [zs, List.length_cons, zs_len n]
theorem mem_zs : ∀ (n : Nat) (lo x : Int), x ∈ zs lo n ↔ lo <= x /\ x < lo + n
 | 0, lo, x => by simp [zs]
 | n + 1, lo, x => by
  rw [zs, List.mem_cons, mem_zs n]
  lia
def cellsT (t : Tri) : R := (zs t.2.1 (t.2.2 + 1 - t.2.1).toNat).map fun x => (x, t.1)
def cellsL (ts : List Tri) : R := ts.flatMap cellsT
theorem cellsL_append (a b : List Tri) : cellsL (a ++ b) = cellsL a ++ cellsL b := by unfold cellsL; rw [List.flatMap_append]
theorem cellsL_cons (t : Tri) (b : List Tri) : cellsL (t :: b) = cellsT t ++ cellsL b := rfl
theorem cellsT_len (t : Tri) : (cellsT t).length = (t.2.2 + 1 - t.2.1).toNat := by unfold cellsT; rw [List.length_map, zs_len]
theorem cellsL_len : ∀ ts : List Tri, (∀ t ∈ ts, t.2.1 <= t.2.2) -> ((cellsL ts).length : Int) = sumT ts
 | [], _ => rfl
 | t :: ts, h => by
  rw [cellsL_cons, List.length_append, sumT_cons, cellsT_len]
  have h1 := cellsL_len ts fun s hs => h s (List.mem_cons_of_mem _ hs)
  have h2 := h t List.mem_cons_self
  lia
theorem mem_cellsL (ts : List Tri) (x y : Int) : (x, y) ∈ cellsL ts ↔ TMem ts x y := by
 unfold cellsL
 rw [List.mem_flatMap]
 constructor
 ·rintro ⟨t, ht, h⟩
  obtain ⟨z, hz, e⟩ := List.mem_map.mp h
  cases e
  have := (mem_zs _ _ _).mp hz
  exact ⟨t, ht, rfl, by lia, by lia⟩
 ·rintro ⟨t, ht, h1, h2, h3⟩
  exact ⟨t, ht, List.mem_map.mpr ⟨x, (mem_zs _ _ _).mpr ⟨h2, by lia⟩, by rw [h1]⟩⟩
theorem str_good {p : Pic} (c : PCanon p) : ∀ t ∈ strOf p, t.2.1 <= t.2.2 := fun t ht => by
 obtain ⟨q, hq, h⟩ := List.mem_flatMap.mp ht
 obtain ⟨s, hs, rfl⟩ := List.mem_map.mp h
 exact (c.1 q hq).1.1 s hs
theorem sortT_lex (ts : List Tri) : (sortT ts).Pairwise fun p q => p.1 < q.1 \/ (p.1 = q.1 /\ p.2.1 <= q.2.1) := by
 have h := sortK_pw (ts.map keyT)
 rw [<- sortT_keys, List.pairwise_map] at h
 refine h.imp fun {p q} e => ?_
 have e' : (if q.1 = p.1 then (if q.2.1 = p.2.1 then HT.lexLt [q.2.2] [p.2.2] else decide (q.2.1 < p.2.1)) else decide (q.1 < p.1)) = false := e
 by_cases hq : q.1 = p.1
 ·rw [if_pos hq] at e'
  by_cases hr : q.2.1 = p.2.1
  ·exact .inr ⟨hq.symm, by lia⟩
  ·rw [if_neg hr] at e'
   have := of_decide_eq_false e'
   exact .inr ⟨hq.symm, by lia⟩
 ·rw [if_neg hq] at e'
  have := of_decide_eq_false e'
  exact .inl (by lia)
theorem zs_nodup : ∀ (n : Nat) (lo : Int), (zs lo n).Nodup
 | 0, _ => .nil
 | n + 1, lo => by
  unfold zs
  refine List.nodup_cons.mpr ⟨fun h => ?_, zs_nodup n (lo + 1)⟩
  have := (mem_zs n (lo + 1) lo).mp h
  lia
theorem cellsT_nodup (t : Tri) : (cellsT t).Nodup := by
 unfold cellsT
 refine List.pairwise_map.mpr ((zs_nodup _ _).imp fun {a b} h e => h ?_)
 exact (Prod.mk.inj e).1
def Apart (a b : Tri) : Prop := a.1 ≠ b.1 \/ a.2.2 < b.2.1
theorem mem_cellsT (t : Tri) (x y : Int) : (x, y) ∈ cellsT t ↔ t.1 = y /\ t.2.1 <= x /\ x <= t.2.2 := by
 have h := mem_cellsL [t] x y
 have e : cellsL [t] = cellsT t := by unfold cellsL; simp
 rw [e] at h
 rw [h]
 constructor
 ·rintro ⟨s, hs, k⟩
  rw [List.mem_singleton.mp hs] at k
  exact k
 ·exact fun k => ⟨t, List.mem_singleton.mpr rfl, k⟩
theorem cellsL_nodup : ∀ {ds : List Tri}, ds.Pairwise Apart -> (cellsL ds).Nodup
 | [], _ => .nil
 | t :: ds, h => by
  have h1 := List.pairwise_cons.mp h
  rw [cellsL_cons]
  refine List.nodup_append.mpr ⟨cellsT_nodup t, cellsL_nodup h1.2, ?_⟩
  rintro ⟨x, y⟩ ha ⟨x', y'⟩ hb e
  cases e
  obtain ⟨s, hs, k1, k2, k3⟩ := (mem_cellsL ds x y).mp hb
  obtain ⟨j1, j2, j3⟩ := (mem_cellsT t x y).mp ha
  rcases h1.1 s hs with q | q
  ·exact q (by lia)
  ·lia
theorem card_of {ds es : List Tri} (h1 : ds.Pairwise Apart) (h2 : es.Pairwise Apart) (g1 : ∀ t ∈ ds, t.2.1 <= t.2.2) (g2 : ∀ t ∈ es, t.2.1 <= t.2.2) (h : ∀ x y, TMem ds x y ↔ TMem es x y) : sumT ds = sumT es := by
 rw [<- cellsL_len ds g1, <- cellsL_len es g2]
 have := ((List.perm_ext_iff_of_nodup (cellsL_nodup h1) (cellsL_nodup h2)).mpr fun ⟨x, y⟩ => by rw [mem_cellsL, mem_cellsL]; exact h x y).length_eq
 rw [this]
theorem str_apart : ∀ {p : Pic}, PCanon p -> (strOf p).Pairwise Apart
 | [], _ => .nil
 | q :: p, c => by
  obtain ⟨⟨c1, _⟩, c2, c3⟩ := pcanon_cons.mp c
  rw [strOf_cons]
  refine List.pairwise_append.mpr ⟨List.pairwise_map.mpr ?_, str_apart c3, ?_⟩
  ·exact c1.2.imp fun {a b} h => .inr (by dsimp only; lia)
  ·intro a ha b hb
   obtain ⟨s, _, rfl⟩ := List.mem_map.mp ha
   obtain ⟨u, hu, k⟩ := List.mem_flatMap.mp hb
   obtain ⟨v, _, rfl⟩ := List.mem_map.mp k
   exact .inl (by have := c2 u hu; dsimp only; lia)
theorem cnt_of {ds : List Tri} {p : Pic} (h1 : ds.Pairwise Apart) (g1 : ∀ t ∈ ds, t.2.1 <= t.2.2) (c : PCanon p) (h : ∀ x y, TMem ds x y ↔ PMem p x y) : sumT ds = cnt p := by
 rw [cnt_str]
 exact card_of h1 (str_apart c) g1 (str_good c) fun x y => by rw [h, tmem_str]
abbrev La := Int × Option (Int × Int)
def lnStep (a : La) (t : Tri) : La :=
 match a.2 with
 | none => if t.2.1 <= t.2.2 then (a.1 + t.2.2 - t.2.1 + 1, some (t.1, t.2.2)) else a
 | some (y, h) => if y = t.1 /\ t.2.1 <= h then (if h + 1 <= t.2.2 then (a.1 + t.2.2 - (h + 1) + 1, some (t.1, t.2.2)) else a) else (if t.2.1 <= t.2.2 then (a.1 + t.2.2 - t.2.1 + 1, some (t.1, t.2.2)) else a)
structure LnOk (a : La) (pre ds : List Tri) : Prop where
 ap : ds.Pairwise Apart
 gd : ∀ t ∈ ds, t.2.1 <= t.2.2
 tot : a.1 = sumT ds
 mem : ∀ x y, TMem ds x y ↔ TMem pre x y
 non : a.2 = none -> pre = []
 som : ∀ y h, a.2 = some (y, h) -> (∃ s ∈ pre, s.1 = y /\ s.2.2 = h) /\ ∀ d ∈ ds, d.1 < y \/ (d.1 = y /\ d.2.2 <= h)
theorem LnOk.put {a : La} {pre ds : List Tri} {t : Tri} (o : LnOk a pre ds) (lo : Int) (hg : lo <= t.2.2) (hap : ∀ d ∈ ds, d.1 < t.1 \/ (d.1 = t.1 /\ d.2.2 < lo)) (hm : ∀ x, t.2.1 <= x -> x < lo -> TMem pre x t.1) (hl : t.2.1 <= lo) : LnOk (a.1 + t.2.2 - lo + 1, some (t.1, t.2.2)) (pre ++ [t]) (ds ++ [(t.1, lo, t.2.2)]) where
 ap := List.pairwise_append.mpr ⟨o.ap, List.pairwise_singleton .., fun d hd e he => by
  rw [List.mem_singleton.mp he]
  rcases hap d hd with h | h
  ·exact .inl (by dsimp only; lia)
  ·exact .inr h.2⟩
 gd := fun d hd => by
  rcases List.mem_append.mp hd with h | h
  ·exact o.gd d h
  ·rw [List.mem_singleton.mp h]; exact hg
 tot := by
  have : sumT [(t.1, lo, t.2.2)] = t.2.2 - lo + 1 := by unfold sumT; simp
  rw [sumT_append, this, <- o.tot]
  dsimp only
  lia
 mem := fun x y => by
  rw [tmem_append, tmem_append, o.mem, tmem_cons, tmem_cons]
  constructor
  ·rintro (h | ⟨h1, h2, h3⟩ | ⟨_, h, _⟩)
   ·exact .inl h
   ·exact .inr (.inl ⟨h1, by dsimp only at h2; lia, h3⟩)
   ·cases h
  ·rintro (h | ⟨h1, h2, h3⟩ | ⟨_, h, _⟩)
   ·exact .inl h
   ·by_cases hx : x < lo
    ·exact .inl (h1 ▸ hm x h2 hx)
    ·exact .inr (.inl ⟨h1, by dsimp only; lia, h3⟩)
   ·cases h
 non := fun h => by cases h
 som := fun y h e => by
  cases e
  refine ⟨⟨t, List.mem_append_right _ (List.mem_singleton.mpr rfl), rfl, rfl⟩, fun d hd => ?_⟩
  rcases List.mem_append.mp hd with h | h
  ·rcases hap d h with k | k
   ·exact .inl k
   ·exact .inr ⟨k.1, by lia⟩
  ·rw [List.mem_singleton.mp h]
   exact .inr ⟨rfl, Int.le_refl _⟩
theorem lnStep_ok {a : La} {pre ds : List Tri} {t : Tri} (o : LnOk a pre ds) (ht : t.2.1 <= t.2.2) (hb : ∀ s ∈ pre, s.1 < t.1 \/ (s.1 = t.1 /\ s.2.1 <= t.2.1)) : ∃ ds', LnOk (lnStep a t) (pre ++ [t]) ds' := by
 obtain ⟨tot, last⟩ := a
 unfold lnStep
 cases last with
 | none =>
  have hp : pre = [] := o.non rfl
  dsimp only
  rw [if_pos ht]
  refine ⟨_, o.put t.2.1 ht (fun d hd => ?_) (fun x h1 h2 => by lia) (Int.le_refl _)⟩
  have := o.mem
  exfalso
  have hd1 := o.gd d hd
  have k := (o.mem d.2.1 d.1).mp ⟨d, hd, rfl, Int.le_refl _, hd1⟩
  rw [hp] at k
  obtain ⟨_, h, _⟩ := k
  cases h
 | some p =>
  obtain ⟨y, h⟩ := p
  obtain ⟨⟨s, hs, s1, s2⟩, hd⟩ := o.som y h rfl
  dsimp only
  have hbs := hb s hs
  by_cases hc : y = t.1 /\ t.2.1 <= h
  ·rw [if_pos hc]
   have cov : ∀ x, t.2.1 <= x -> x <= h -> TMem pre x t.1 := fun x h1 h2 => ⟨s, hs, by lia, by lia, by lia⟩
   by_cases hh : h + 1 <= t.2.2
   ·rw [if_pos hh]
    refine ⟨_, o.put (h + 1) hh (fun d hd' => ?_) (fun x h1 h2 => cov x h1 (by lia)) (by lia)⟩
    rcases hd d hd' with k | k
    ·exact .inl (by lia)
    ·exact .inr ⟨by lia, by lia⟩
   ·rw [if_neg hh]
    refine ⟨ds, o.ap, o.gd, o.tot, fun x y' => ?_, fun e => (by cases e), fun y' h' e => ?_⟩
    ·rw [o.mem, tmem_append, tmem_cons]
     constructor
     ·exact .inl
     ·rintro (k | ⟨k1, k2, k3⟩ | ⟨_, k, _⟩)
      ·exact k
      ·exact k1 ▸ cov x k2 (by lia)
      ·cases k
    ·cases e
     exact ⟨⟨s, List.mem_append_left _ hs, s1, s2⟩, hd⟩
  ·rw [if_neg hc, if_pos ht]
   refine ⟨_, o.put t.2.1 ht (fun d hd' => ?_) (fun x h1 h2 => by lia) (Int.le_refl _)⟩
   rcases hd d hd' with k | k
   ·exact .inl (by lia)
   ·by_cases e : y = t.1
    ·exact .inr ⟨by lia, by have : ¬ t.2.1 <= h := fun q => hc ⟨e, q⟩; lia⟩
    ·exact .inl (by lia)
theorem ln_ok : ∀ (post pre : List Tri) (a : La) (ds : List Tri), (∀ t ∈ pre ++ post, t.2.1 <= t.2.2) -> (pre ++ post).Pairwise (fun p q => p.1 < q.1 \/ (p.1 = q.1 /\ p.2.1 <= q.2.1)) -> LnOk a pre ds -> ∃ ds', LnOk (post.foldl lnStep a) (pre ++ post) ds'
 | [], pre, a, ds, _, _, o => ⟨ds, by rw [List.append_nil]; exact o⟩
 | t :: post, pre, a, ds, hg, hp, o => by
  obtain ⟨ds1, o1⟩ := lnStep_ok (t := t) o (hg t (by simp)) fun s hs => (List.pairwise_append.mp hp).2.2 s hs t (by simp)
  have e : pre ++ t :: post = pre ++ [t] ++ post := by simp
  rw [e] at hg hp ⊢
  exact ln_ok post (pre ++ [t]) (lnStep a t) ds1 hg hp o1
def lastD : Option (Int × Int) -> D
 | none => .non
 | some (y, h) => .tup [.int y, .int h]
theorem length_turn (s0 : Sl) (a : La) (t : Tri) : ∃ w4, B_Llength_0 [s0, .sh (.int a.1), .sh (lastD a.2), .sh (.int t.1), .sh (.int t.2.1), .sh (.int t.2.2)] = some (.nx [s0, .sh (.int (lnStep a t).1), .sh (lastD (lnStep a t).2), .sh (.int t.1), w4, .sh (.int t.2.2)]) := by
 obtain ⟨tot, last⟩ := a
 unfold lnStep
 cases last with
 | none =>
  dsimp only
  by_cases h : t.2.1 <= t.2.2
  ·exact ⟨_, by rw [if_pos h]; simp [B_Llength_0, lastD, h]; rfl⟩
  ·exact ⟨_, by rw [if_neg h]; simp [B_Llength_0, lastD, h]; rfl⟩
 | some p =>
  obtain ⟨y, h⟩ := p
  dsimp only
  by_cases hc : y = t.1
  ·by_cases hd : t.2.1 <= h
   ·rw [if_pos ⟨hc, hd⟩]
    by_cases hh : h + 1 <= t.2.2
    ·exact ⟨_, by rw [if_pos hh]; simp [B_Llength_0, lastD, hc, hd, hh]; rfl⟩
    ·exact ⟨_, by rw [if_neg hh]; simp [B_Llength_0, lastD, hc, hd, hh]; rfl⟩
   ·rw [if_neg (fun q => hd q.2)]
    by_cases hh : t.2.1 <= t.2.2
    ·exact ⟨_, by rw [if_pos hh]; simp [B_Llength_0, lastD, hc, hd, hh]; rfl⟩
    ·exact ⟨_, by rw [if_neg hh]; simp [B_Llength_0, lastD, hc, hd, hh]; rfl⟩
  ·rw [if_neg (fun q => hc q.1)]
   by_cases hh : t.2.1 <= t.2.2
   ·exact ⟨_, by rw [if_pos hh]; simp [B_Llength_0, lastD, hc, hh]; rfl⟩
   ·exact ⟨_, by rw [if_neg hh]; simp [B_Llength_0, lastD, hc, hh]; rfl⟩
theorem m_Llength_is (ts : List Tri) (hg : ∀ t ∈ ts, t.2.1 <= t.2.2) (h : ts.length < 30000) : m_Llength [.lst (ts.map triD)] = some (.int (cnt (picOf ts))) := by
 have key : ∃ ρ', loopF (xgTup (xgCons (xgName 3) (xgCons (xgName 4) (xgCons (xgName 5) xgNil)))) B_Llength_0 ((sortT ts).map triD) [.sh (.lst (ts.map triD)), .sh (.int 0), .sh .non, .un, .un, .un] = some (.nx ρ') /\ ∃ va vb vc, ρ' = [.sh (.lst (ts.map triD)), .sh (.int ((sortT ts).foldl lnStep (0, none)).1), .sh (lastD ((sortT ts).foldl lnStep (0, none)).2), va, vb, vc] := by
  refine loopF_inv triD (fun pre ρ => ∃ va vb vc, ρ = [.sh (.lst (ts.map triD)), .sh (.int (pre.foldl lnStep (0, none)).1), .sh (lastD (pre.foldl lnStep (0, none)).2), va, vb, vc]) _ _ ⟨_, _, _, rfl⟩ ?_
  rintro pre t post _ e ⟨va, vb, vc, rfl⟩
  obtain ⟨w4, hw⟩ := length_turn (.sh (.lst (ts.map triD))) (pre.foldl lnStep (0, none)) t
  exact ⟨_, _, rfl, .inl hw, .sh (.int t.1), w4, .sh (.int t.2.2), by rw [List.foldl_append]; rfl⟩
 obtain ⟨ρ', k1, va, vb, vc, rfl⟩ := key
 have hp := sortT_perm ts
 obtain ⟨ds, o⟩ := ln_ok (sortT ts) [] (0, none) [] (fun t ht => hg t (hp.mem_iff.mp (by simpa using ht))) (by simpa using sortT_lex ts) ⟨.nil, fun _ h => (by cases h), rfl, fun _ _ => Iff.rfl, fun _ => rfl, fun _ _ e => (by cases e)⟩
 have c := picOf_ok ts
 have e : ((sortT ts).foldl lnStep (0, none)).1 = cnt (picOf ts) := by
  rw [o.tot]
  exact cnt_of o.ap o.gd c.1 fun x y => by rw [o.mem, List.nil_append, tmem_perm hp, c.2]
 have hb := bSorted_tris ts h
 have hl : ts.length <= LIM := lim_of (by lia)
 rw [e] at k1
 simp [m_Llength, mo_Llength, fnO, X_Llength, hl, hb, k1]
theorem m_row_moved_is (r : R) (by' : Int) (h : r.length <= 30000) : m_row_moved [rowD r, .int by'] = some (rowD (shift r by' by')) := by
 have hl : r.length <= LIM := lim_of (by lia)
 have hc : compF (xgTup (xgCons (xgName 0) (xgCons (xgName 1) xgNil))) xYes (xTup (xCons (xOp dAdd (xVarP 0) (xVarP 2)) (xCons (xOp dAdd (xVarP 1) (xVarP 2)) xNil))) [.un, .un, .sh (.int by')] (r.map prD) = some (r.map fun p => prD (p.1 + by', p.2 + by')) := compF_map prD _ r fun p _ => by simp [oneF]
 simp [m_row_moved, mo_row_moved, fnO, X_row_moved, hl, hc, shift]
def mvP (p : Pic) (dx dy : Int) : Pic := p.map fun q => (q.1 + dy, shift q.2 dx dx)
theorem m_moved_is (p : Pic) (dx dy : Int) (h : p.length <= 30000) (hr : ∀ q ∈ p, q.2.length <= 30000) : m_moved [picD p, .int dx, .int dy] = some (picD (mvP p dx dy)) := by
 have hl : p.length <= LIM := lim_of (by lia)
 have hc : compF (xgTup (xgCons (xgName 0) (xgCons (xgName 1) xgNil))) xYes (xTup (xCons (xOp dAdd (xVarP 0) (xVarP 2)) (xCons (xCall m_row_moved (xCons (xVar 1) (xCons (xVar 3) xNil))) xNil))) [.un, .un, .sh (.int dy), .sh (.int dx)] (p.map pyD) = some (p.map fun q => pyD (q.1 + dy, shift q.2 dx dx)) := compF_map pyD _ p fun q hq => by
  have := m_row_moved_is q.2 dx (hr q hq)
  simp [oneF, this]
 simp [m_moved, mo_moved, fnO, X_moved, hl, hc, mvP]
theorem shift_canon {r : R} (c : Canon r) (d : Int) : Canon (shift r d d) := by
 refine ⟨shift_ok c.1 (Int.le_refl _), ?_⟩
 unfold shift
 rw [List.pairwise_map]
 exact c.2.imp fun {p q} h => by dsimp only; lia
theorem mem_mv (r : R) (d x : Int) : Mem (shift r d d) x ↔ Mem r (x - d) := by
 rw [mem_shift]
 constructor
 ·rintro ⟨p, hp, h1, h2⟩; exact ⟨p, hp, by lia, by lia⟩
 ·rintro ⟨p, hp, h1, h2⟩; exact ⟨p, hp, by lia, by lia⟩
theorem mvP_canon {p : Pic} (c : PCanon p) (dx dy : Int) : PCanon (mvP p dx dy) := by
 refine ⟨fun q hq => ?_, ?_⟩
 ·obtain ⟨s, hs, rfl⟩ := List.mem_map.mp hq
  obtain ⟨h1, h2⟩ := c.1 s hs
  refine ⟨shift_canon h1 dx, fun e => h2 ?_⟩
  exact List.map_eq_nil_iff.mp e
 ·unfold mvP
  rw [List.pairwise_map]
  exact c.2.imp fun {a b} h => by dsimp only; lia
theorem mvP_mem (p : Pic) (dx dy x y : Int) : PMem (mvP p dx dy) x y ↔ PMem p (x - dx) (y - dy) := by
 constructor
 ·rintro ⟨q, hq, h1, h2⟩
  obtain ⟨s, hs, rfl⟩ := List.mem_map.mp hq
  dsimp only at h1 h2
  exact ⟨s, hs, by lia, (mem_mv _ _ _).mp h2⟩
 ·rintro ⟨s, hs, h1, h2⟩
  exact ⟨_, List.mem_map.mpr ⟨s, hs, rfl⟩, by dsimp only; lia, (mem_mv _ _ _).mpr h2⟩
abbrev Blk := Int × Int × Int × Int
abbrev blkD (b : Blk) : D := .tup [.int b.1, .int b.2.1, .int b.2.2.1, .int b.2.2.2]
def BMem (b : Blk) (dx dy : Int) : Prop := b.1 <= dx /\ dx <= b.2.2.1 /\ b.2.1 <= dy /\ dy <= b.2.2.2
def BOk (b : Blk) : Prop := b.1 <= b.2.2.1 /\ b.2.1 <= b.2.2.2
theorem mv_str (p : Pic) (dx dy : Int) : (strOf (mvP p dx dy)).length = (strOf p).length := by
 unfold mvP strOf
 rw [List.length_flatMap, List.length_flatMap, List.map_map]
 congr 1
 apply List.map_congr_left
 intro q _
 simp [shift]
theorem picOf_len (ts : List Tri) : (strOf (picOf ts)).length <= ts.length := by
 have o := sorted_good ts
 have h1 : ∀ gs : Pic, (strOf (gs.map fun g => (g.1, rowOf g.2))).length <= (gs.map fun g => g.2.length).sum := by
  intro gs
  induction gs with
  | nil => simp [strOf]
  | cons g gs ih =>
   have := rowOf_len g.2
   rw [List.map_cons, strOf_cons, List.length_append, List.length_map, List.map_cons, List.sum_cons]
   dsimp only
   lia
 have h2 := h1 (group (sortT (ts.filter goodT)))
 have h3 := o.len
 have h4 := (sortT_perm (ts.filter goodT)).length_eq
 have h5 := List.length_filter_le goodT ts
 have h6 : strOf (picOf ts) = strOf ((group (sortT (ts.filter goodT))).map fun g => (g.1, rowOf g.2)) := rfl
 rw [h6]
 lia
theorem rows_le {p : Pic} (c : PCanon p) : p.length <= (strOf p).length := by
 induction p with
 | nil => exact Nat.le_refl _
 | cons q p ih =>
  obtain ⟨⟨_, h1⟩, _, h2⟩ := pcanon_cons.mp c
  have := ih h2
  have := List.length_pos_iff.mpr h1
  rw [strOf_cons, List.length_append, List.length_map, List.length_cons]
  lia
theorem str_ok {p : Pic} (c : PCanon p) : ∀ t ∈ strOf p, t.2.1 <= t.2.2 := by
 intro t ht
 obtain ⟨q, hq, h⟩ := List.mem_flatMap.mp ht
 obtain ⟨s, hs, rfl⟩ := List.mem_map.mp h
 exact (c.1 q hq).1.1 s hs
def joP (p q : Pic) : Pic := picOf (strOf p ++ strOf q)
theorem joP_canon (p q : Pic) : PCanon (joP p q) := (picOf_ok _).1
theorem joP_mem (p q : Pic) (x y : Int) : PMem (joP p q) x y ↔ PMem p x y \/ PMem q x y := by
 unfold joP
 rw [(picOf_ok _).2, tmem_append, tmem_str, tmem_str]
theorem m_join_is (p q : Pic) (h : (strOf p).length + (strOf q).length < 30000) : m_join [picD p, picD q] = some (picD (joP p q)) := by
 have h1 := m_stretches_of_is p (by lia)
 have h2 := m_stretches_of_is q (by lia)
 have hl : (strOf p).length + (strOf q).length <= LIM := lim_of (by lia)
 have hm := m_picture_of_is (strOf p ++ strOf q) (by rw [List.length_append]; exact h)
 rw [List.map_append] at hm
 simp [m_join, mo_join, fnO, X_join, h1, h2, v_addL, hl, hm, joP]
theorem jo_str (p q : Pic) : (strOf (joP p q)).length <= (strOf p).length + (strOf q).length := by
 have := picOf_len (strOf p ++ strOf q)
 rwa [List.length_append] at this
theorem m_spread_down_is (p : Pic) (c : PCanon p) (n : Nat) (hs : (2 * n + 1) * (strOf p).length <= 10000) : ∃ q : Pic, m_spread_down [picD p, .int (n : Int)] = some (picD q) /\ PCanon q /\ (strOf q).length <= (2 * n + 1) * (strOf p).length /\ ∀ x y, PMem q x y ↔ ∃ j : Int, 0 <= j /\ j <= n /\ PMem p x (y - j) := by
 obtain ⟨ρ', k1, q, v2, v3, rfl, a1, a3, a4⟩ := xWhile_inv (c := C_spread_down_0) (m := B_spread_down_1)
  (fun ρ => ∃ (q : Pic) (k : Nat) (v3 : Sl), ρ = [.sh (picD q), .sh (.int (n : Int)), .sh (.int (k : Int)), v3] /\ k <= n /\ PCanon q /\ ((strOf q).length <= (k + 1) * (strOf p).length \/ (k = n /\ (strOf q).length <= (2 * n + 1) * (strOf p).length)) /\ ∀ x y, PMem q x y ↔ ∃ j : Int, 0 <= j /\ j <= k /\ PMem p x (y - j))
  (fun ρ => match ρ with | [_, .sh (.int n), .sh (.int k), _] => (n - k).toNat | _ => 0)
  (fun ρ => ∃ (q : Pic) (v2 v3 : Sl), ρ = [.sh (picD q), .sh (.int (n : Int)), v2, v3] /\ PCanon q /\ (strOf q).length <= (2 * n + 1) * (strOf p).length /\ ∀ x y, PMem q x y ↔ ∃ j : Int, 0 <= j /\ j <= n /\ PMem p x (y - j))
  (by
   rintro _ ⟨q, k, v3, rfl, hk, c', hsz, hm⟩
   by_cases hc : k < n
   ·right
    have hc' : (k : Int) < n := by lia
    refine ⟨by simp [C_spread_down_0, hc'], ?_⟩
    have hsz' : (strOf q).length <= (k + 1) * (strOf p).length := hsz.elim id fun h => by lia
    generalize hst : (if (n : Int) - k < (k : Int) + 1 then (n : Int) - k else (k : Int) + 1) = st
    have hst1 : 1 <= st /\ st <= k + 1 /\ st <= n - k /\ (st = k + 1 \/ st = n - k) := by rw [<- hst]; split <;> lia
    have e1 : (k + 1) * (strOf p).length <= (2 * n + 1) * (strOf p).length := Nat.mul_le_mul_right _ (by lia)
    have lq : (strOf q).length <= 10000 := by lia
    have rq := rows_le c'
    have mv := m_moved_is q 0 st (by lia) fun z hz => by have := strOf_len_mem hz; lia
    have smv := mv_str q 0 st
    have jo := m_join_is q (mvP q 0 st) (by lia)
    have sjo := jo_str q (mvP q 0 st)
    have ek : (((k + st.toNat : Nat)) : Int) = (k : Int) + st := by lia
    refine ⟨[.sh (picD (joP q (mvP q 0 st))), .sh (.int (n : Int)), .sh (.int ((k + st.toNat : Nat) : Int)), .sh (.int st)], ?_, ⟨joP q (mvP q 0 st), k + st.toNat, _, rfl, by lia, joP_canon _ _, ?_, fun x y => ?_⟩, by dsimp only; lia⟩
    ·rw [ek]
     simp [B_spread_down_1, hst, mv, jo]
    ·rcases hst1.2.2.2 with e | e
     ·left
      have e2 : (k + st.toNat + 1) * (strOf p).length = (k + 1) * (strOf p).length + (k + 1) * (strOf p).length := by
       rw [<- Nat.add_mul]
       congr 1
       lia
      lia
     ·right
      have e2 : (k + 1) * (strOf p).length + (k + 1) * (strOf p).length <= (2 * n + 1) * (strOf p).length := by
       rw [<- Nat.add_mul]
       exact Nat.mul_le_mul_right _ (by lia)
      exact ⟨by lia, by lia⟩
    ·rw [joP_mem, mvP_mem, hm, hm, show x - 0 = x by lia]
     constructor
     ·rintro (⟨j, j0, j1, g⟩ | ⟨j, j0, j1, g⟩)
      ·exact ⟨j, j0, by lia, g⟩
      ·exact ⟨st + j, by lia, by lia, by rwa [show y - (st + j) = y - st - j by lia]⟩
     ·rintro ⟨j, j0, j1, g⟩
      by_cases hj : j <= k
      ·exact .inl ⟨j, j0, hj, g⟩
      ·exact .inr ⟨j - st, by lia, by lia, by rwa [show y - st - (j - st) = y - j by lia]⟩
   ·left
    have ek : k = n := by lia
    subst ek
    refine ⟨by simp [C_spread_down_0], q, _, _, rfl, c', ?_, hm⟩
    rcases hsz with h | h
    ·have : (k + 1) * (strOf p).length <= (2 * k + 1) * (strOf p).length := Nat.mul_le_mul_right _ (by lia)
     lia
    ·exact h.2)
  [.sh (picD p), .sh (.int (n : Int)), .sh (.int 0), .un] ⟨p, 0, .un, rfl, by lia, c, .inl (by lia), fun x y => ⟨fun h => ⟨0, by lia, by lia, by rwa [show y - 0 = y by lia]⟩, fun ⟨j, j0, j1, h⟩ => by rwa [show y - j = y by lia] at h⟩⟩
 exact ⟨q, by simp [m_spread_down, mo_spread_down, fnO, X_spread_down, k1], a1, a3, a4⟩
def wideT (b : Blk) (t : Tri) : Tri := (t.1 + b.2.1, t.2.1 + b.1, t.2.2 + b.2.2.1)
theorem wide_mem {p : Pic} (c : PCanon p) {b : Blk} (hb : b.1 <= b.2.2.1) (x y : Int) : TMem ((strOf p).map (wideT b)) x y ↔ ∃ dx, b.1 <= dx /\ dx <= b.2.2.1 /\ PMem p (x - dx) (y - b.2.1) := by
 constructor
 ·rintro ⟨_, ht0, h1, h2, h3⟩
  obtain ⟨t, ht, rfl⟩ := List.mem_map.mp ht0
  have ok := str_ok c t ht
  simp only [wideT] at h1 h2 h3
  refine ⟨max b.1 (x - t.2.2), by lia, by lia, ?_⟩
  exact (tmem_str _ _ _).mp ⟨t, ht, by lia, by lia, by lia⟩
 ·rintro ⟨dx, d1, d2, h⟩
  obtain ⟨t, ht, h1, h2, h3⟩ := (tmem_str _ _ _).mpr h
  exact ⟨_, List.mem_map.mpr ⟨t, ht, rfl⟩, by simp only [wideT]; lia, by simp only [wideT]; lia, by simp only [wideT]; lia⟩
def GrB (p : Pic) (b : Blk) (x y : Int) : Prop := ∃ dx dy, BMem b dx dy /\ PMem p (x - dx) (y - dy)
theorem m_greater_by_block_is (p : Pic) (c : PCanon p) (b : Blk) (hb : BOk b) (n : Nat) (hn : b.2.2.2 - b.2.1 = n) (hs : (2 * n + 1) * (strOf p).length <= 10000) : ∃ ts : List Tri, m_greater_by_block [picD p, blkD b] = some (.lst (ts.map triD)) /\ (∀ t ∈ ts, t.2.1 <= t.2.2) /\ ts.length <= (2 * n + 1) * (strOf p).length /\ ∀ x y, TMem ts x y ↔ GrB p b x y := by
 have e1 : (strOf p).length <= (2 * n + 1) * (strOf p).length := Nat.le_mul_of_pos_left _ (by lia)
 have hl : (strOf p).length <= LIM := lim_of (by lia)
 have h1 := m_stretches_of_is p (by lia)
 have hc : compF (xgTup (xgCons (xgName 0) (xgCons (xgName 1) (xgCons (xgName 2) xgNil)))) xYes (xTup (xCons (xOp dAdd (xVarP 0) (xOp dIx (xVarP 3) (xC (.int 1)))) (xCons (xOp dAdd (xVarP 1) (xOp dIx (xVarP 3) (xC (.int 0)))) (xCons (xOp dAdd (xVarP 2) (xOp dIx (xVarP 3) (xC (.int 2)))) xNil)))) [.un, .un, .un, .sh (blkD b)] ((strOf p).map triD) = some (((strOf p).map (wideT b)).map triD) := by
  rw [List.map_map]
  exact compF_map triD (triD ∘ wideT b) (strOf p) fun q hq => by simp [oneF, atI, ixN, wideT]
 have hw : ∀ t ∈ (strOf p).map (wideT b), t.2.1 <= t.2.2 := by
  intro t ht
  obtain ⟨s, hs, rfl⟩ := List.mem_map.mp ht
  have := str_ok c s hs
  have := hb.1
  simp only [wideT]
  lia
 by_cases h0 : b.2.1 = b.2.2.2
 ·refine ⟨(strOf p).map (wideT b), ?_, hw, by rw [List.length_map]; exact e1, fun x y => ?_⟩
  ·generalize ((strOf p).map (wideT b)).map triD = zs at hc
   simp [m_greater_by_block, mo_greater_by_block, fnO, X_greater_by_block, h1, hl, hc, atI, ixN, h0]
  ·rw [wide_mem c hb.1]
   constructor
   ·rintro ⟨dx, d1, d2, h⟩
    exact ⟨dx, b.2.1, ⟨d1, d2, by lia, by lia⟩, h⟩
   ·rintro ⟨dx, dy, ⟨d1, d2, d3, d4⟩, h⟩
    refine ⟨dx, d1, d2, ?_⟩
    rwa [show b.2.1 = dy by lia]
 ·have lw : (strOf (picOf ((strOf p).map (wideT b)))).length <= (strOf p).length := by
   have := picOf_len ((strOf p).map (wideT b))
   rwa [List.length_map] at this
  have e2 : (2 * n + 1) * (strOf (picOf ((strOf p).map (wideT b)))).length <= (2 * n + 1) * (strOf p).length := Nat.mul_le_mul_left _ lw
  obtain ⟨q, a1, a2, a3, a4⟩ := m_spread_down_is (picOf ((strOf p).map (wideT b))) (picOf_ok _).1 n (by lia)
  have hp := m_picture_of_is ((strOf p).map (wideT b)) (by rw [List.length_map]; lia)
  have h2 := m_stretches_of_is q (by lia)
  have a1' : m_spread_down [picD (picOf ((strOf p).map (wideT b))), .int (b.2.2.2 - b.2.1)] = some (picD q) := by rw [hn]; exact a1
  refine ⟨strOf q, ?_, str_ok a2, by lia, fun x y => ?_⟩
  ·generalize picOf ((strOf p).map (wideT b)) = w at hp a1'
   generalize ((strOf p).map (wideT b)).map triD = zs at hc hp
   simp [m_greater_by_block, mo_greater_by_block, fnO, X_greater_by_block, h1, hl, hc, atI, ixN, h0, hp, a1', h2]
  ·rw [tmem_str, a4]
   constructor
   ·rintro ⟨j, j0, j1, h⟩
    rw [(picOf_ok _).2, wide_mem c hb.1] at h
    obtain ⟨dx, d1, d2, h⟩ := h
    exact ⟨dx, b.2.1 + j, ⟨d1, d2, by lia, by lia⟩, by rwa [show y - (b.2.1 + j) = y - j - b.2.1 by lia]⟩
   ·rintro ⟨dx, dy, ⟨d1, d2, d3, d4⟩, h⟩
    refine ⟨dy - b.2.1, by lia, by lia, ?_⟩
    rw [(picOf_ok _).2, wide_mem c hb.1]
    exact ⟨dx, d1, d2, by rwa [show y - (dy - b.2.1) - b.2.1 = y - dy by lia]⟩
def high (b : Blk) : Nat := 2 * (b.2.2.2 - b.2.1).toNat + 1
def highs (bs : List Blk) : Nat := (bs.map high).sum
def GrP (p : Pic) (bs : List Blk) (x y : Int) : Prop := ∃ b ∈ bs, GrB p b x y
theorem highs_append (as bs : List Blk) : highs (as ++ bs) = highs as + highs bs := by unfold highs; rw [List.map_append, List.sum_append]
theorem m_greater_by_part_is (p : Pic) (c : PCanon p) (bs : List Blk) (hb : ∀ b ∈ bs, BOk b) (hs : highs bs * (strOf p).length <= 10000) : ∃ q : Pic, m_greater_by_part [picD p, .tup (bs.map blkD)] = some (picD q) /\ PCanon q /\ (strOf q).length <= highs bs * (strOf p).length /\ ∀ x y, PMem q x y ↔ GrP p bs x y := by
 obtain ⟨ρ', k1, ts, v3, rfl, b1, b2⟩ := loopF_inv (g := xgName 3) (m := B_greater_by_part_0) blkD (fun pre ρ => ∃ (ts : List Tri) (v3 : Sl), ρ = [.sh (picD p), .sh (.tup (bs.map blkD)), .ow (.lst (ts.map (O.sh ∘ triD))), v3] /\ ts.length <= highs pre * (strOf p).length /\ ∀ x y, TMem ts x y ↔ GrP p pre x y) bs [.sh (picD p), .sh (.tup (bs.map blkD)), .ow (.lst []), .un] ⟨[], _, rfl, by simp [highs], fun x y => ⟨fun ⟨_, h, _⟩ => (by cases h), fun ⟨_, h, _⟩ => (by cases h)⟩⟩ (by
  rintro pre b post _ e ⟨ts, v3, rfl, l1, l2⟩
  have hbb := hb b (by rw [e]; simp)
  have hh : highs pre + high b <= highs bs := by
   rw [e, highs_append]
   have : highs (b :: post) = high b + highs post := rfl
   lia
  have hh2 : (highs pre + high b) * (strOf p).length <= highs bs * (strOf p).length := Nat.mul_le_mul_right _ hh
  rw [Nat.add_mul] at hh2
  obtain ⟨us, c1, c2, c3, c4⟩ := m_greater_by_block_is p c b hbb (b.2.2.2 - b.2.1).toNat (by have := hbb.2; lia) (by show high b * _ <= _; lia)
  have c3' : us.length <= high b * (strOf p).length := c3
  have hl : ts.length + us.length <= LIM := lim_of (by lia)
  refine ⟨_, [.sh (picD p), .sh (.tup (bs.map blkD)), .ow (.lst ((ts ++ us).map (O.sh ∘ triD))), .sh (blkD b)], rfl, .inl ?_, ts ++ us, _, rfl, ?_, fun x y => ?_⟩
  ·simp [B_greater_by_part_0, c1, hl]
  ·rw [List.length_append, highs_append, Nat.add_mul]
   have : highs [b] = high b := by simp [highs]
   rw [this]
   lia
  ·rw [tmem_append, l2, c4]
   unfold GrP
   simp only [List.mem_append, List.mem_singleton]
   constructor
   ·rintro (⟨z, hz, h⟩ | h)
    ·exact ⟨z, .inl hz, h⟩
    ·exact ⟨b, .inr rfl, h⟩
   ·rintro ⟨z, hz | rfl, h⟩
    ·exact .inl ⟨z, hz, h⟩
    ·exact .inr h)
 have hp := m_picture_of_is ts (by lia)
 have hl := picOf_len ts
 refine ⟨picOf ts, ?_, (picOf_ok _).1, by lia, fun x y => by rw [(picOf_ok _).2, b2]⟩
 simp [m_greater_by_part, mo_greater_by_part, fnO, X_greater_by_part, k1, hp, frz]
abbrev partD (bs : List Blk) : D := .tup (bs.map blkD)
abbrev partsD (ps : List (List Blk)) : D := .tup (ps.map partD)
abbrev formD (N : Str) (ps : List (List Blk)) : D := .ins N ["parts"] [partsD ps]
def POff (bs : List Blk) (x y : Int) : Prop := ∃ b ∈ bs, BMem b x y
def Off : List (List Blk) -> Int -> Int -> Prop
 | [], x, y => x = 0 /\ y = 0
 | bs :: r, x, y => ∃ u v, POff bs u v /\ Off r (x - u) (y - v)
def prodH : List (List Blk) -> Nat
 | [] => 1
 | bs :: r => highs bs * prodH r
def FOk (ps : List (List Blk)) : Prop := ∀ bs ∈ ps, bs ≠ [] /\ ∀ b ∈ bs, BOk b
theorem prodH_append : ∀ (a b : List (List Blk)), prodH (a ++ b) = prodH a * prodH b
 | [], b => (Nat.one_mul _).symm
 | x :: a, b => by rw [List.cons_append, prodH, prodH, prodH_append a b, Nat.mul_assoc]
theorem highs_pos {bs : List Blk} (h : bs ≠ []) : 1 <= highs bs := by
 cases bs with
 | nil => exact absurd rfl h
 | cons b bs =>
  have e : highs (b :: bs) = high b + highs bs := rfl
  rw [e]
  unfold high
  lia
theorem prodH_pos : ∀ {ps : List (List Blk)}, FOk ps -> 1 <= prodH ps
 | [], _ => Nat.le_refl _
 | bs :: r, h => by
  have h1 := highs_pos (h bs List.mem_cons_self).1
  have h2 := prodH_pos (ps := r) fun x hx => h x (List.mem_cons_of_mem _ hx)
  rw [prodH]
  exact Nat.mul_pos h1 h2
theorem grP_off (p : Pic) (bs : List Blk) (x y : Int) : GrP p bs x y ↔ ∃ u v, POff bs u v /\ PMem p (x - u) (y - v) := by
 constructor
 ·rintro ⟨b, hb, dx, dy, h1, h2⟩
  exact ⟨dx, dy, ⟨b, hb, h1⟩, h2⟩
 ·rintro ⟨dx, dy, ⟨b, hb, h1⟩, h2⟩
  exact ⟨b, hb, dx, dy, h1, h2⟩
theorem m_Form_greater_is (N : Str) (hN : NS.contains N = true) (ps : List (List Blk)) (hf : FOk ps) (p : Pic) (c : PCanon p) (hs : prodH ps * (strOf p).length <= 10000) : ∃ q : Pic, m_Form_greater [formD N ps, picD p] = some (picD q) /\ PCanon q /\ (strOf q).length <= prodH ps * (strOf p).length /\ ∀ x y, PMem q x y ↔ ∃ u v, Off ps u v /\ PMem p (x - u) (y - v) := by
 obtain ⟨ρ', k1, q, v2, rfl, b1, b2, b3⟩ := loopF_inv (g := xgName 2) (m := B_Form_greater_0) partD (fun pre ρ => ∃ (q : Pic) (v2 : Sl), ρ = [.sh (formD N ps), .sh (picD q), v2] /\ PCanon q /\ (strOf q).length <= prodH pre.reverse * (strOf p).length /\ ∀ x y, PMem q x y ↔ ∃ u v, Off pre.reverse u v /\ PMem p (x - u) (y - v)) ps.reverse [.sh (formD N ps), .sh (picD p), .un] ⟨p, _, rfl, c, by simp [prodH], fun x y => ⟨fun h => ⟨0, 0, ⟨rfl, rfl⟩, by simpa using h⟩, fun ⟨u, v, ⟨hu, hv⟩, h⟩ => by subst hu hv; simpa using h⟩⟩ (by
  rintro pre bs post _ e ⟨q, v2, rfl, cq, l1, l2⟩
  have e' : ps = post.reverse ++ (bs :: pre.reverse) := by
   have := congrArg List.reverse e
   rw [List.reverse_reverse] at this
   rw [this]
   simp
  have hbs := hf bs (by rw [e']; simp)
  have hpost : FOk post.reverse := fun x hx => hf x (by rw [e']; exact List.mem_append_left _ hx)
  have hp1 := prodH_pos hpost
  have hp2 : prodH (bs :: pre.reverse) * (strOf p).length <= prodH ps * (strOf p).length := by
   rw [e', prodH_append]
   exact Nat.mul_le_mul_right _ (Nat.le_mul_of_pos_left _ hp1)
  have hp3 : highs bs * (strOf q).length <= prodH (bs :: pre.reverse) * (strOf p).length := by
   rw [prodH, Nat.mul_assoc]
   exact Nat.mul_le_mul_left _ l1
  obtain ⟨q', c1, c2, c3, c4⟩ := m_greater_by_part_is q cq bs hbs.2 (by lia)
  have er : (pre ++ [bs]).reverse = bs :: pre.reverse := by simp
  refine ⟨_, [.sh (formD N ps), .sh (picD q'), .sh (partD bs)], rfl, .inl ?_, q', _, rfl, c2, ?_, fun x y => ?_⟩
  ·simp [B_Form_greater_0, c1]
  ·rw [er]
   lia
  ·rw [er, c4, grP_off]
   constructor
   ·rintro ⟨u, v, h1, h2⟩
    obtain ⟨u', v', h3, h4⟩ := (l2 _ _).mp h2
    exact ⟨u + u', v + v', ⟨u, v, h1, by rwa [show u + u' - u = u' by lia, show v + v' - v = v' by lia]⟩, by rwa [show x - (u + u') = x - u - u' by lia, show y - (v + v') = y - v - v' by lia]⟩
   ·rintro ⟨u, v, ⟨u', v', h1, h3⟩, h2⟩
    exact ⟨u', v', h1, (l2 _ _).mpr ⟨u - u', v - v', h3, by rwa [show x - u' - (u - u') = x - u by lia, show y - v' - (v - v') = y - v by lia]⟩⟩)
 rw [List.reverse_reverse] at b2
 refine ⟨q, ?_, b1, b2, fun x y => by rw [b3, List.reverse_reverse]⟩
 have ef : xFld NS "parts" (xVar 0) [.sh (formD N ps), .sh (picD p), .un] = some (partsD ps) := by
  show (if NS.contains N then fldD ["parts"] [partsD ps] "parts" else none) = _
  rw [if_pos hN]
  rfl
 rw [List.map_reverse] at k1
 have er : xRevI (xCons (xFld NS "parts" (xVar 0)) xNil) [.sh (formD N ps), .sh (picD p), .un] = some (ps.map partD).reverse := by
  unfold xRevI xCons xNil
  rw [ef]
  rfl
 have ex : X_Form_greater [.sh (formD N ps), .sh (picD p), .un] = some (.rt (picD q)) := by
  unfold X_Form_greater
  have e1 : xFor (xRevI (xCons (xFld NS "parts" (xVar 0)) xNil)) (xgName 2) B_Form_greater_0 [.sh (formD N ps), .sh (picD p), .un] = some (.nx [.sh (formD N ps), .sh (picD q), v2]) := by
   unfold xFor
   rw [er]
   exact k1
  rw [run_seq e1]
  rfl
 exact fn_rt (n := 3) (ds := [formD N ps, picD p]) ex
abbrev boxB (l u r d : Int) : Blk := (-l, -u, r, d)
theorem mi_Box_is (l u r d : Int) (h1 : 0 <= l) (h2 : 0 <= u) (h3 : 0 <= r) (h4 : 0 <= d) : mi_Box [.int l, .int u, .int r, .int d] = some (partsD [[boxB l u r d]]) := by
 have hm : ∃ m : Int, bMin4 [.int l, .int u, .int r, .int d] = some (.int m) /\ 0 <= m := by
  exact ⟨min l (min u (min r d)), rfl, Int.le_min.mpr ⟨h1, Int.le_min.mpr ⟨h2, Int.le_min.mpr ⟨h3, h4⟩⟩⟩⟩
 obtain ⟨m, hm, m0⟩ := hm
 have m1 : ¬ m < 0 := by lia
 simp [mi_Box, iniT, hm, m1]
theorem off_box (l u r d : Int) (x y : Int) : Off [[boxB l u r d]] x y ↔ (-l <= x /\ x <= r) /\ -u <= y /\ y <= d := by
 constructor
 ·rintro ⟨u', v', ⟨b, hb, h⟩, h1, h2⟩
  rw [List.mem_singleton.mp hb] at h
  obtain ⟨k1, k2, k3, k4⟩ := h
  dsimp only at k1 k2 k3 k4
  exact ⟨⟨by lia, by lia⟩, by lia, by lia⟩
 ·rintro ⟨⟨h1, h2⟩, h3, h4⟩
  exact ⟨x, y, ⟨_, List.mem_singleton.mpr rfl, h1, h2, h3, h4⟩, by lia, by lia⟩
theorem box_greater (p : Pic) (c : PCanon p) (h : (strOf p).length <= 1000) (r d : Int) (h1 : 0 <= r) (h2 : 0 <= d) (h3 : d <= 1) : ∃ q : Pic, m_Form_greater [formD "Box" [[boxB 0 0 r d]], picD p] = some (picD q) /\ PCanon q /\ (strOf q).length <= 3000 /\ ∀ x y, PMem q x y ↔ ∃ u v, ((0 <= u /\ u <= r) /\ 0 <= v /\ v <= d) /\ PMem p (x - u) (y - v) := by
 have hp : prodH [[boxB 0 0 r d]] <= 3 := by
  have e : prodH [[boxB 0 0 r d]] = high (boxB 0 0 r d) := by simp [prodH, highs]
  rw [e]
  unfold high
  dsimp only
  lia
 have hm : prodH [[boxB 0 0 r d]] * (strOf p).length <= 3 * 1000 := Nat.mul_le_mul hp h
 obtain ⟨q, a1, a2, a3, a4⟩ := m_Form_greater_is "Box" (by decide) [[boxB 0 0 r d]] (fun bs hb => by
  rw [List.mem_singleton.mp hb]
  refine ⟨by simp, fun b hb' => ?_⟩
  rw [List.mem_singleton.mp hb']
  exact ⟨by dsimp only; lia, by dsimp only; lia⟩) p c (by lia)
 refine ⟨q, a1, a2, by lia, fun x y => ?_⟩
 rw [a4]
 constructor
 ·rintro ⟨u, v, ho, hm⟩
  have := (off_box 0 0 r d u v).mp ho
  exact ⟨u, v, ⟨⟨by lia, by lia⟩, by lia, by lia⟩, hm⟩
 ·rintro ⟨u, v, ho, hm⟩
  exact ⟨u, v, (off_box 0 0 r d u v).mpr ⟨⟨by lia, by lia⟩, by lia, by lia⟩, hm⟩
def ptsT (t : Tri) : List Tri := [(t.1, t.2.1, t.2.2 + 1), (t.1 + 1, t.2.1, t.2.2 + 1)]
def fltT (t : Tri) : List Tri := [(t.1, t.2.1, t.2.2), (t.1 + 1, t.2.1, t.2.2)]
def uprT (t : Tri) : List Tri := [(t.1, t.2.1, t.2.2 + 1)]
def crn (p : Pic) : Int := cnt (picOf ((strOf p).flatMap ptsT))
def flt (p : Pic) : Int := cnt (picOf ((strOf p).flatMap fltT))
def upr (p : Pic) : Int := cnt (picOf ((strOf p).flatMap uprT))
theorem tmem_fm (f : Tri -> List Tri) (ts : List Tri) (x y : Int) : TMem (ts.flatMap f) x y ↔ ∃ t ∈ ts, TMem (f t) x y := by
 constructor
 ·rintro ⟨s, hs, h⟩
  obtain ⟨t, ht, hs'⟩ := List.mem_flatMap.mp hs
  exact ⟨t, ht, s, hs', h⟩
 ·rintro ⟨t, ht, s, hs, h⟩
  exact ⟨s, List.mem_flatMap.mpr ⟨t, ht, hs⟩, h⟩
theorem one_of {p : Pic} (c : PCanon p) {x y u v : Int} (h : PMem p (x - u) (y - v)) : ∃ t ∈ strOf p, t.1 = y - v /\ t.2.1 <= x - u /\ x - u <= t.2.2 := (tmem_str p _ _).mpr h
theorem pts_mem {p : Pic} (c : PCanon p) (x y : Int) : TMem ((strOf p).flatMap ptsT) x y ↔ ∃ u v, ((0 <= u /\ u <= 1) /\ 0 <= v /\ v <= 1) /\ PMem p (x - u) (y - v) := by
 rw [tmem_fm]
 constructor
 ·rintro ⟨t, ht, h⟩
  have g := str_good c t ht
  have pm : ∀ u v : Int, t.1 = y - v -> t.2.1 <= x - u -> x - u <= t.2.2 -> PMem p (x - u) (y - v) := fun u v h1 h2 h3 => (tmem_str p _ _).mp ⟨t, ht, h1, h2, h3⟩
  simp only [ptsT, tmem_cons] at h
  rcases h with ⟨h1, h2, h3⟩ | ⟨h1, h2, h3⟩ | ⟨_, h, _⟩
  ·by_cases e : x = t.2.2 + 1
   ·exact ⟨1, 0, by lia, pm 1 0 (by lia) (by lia) (by lia)⟩
   ·exact ⟨0, 0, by lia, pm 0 0 (by lia) (by lia) (by lia)⟩
  ·by_cases e : x = t.2.2 + 1
   ·exact ⟨1, 1, by lia, pm 1 1 (by lia) (by lia) (by lia)⟩
   ·exact ⟨0, 1, by lia, pm 0 1 (by lia) (by lia) (by lia)⟩
  ·cases h
 ·rintro ⟨u, v, h, hm⟩
  obtain ⟨t, ht, k1, k2, k3⟩ := one_of c hm
  refine ⟨t, ht, ?_⟩
  simp only [ptsT, tmem_cons]
  by_cases e : v = 0
  ·exact .inl ⟨by lia, by lia, by lia⟩
  ·exact .inr (.inl ⟨by lia, by lia, by lia⟩)
theorem flt_mem {p : Pic} (c : PCanon p) (x y : Int) : TMem ((strOf p).flatMap fltT) x y ↔ ∃ u v, ((0 <= u /\ u <= 0) /\ 0 <= v /\ v <= 1) /\ PMem p (x - u) (y - v) := by
 rw [tmem_fm]
 constructor
 ·rintro ⟨t, ht, h⟩
  have pm : ∀ u v : Int, t.1 = y - v -> t.2.1 <= x - u -> x - u <= t.2.2 -> PMem p (x - u) (y - v) := fun u v h1 h2 h3 => (tmem_str p _ _).mp ⟨t, ht, h1, h2, h3⟩
  simp only [fltT, tmem_cons] at h
  rcases h with ⟨h1, h2, h3⟩ | ⟨h1, h2, h3⟩ | ⟨_, h, _⟩
  ·exact ⟨0, 0, by lia, pm 0 0 (by lia) (by lia) (by lia)⟩
  ·exact ⟨0, 1, by lia, pm 0 1 (by lia) (by lia) (by lia)⟩
  ·cases h
 ·rintro ⟨u, v, h, hm⟩
  obtain ⟨t, ht, k1, k2, k3⟩ := one_of c hm
  refine ⟨t, ht, ?_⟩
  simp only [fltT, tmem_cons]
  by_cases e : v = 0
  ·exact .inl ⟨by lia, by lia, by lia⟩
  ·exact .inr (.inl ⟨by lia, by lia, by lia⟩)
theorem upr_mem {p : Pic} (c : PCanon p) (x y : Int) : TMem ((strOf p).flatMap uprT) x y ↔ ∃ u v, ((0 <= u /\ u <= 1) /\ 0 <= v /\ v <= 0) /\ PMem p (x - u) (y - v) := by
 rw [tmem_fm]
 constructor
 ·rintro ⟨t, ht, h⟩
  have g := str_good c t ht
  have pm : ∀ u v : Int, t.1 = y - v -> t.2.1 <= x - u -> x - u <= t.2.2 -> PMem p (x - u) (y - v) := fun u v h1 h2 h3 => (tmem_str p _ _).mp ⟨t, ht, h1, h2, h3⟩
  simp only [uprT, tmem_cons] at h
  rcases h with ⟨h1, h2, h3⟩ | ⟨_, h, _⟩
  ·by_cases e : x = t.2.2 + 1
   ·exact ⟨1, 0, by lia, pm 1 0 (by lia) (by lia) (by lia)⟩
   ·exact ⟨0, 0, by lia, pm 0 0 (by lia) (by lia) (by lia)⟩
  ·cases h
 ·rintro ⟨u, v, h, hm⟩
  obtain ⟨t, ht, k1, k2, k3⟩ := one_of c hm
  refine ⟨t, ht, ?_⟩
  simp only [uprT, tmem_cons]
  exact .inl ⟨by lia, by lia, by lia⟩
theorem gr_cnt {p : Pic} (c : PCanon p) (h : (strOf p).length <= 1000) (r d : Int) (h1 : 0 <= r) (h2 : 0 <= d) (h3 : d <= 1) {ts : List Tri} (hm : ∀ x y, TMem ts x y ↔ ∃ u v, ((0 <= u /\ u <= r) /\ 0 <= v /\ v <= d) /\ PMem p (x - u) (y - v)) : ∃ q : Pic, m_Form_greater [formD "Box" [[boxB 0 0 r d]], picD p] = some (picD q) /\ m_count_cells [picD q] = some (.int (cnt (picOf ts))) := by
 obtain ⟨q, a1, a2, a3, a4⟩ := box_greater p c h r d h1 h2 h3
 refine ⟨q, a1, ?_⟩
 have e : picOf ts = q := picOf_uniq a2 fun x y => by rw [hm, a4]
 rw [e]
 exact m_count_cells_is q (by have := rows_le a2; lia) fun s hs => by have := strOf_len_mem hs; lia
theorem grs_ne : ¬ (Str.ofString "greater" = Str.ofString "parts") := by decide +kernel
theorem m_corners_is (p : Pic) (c : PCanon p) (h : (strOf p).length <= 1000) : m_corners [picD p] = some (.int (crn p)) := by
 obtain ⟨q, a1, a2⟩ := gr_cnt c h 1 1 (by lia) (by lia) (by lia) (pts_mem c)
 have b := mi_Box_is 0 0 1 1 (by lia) (by lia) (by lia) (by lia)
 simp [m_corners, mo_corners, fnO, X_corners, grs_ne, b, a1, a2, crn]
theorem m_edges_is (p : Pic) (c : PCanon p) (h : (strOf p).length <= 1000) : m_edges [picD p] = some (.int (upr p + flt p)) := by
 obtain ⟨q, a1, a2⟩ := gr_cnt c h 1 0 (by lia) (by lia) (by lia) (upr_mem c)
 obtain ⟨q', a3, a4⟩ := gr_cnt c h 0 1 (by lia) (by lia) (by lia) (flt_mem c)
 have b := mi_Box_is 0 0 1 0 (by lia) (by lia) (by lia) (by lia)
 have b' := mi_Box_is 0 0 0 1 (by lia) (by lia) (by lia) (by lia)
 simp [m_edges, mo_edges, fnO, X_edges, grs_ne, b, b', a1, a2, a3, a4, upr, flt]
theorem m_told_number_is (p : Pic) (c : PCanon p) (h : (strOf p).length <= 1000) : m_told_number [picD p] = some (.int (crn p - (upr p + flt p) + cnt p)) := by
 have a1 := m_corners_is p c h
 have a2 := m_edges_is p c h
 have a3 := m_count_cells_is p (by have := rows_le c; lia) fun s hs => by have := strOf_len_mem hs; lia
 simp [m_told_number, mo_told_number, fnO, X_told_number, a1, a2, a3]
abbrev owT (ts : List Tri) : Sl := .ow (.lst (ts.map (O.sh ∘ triD)))
theorem strs_turn (s0 s6 : Sl) (A B C E : List Tri) (t : Tri) (v9 : Sl) (hA : A.length <= 5000) (hB : B.length <= 5000) (hC : C.length <= 5000) (hE : E.length <= 5000) :
  ∃ w9, B_Lby_stretches_1 [s0, owT A, owT B, owT C, owT E, .sh (.int t.1), s6, .sh (.int t.2.1), .sh (.int t.2.2), v9] = some (.nx [s0, owT (A ++ ptsT t), owT (B ++ fltT t), owT (C ++ uprT t), owT (E ++ [t]), .sh (.int t.1), s6, .sh (.int t.2.1), .sh (.int t.2.2), w9]) := by
 have a1 : A.length < LIM := lim_of' (by lia)
 have a2 : A.length + 1 < LIM := lim_of' (by lia)
 have b1 : B.length < LIM := lim_of' (by lia)
 have b2 : B.length + 1 < LIM := lim_of' (by lia)
 have c1 : C.length < LIM := lim_of' (by lia)
 have e1 : E.length < LIM := lim_of' (by lia)
 refine ⟨.sh (.int 1), ?_⟩
 simp [B_Lby_stretches_1, B_Lby_stretches_0, loopF, ptsT, fltT, uprT, a1, a2, b1, b2, c1, e1]
theorem strs_row (s0 s6 : Sl) (A B C E : List Tri) (y : Int) (r : R) (v7 v8 v9 : Sl) (hA : A.length + 2 * r.length <= 5000) (hB : B.length + 2 * r.length <= 5000) (hC : C.length + r.length <= 5000) (hE : E.length + r.length <= 5000) :
  ∃ w7 w8 w9, B_Lby_stretches_2 [s0, owT A, owT B, owT C, owT E, .sh (.int y), .sh (rowD r), v7, v8, v9] = some (.nx [s0, owT (A ++ (r.map fun s => (y, s)).flatMap ptsT), owT (B ++ (r.map fun s => (y, s)).flatMap fltT), owT (C ++ (r.map fun s => (y, s)).flatMap uprT), owT (E ++ r.map fun s => (y, s)), .sh (.int y), .sh (rowD r), w7, w8, w9]) := by
 obtain ⟨ρ', k1, w7, w8, w9, rfl⟩ := loopF_inv (g := xgTup (xgCons (xgName 7) (xgCons (xgName 8) xgNil))) (m := B_Lby_stretches_1) prD (fun pre ρ => ∃ w7 w8 w9, ρ = [s0, owT (A ++ (pre.map fun s => (y, s)).flatMap ptsT), owT (B ++ (pre.map fun s => (y, s)).flatMap fltT), owT (C ++ (pre.map fun s => (y, s)).flatMap uprT), owT (E ++ pre.map fun s => (y, s)), .sh (.int y), .sh (rowD r), w7, w8, w9]) r [s0, owT A, owT B, owT C, owT E, .sh (.int y), .sh (rowD r), v7, v8, v9] ⟨v7, v8, v9, by simp⟩ (by
  rintro pre s post _ e ⟨w7, w8, w9, rfl⟩
  have hl := congrArg List.length e
  rw [List.length_append, List.length_cons] at hl
  have l1 : ∀ (f : Tri -> List Tri) (k : Nat), (∀ t, (f t).length = k) -> ((pre.map fun s => (y, s)).flatMap f).length = k * pre.length := fun f k hf => by
   clear hl e
   induction pre with
   | nil => rfl
   | cons a l ih => rw [List.map_cons, List.flatMap_cons, List.length_append, hf, ih, List.length_cons, Nat.mul_succ]; lia
  have p1 := l1 ptsT 2 fun _ => rfl
  have p2 := l1 fltT 2 fun _ => rfl
  have p3 := l1 uprT 1 fun _ => rfl
  obtain ⟨u9, hu⟩ := strs_turn s0 (.sh (rowD r)) (A ++ (pre.map fun s => (y, s)).flatMap ptsT) (B ++ (pre.map fun s => (y, s)).flatMap fltT) (C ++ (pre.map fun s => (y, s)).flatMap uprT) (E ++ pre.map fun s => (y, s)) (y, s) w9 (by rw [List.length_append, p1]; lia) (by rw [List.length_append, p2]; lia) (by rw [List.length_append, p3]; lia) (by rw [List.length_append, List.length_map]; lia)
  exact ⟨_, _, rfl, .inl hu, .sh (.int s.1), .sh (.int s.2), u9, by simp⟩)
 refine ⟨w7, w8, w9, ?_⟩
 have hr : r.length <= LIM := lim_of (by lia)
 simp only [B_Lby_stretches_2]
 simp [hr, k1]
theorem flat_len (f : Tri -> List Tri) (k : Nat) (hf : ∀ t, (f t).length = k) : ∀ ts : List Tri, (ts.flatMap f).length = k * ts.length
 | [] => rfl
 | a :: l => by rw [List.flatMap_cons, List.length_append, hf, flat_len f k hf l, List.length_cons, Nat.mul_succ]; lia
theorem m_Lby_stretches_is (p : Pic) (c : PCanon p) (h : (strOf p).length <= 1000) : m_Lby_stretches [picD p] = some (.tup [.int (crn p), .int (flt p + upr p), .int (cnt p)]) := by
 obtain ⟨ρ', k1, v5, v6, v7, v8, v9, rfl⟩ := loopF_inv (g := xgTup (xgCons (xgName 5) (xgCons (xgName 6) xgNil))) (m := B_Lby_stretches_2) pyD (fun pre ρ => ∃ v5 v6 v7 v8 v9, ρ = [.sh (picD p), owT ((strOf pre).flatMap ptsT), owT ((strOf pre).flatMap fltT), owT ((strOf pre).flatMap uprT), owT (strOf pre), v5, v6, v7, v8, v9]) p [.sh (picD p), owT [], owT [], owT [], owT [], .un, .un, .un, .un, .un] ⟨.un, .un, .un, .un, .un, rfl⟩ (by
  rintro pre q post _ e ⟨v5, v6, v7, v8, v9, rfl⟩
  have h2 : (strOf pre).length + q.2.length <= 1000 := by
   have h := h
   rw [e, strOf_append, strOf_cons, List.length_append, List.length_append, List.length_map] at h
   lia
  obtain ⟨w7, w8, w9, hw⟩ := strs_row (.sh (picD p)) .un ((strOf pre).flatMap ptsT) ((strOf pre).flatMap fltT) ((strOf pre).flatMap uprT) (strOf pre) q.1 q.2 v7 v8 v9 (by rw [flat_len ptsT 2 fun _ => rfl]; lia) (by rw [flat_len fltT 2 fun _ => rfl]; lia) (by rw [flat_len uprT 1 fun _ => rfl]; lia) (by lia)
  refine ⟨_, _, rfl, .inl hw, .sh (.int q.1), .sh (rowD q.2), w7, w8, w9, ?_⟩
  rw [strOf_append]
  simp [strOf])
 have g := str_good c
 have gp : ∀ t ∈ (strOf p).flatMap ptsT, t.2.1 <= t.2.2 := fun t ht => by
  obtain ⟨s, hs, k⟩ := List.mem_flatMap.mp ht
  have := g s hs
  rcases List.mem_cons.mp k with rfl | k
  ·dsimp only; lia
  ·rw [List.mem_singleton.mp k]; dsimp only; lia
 have gf : ∀ t ∈ (strOf p).flatMap fltT, t.2.1 <= t.2.2 := fun t ht => by
  obtain ⟨s, hs, k⟩ := List.mem_flatMap.mp ht
  have := g s hs
  rcases List.mem_cons.mp k with rfl | k
  ·exact this
  ·rw [List.mem_singleton.mp k]; exact this
 have gu : ∀ t ∈ (strOf p).flatMap uprT, t.2.1 <= t.2.2 := fun t ht => by
  obtain ⟨s, hs, k⟩ := List.mem_flatMap.mp ht
  have := g s hs
  rw [List.mem_singleton.mp k]
  dsimp only
  lia
 have a1 := m_Llength_is _ gp (by rw [flat_len ptsT 2 fun _ => rfl]; lia)
 have a2 := m_Llength_is _ gf (by rw [flat_len fltT 2 fun _ => rfl]; lia)
 have a3 := m_Llength_is _ gu (by rw [flat_len uprT 1 fun _ => rfl]; lia)
 have a4 := m_Llength_is _ g (by lia)
 rw [picOf_str c] at a4
 have hp : p.length <= LIM := lim_of (by have := rows_le c; lia)
 have ds : ∀ ts : List Tri, O.ds (ts.map (O.sh ∘ triD)) = ts.map triD := fun ts => by
  induction ts with
  | nil => rfl
  | cons t ts ih => simpa using ih
 simp only [owT, List.map_nil] at k1
 simp [m_Lby_stretches, mo_Lby_stretches, fnO, X_Lby_stretches, hp, k1, frz, ds, a1, a2, a3, a4, crn, flt, upr]
theorem at_size {q : Int} (hq : 1 <= q) {k : Nat} (hk : k < 8) : ∃ s, 1 <= s /\ atI [D.int 1, .int 2, .int 1, .int q, .int 1, .int 1, .int 3, .int 2] (k : Int) = some (.int s) := by
 have : k = 0 \/ k = 1 \/ k = 2 \/ k = 3 \/ k = 4 \/ k = 5 \/ k = 6 \/ k = 7 := by lia
 rcases this with rfl | rfl | rfl | rfl | rfl | rfl | rfl | rfl
 ·exact ⟨1, by lia, rfl⟩
 ·exact ⟨2, by lia, rfl⟩
 ·exact ⟨1, by lia, rfl⟩
 ·exact ⟨q, hq, rfl⟩
 ·exact ⟨1, by lia, rfl⟩
 ·exact ⟨1, by lia, rfl⟩
 ·exact ⟨3, by lia, rfl⟩
 ·exact ⟨2, by lia, rfl⟩
theorem lrow_turn (bits x : Int) (wide : Bool) (acc : R) (k : Nat) (hk : k < 8) (c : Canon acc) (hx : ∀ p ∈ acc, p.2 <= x - 1) (hl : acc.length <= 100) :
  ∃ bits' x' acc', Canon acc' /\ (∀ p ∈ acc', p.2 <= x' - 1) /\ acc'.length <= acc.length + 1 /\ (wide = false -> count acc' <= count acc + 1) /\
   ∀ (d : Int) (v5 : Sl), ∃ v5', B_Lrow_0 [.sh (.int bits), .sh (.int (x + d)), .sh (.bl wide), owl ((shift acc d d).map prD), .sh (.int k), v5] = some (.nx [.sh (.int bits'), .sh (.int (x' + d)), .sh (.bl wide), owl ((shift acc' d d).map prD), .sh (.int k), v5']) := by
 have hlim : ∀ d, (shift acc d d).length < LIM := fun d => by rw [show (shift acc d d).length = acc.length from List.length_map ..]; exact lim_of' (by lia)
 obtain ⟨q, hq1, hq⟩ : ∃ q : Int, 1 <= q /\ dPow (.int 10) (.int 40) = some (.int q) := ⟨_, by decide, v_pow (by decide)⟩
 obtain ⟨s, hs, hw, h1⟩ : ∃ s : Int, 1 <= s /\ (wide = false -> s = 1) /\ ∀ (n : XS) (x : Int) (acc : R) (v5 : Sl), xSeq (xAsg (xC (.int 1)) (xgName 5)) (xSeq (xIf (xTru (xVarP 2)) (xAsg (xOp dIx (xL (xLst (xCons (xC (.int 1)) (xCons (xC (.int 2)) (xCons (xC (.int 1)) (xCons (xOp dPow (xC (.int 10)) (xC (.int 40))) (xCons (xC (.int 1)) (xCons (xC (.int 1)) (xCons (xC (.int 3)) (xCons (xC (.int 2)) xNil)))))))))) (xVarP 4)) (xgName 5)) xNext) n) [.sh (.int bits), .sh (.int x), .sh (.bl wide), owl (acc.map prD), .sh (.int k), v5] = n [.sh (.int bits), .sh (.int x), .sh (.bl wide), owl (acc.map prD), .sh (.int k), .sh (.int s)] := by
  cases wide with
  | false => exact ⟨1, by lia, fun _ => rfl, fun n x acc v5 => by simp⟩
  | true =>
   obtain ⟨s, hs, e⟩ := at_size hq1 hk
   exact ⟨s, hs, fun h => (by cases h), fun n x acc v5 => by simp [hq, e]⟩
 have hm : dMod (.int bits) (.int 2) = some (.int (bits % 2)) := by simp
 by_cases hb : bits % 2 = 1
 ·rcases List.eq_nil_or_concat acc with rfl | ⟨t, p, rfl⟩
  ·refine ⟨bits / 2, x + s, [(x, x + s - 1)], canon_cons.mpr ⟨by dsimp only; lia, fun _ h => (by cases h), canon_nil⟩, fun p hp => ?_, by simp, fun h => ?_, fun d v5 => ⟨.sh (.int s), ?_⟩⟩
   ·rw [List.mem_singleton.mp hp]; dsimp only; lia
   ·have := hw h
    simp [count]
    lia
   ·unfold B_Lrow_0
    rw [h1]
    have e1 : x + d + s = x + s + d := by lia
    have e2 : x + s - 1 + d = x + s + d - 1 := by lia
    simp [hb, prD, shift, e1, e2]
  ·rw [List.concat_eq_append] at *
   obtain ⟨ct, hp, ht⟩ := canon_snoc.mp c
   have hpx := hx p (by simp)
   have hcnt : ∀ q : Int × Int, count (t ++ [q]) = count t + (q.2 - q.1 + 1) := fun q => by simp [count]
   have es : ∀ (d : Int) (q : Int × Int), (shift (t ++ [q]) d d).map prD = (shift t d d).map prD ++ [prD (q.1 + d, q.2 + d)] := fun d q => by simp [shift]
   have hsl : ∀ d, (shift t d d).length = t.length := fun d => List.length_map ..
   have hlim' : ∀ d, (shift t d d).length + 1 < LIM := fun d => by have := hlim d; rw [show (shift (t ++ [p]) d d).length = (shift t d d).length + 1 by simp [shift]] at this; exact this
   have hpos : ∀ d, (0 : Int) < ((shift t d d).length : Int) + 1 := fun d => by lia
   by_cases he : p.2 = x - 1
   ·refine ⟨bits / 2, x + s, t ++ [(p.1, x + s - 1)], canon_snoc.mpr ⟨ct, by dsimp only; lia, ht⟩, fun r hr => ?_, by simp, fun h => ?_, fun d v5 => ⟨.sh (.int s), ?_⟩⟩
    ·rcases List.mem_append.mp hr with hr | hr
     ·have := hx r (by simp [hr]); lia
     ·rw [List.mem_singleton.mp hr]; dsimp only; lia
    ·have := hw h
     rw [hcnt, hcnt]
     dsimp only
     lia
    ·unfold B_Lrow_0
     rw [h1, es, es]
     have at1 : atI ((shift t d d).map prD ++ [prD (p.1 + d, p.2 + d)]) (-1) = some (prD (p.1 + d, p.2 + d)) := atI_neg1 _ _
     have he' : p.2 + d = x + d - 1 := by lia
     have e1 : x + d + s = x + s + d := by lia
     have e2 : x + s - 1 + d = x + s + d - 1 := by lia
     have hpos := hpos d
     simp [hb, at1, he', ixN_neg1, tup_pr, hpos, e1, e2]
   ·refine ⟨bits / 2, x + s, t ++ [p] ++ [(x, x + s - 1)], canon_snoc.mpr ⟨c, by dsimp only; lia, fun r hr => ?_⟩, fun r hr => ?_, by simp, fun h => ?_, fun d v5 => ⟨.sh (.int s), ?_⟩⟩
    ·dsimp only
     rcases List.mem_append.mp hr with hr | hr
     ·have := ht r hr; lia
     ·rw [List.mem_singleton.mp hr]; lia
    ·rcases List.mem_append.mp hr with hr | hr
     ·have := hx r hr; lia
     ·rw [List.mem_singleton.mp hr]; dsimp only; lia
    ·have := hw h
     have : count (t ++ [p] ++ [(x, x + s - 1)]) = count (t ++ [p]) + (x + s - 1 - x + 1) := by simp [count]; lia
     lia
    ·unfold B_Lrow_0
     rw [h1, show (shift (t ++ [p] ++ [(x, x + s - 1)]) d d).map prD = (shift t d d).map prD ++ [prD (p.1 + d, p.2 + d)] ++ [prD (x + d, x + s - 1 + d)] by simp [shift], es]
     have at1 : atI ((shift t d d).map prD ++ [prD (p.1 + d, p.2 + d)]) (-1) = some (prD (p.1 + d, p.2 + d)) := atI_neg1 _ _
     have he' : ¬ p.2 + d = x + d - 1 := by lia
     have e1 : x + d + s = x + s + d := by lia
     have e2 : x + s - 1 + d = x + s + d - 1 := by lia
     have hpos := hpos d
     have hl2 := hlim' d
     simp [hb, at1, he', ixN_neg1, tup_pr, hpos, hl2, e1, e2]
 ·refine ⟨bits / 2, x + s, acc, c, fun p hp => by have := hx p hp; lia, by lia, fun _ => by lia, fun d v5 => ⟨.sh (.int s), ?_⟩⟩
  unfold B_Lrow_0
  rw [h1]
  have e1 : x + d + s = x + s + d := by lia
  simp [hb, e1]
theorem lrow_run (wide : Bool) : ∀ (ks : List Nat) (bits x : Int) (acc : R), (∀ k ∈ ks, k < 8) -> Canon acc -> (∀ p ∈ acc, p.2 <= x - 1) -> acc.length + ks.length <= 100 ->
  ∃ bits' x' acc', Canon acc' /\ acc'.length <= acc.length + ks.length /\ (wide = false -> count acc' <= count acc + ks.length) /\
   ∀ (d : Int) (v4 v5 : Sl), ∃ v4' v5', loopF (xgName 4) B_Lrow_0 (ks.map fun k : Nat => D.int (k : Int)) [.sh (.int bits), .sh (.int (x + d)), .sh (.bl wide), owl ((shift acc d d).map prD), v4, v5] = some (.nx [.sh (.int bits'), .sh (.int (x' + d)), .sh (.bl wide), owl ((shift acc' d d).map prD), v4', v5'])
 | [], bits, x, acc, _, c, _, _ => ⟨bits, x, acc, c, by simp, fun _ => by simp, fun d v4 v5 => ⟨v4, v5, rfl⟩⟩
 | k :: ks, bits, x, acc, hk, c, hx, hl => by
  rw [List.length_cons] at hl
  obtain ⟨b1, x1, a1, c1, h1, l1, n1, t1⟩ := lrow_turn bits x wide acc k (hk k (by simp)) c hx (by lia)
  obtain ⟨b2, x2, a2, c2, l2, n2, t2⟩ := lrow_run wide ks b1 x1 a1 (fun j hj => hk j (by simp [hj])) c1 h1 (by lia)
  refine ⟨b2, x2, a2, c2, by rw [List.length_cons]; lia, fun h => ?_, fun d v4 v5 => ?_⟩
  ·have := n1 h
   have := n2 h
   rw [List.length_cons]
   lia
  ·obtain ⟨w5, e1⟩ := t1 d v5
   obtain ⟨w4, w6, e2⟩ := t2 d (.sh (.int k)) w5
   refine ⟨w4, w6, ?_⟩
   have hg : xgName 4 (.int (k : Int)) [.sh (.int bits), .sh (.int (x + d)), .sh (.bl wide), owl ((shift acc d d).map prD), v4, v5] = some [.sh (.int bits), .sh (.int (x + d)), .sh (.bl wide), owl ((shift acc d d).map prD), .sh (.int k), v5] := rfl
   rw [List.map_cons, loopF_cons, hg]
   dsimp only [Option.bind]
   rw [e1]
   exact e2
theorem m_law_row_is (bits : Int) (wide : Bool) : ∃ r : R, Canon r /\ r.length <= 8 /\ (wide = false -> count r <= 8) /\ ∀ x : Int, m_Lrow [.int bits, .int x, .bl wide] = some (rowD (shift r x x)) := by
 obtain ⟨b, x', r, c, l, n, t⟩ := lrow_run wide (List.range 8) bits 0 [] (fun k hk => List.mem_range.mp hk) canon_nil (fun _ h => (by cases h)) (by simp)
 refine ⟨r, c, by simpa using l, fun h => by have := n h; simpa [count] using this, fun x => ?_⟩
 obtain ⟨v4, v5, k1⟩ := t x .un .un
 rw [<- intsD_is] at k1
 have hr : rngD [D.int 8] = some (intsD 0 8) := ifC_pos (by decide)
 rw [show (0 : Int) + x = x by lia] at k1
 have hl : (shift r x x).length <= LIM := lim_of (by rw [show (shift r x x).length = r.length from List.length_map ..]; have : r.length <= 8 := (by simpa using l); lia)
 change loopF _ _ _ [.sh (.int bits), .sh (.int x), .sh (.bl wide), .ow (.lst []), .un, .un] = _ at k1
 simp [m_Lrow, mo_Lrow, fnO, X_Lrow, hr, k1, hl]
theorem m_law_cell_at_is (ns : List Int) (k : Nat) : ∃ f : Int, m_Lcell_at [.scr (ns.map D.int), .int k] = some (.int f) := by
 by_cases h : k < ns.length
 ·have h' : (k : Int) < ns.length := by lia
  have ea : atI (ns.map D.int) (k : Int) = some (.int ns[k]) := atI_of (by rw [List.getElem?_map, List.getElem?_eq_getElem h]; rfl)
  exact ⟨ns[k], by simp [m_Lcell_at, mo_Lcell_at, fnO, X_Lcell_at, h, h', ea]⟩
 ·have h' : ¬ (k : Int) < ns.length := by lia
  exact ⟨0, by simp [m_Lcell_at, mo_Lcell_at, fnO, X_Lcell_at, h, h']⟩
theorem m_law_signed_is (c m : Int) (h : 0 < m) : ∃ f : Int, m_Lsigned [.int c, .int m] = some (.int f) := by
 by_cases hc : c < 0
 ·exact ⟨_, by simp [m_Lsigned, mo_Lsigned, fnO, X_Lsigned, h, hc]; rfl⟩
 ·exact ⟨_, by simp [m_Lsigned, mo_Lsigned, fnO, X_Lsigned, h, hc]; rfl⟩
theorem small_any {a j : Int} (h0 : 0 <= a) (h1 : a < 1000000) (h2 : 0 <= j) (h3 : j < 1000000) : Builtin.Range.small a j 20 = true := by
 have e1 : 0 <= Builtin.Range.rangeSize a j 20 /\ Builtin.Range.rangeSize a j 20 < 1000000 := by
  unfold Builtin.Range.rangeSize
  rw [if_pos (by decide)]
  split <;> lia
 unfold Builtin.Range.small
 generalize Builtin.Range.rangeSize a j 20 = n at e1
 simp only [Builtin.Range.rangeFitsLong, Bool.and_eq_true, Bool.or_eq_true, decide_eq_true_eq, beq_iff_eq, show (20 : Int) > 0 by decide, if_true]
 have e : (2 : Int) ^ 63 = 9223372036854775808 := by decide
 lia
def bitsF (ns : List Int) (k : Nat) (b : Int) (l : List Nat) : Int := l.foldl (fun b i => b + 5 * ns.getD (21 + k + i * 20) 0 % 256) b
def bitsOf (ns : List Int) (k : Nat) : Int := bitsF ns k (ns.getD (1 + k) 0 * 48271 % 2147483647 / 37) (List.range (Builtin.Range.rangeSize (21 + (k : Int)) ns.length 20).toNat)
theorem lpic_inner (ns : List Int) (hn : ns.length <= 63) (k : Nat) (hk : k < 20) (s1 s2 s3 s4 s5 v7 v8 : Sl) (bits : Int) : ∃ v7', xFor (xRngS (xCons (xOp dAdd (xC (.int 21)) (xVarP 6)) (xCons (xCB bMin2 (xCons (xCB bLen (xCons (xVarP 0) xNil)) (xCons (xC (.int 99)) xNil))) (xCons (xC (.int 20)) xNil)))) (xgName 8) (B_Lpicture_0) [.sh (.scr (ns.map D.int)), s1, s2, s3, s4, s5, .sh (.int k), .sh (.int bits), v7, v8] = some (.nx [.sh (.scr (ns.map D.int)), s1, s2, s3, s4, s5, .sh (.int k), .sh (.int (bitsF ns k bits (List.range (Builtin.Range.rangeSize (21 + (k : Int)) ns.length 20).toNat))), v7', v8]) := by
 have hr : rngSD [.int (21 + (k : Int)), .int (ns.length : Int), .int 20] = some (stepsD (21 + (k : Int)) 20 (Builtin.Range.rangeSize (21 + (k : Int)) ns.length 20).toNat) := ifC_pos ⟨by decide, by decide, small_any (by lia) (by lia) (by lia) (by lia)⟩
 have hmin : ¬ (99 : Int) < ns.length := by lia
 obtain ⟨ρ', k1, v', rfl⟩ := loopF_inv (g := xgName 8) (m := B_Lpicture_0) (fun i : Nat => D.int (21 + (k : Int) + (i : Int) * 20)) (fun pre ρ => ∃ v', ρ = [.sh (.scr (ns.map D.int)), s1, s2, s3, s4, s5, .sh (.int k), .sh (.int (bitsF ns k bits pre)), v', v8]) (List.range (Builtin.Range.rangeSize (21 + (k : Int)) ns.length 20).toNat) [.sh (.scr (ns.map D.int)), s1, s2, s3, s4, s5, .sh (.int k), .sh (.int bits), v7, v8] ⟨_, rfl⟩ (by
  rintro pre i post _ e ⟨v', rfl⟩
  have hi : i < (Builtin.Range.rangeSize (21 + (k : Int)) ns.length 20).toNat := List.mem_range.mp (by rw [e]; simp)
  have hb : 21 + k + i * 20 < ns.length := by
   unfold Builtin.Range.rangeSize at hi
   rw [if_pos (by decide)] at hi
   split at hi <;> lia
  have eg : ns.getD (21 + k + i * 20) 0 = ns[21 + k + i * 20] := by rw [List.getD_eq_getElem?_getD, List.getElem?_eq_getElem hb]; rfl
  have ea : atI (ns.map D.int) (21 + (k : Int) + (i : Int) * 20) = some (.int ns[21 + k + i * 20]) := by
   have := atI_of (l := ns.map D.int) (j := 21 + k + i * 20) (x := .int ns[21 + k + i * 20]) (by rw [List.getElem?_map, List.getElem?_eq_getElem hb]; rfl)
   rw [<- this]
   congr 1
  have hm : dMul (.int 5) (.int ns[21 + k + i * 20]) = some (.int (5 * ns[21 + k + i * 20])) := ifC_pos (.inl (by decide))
  have eb : bitsF ns k bits (pre ++ [i]) = bitsF ns k bits pre + 5 * ns[21 + k + i * 20] % 256 := by unfold bitsF; rw [List.foldl_append, <- eg]; rfl
  exact ⟨[.sh (.scr (ns.map D.int)), s1, s2, s3, s4, s5, .sh (.int k), .sh (.int (bitsF ns k bits pre)), .sh (.int (21 + (k : Int) + (i : Int) * 20)), v8], [.sh (.scr (ns.map D.int)), s1, s2, s3, s4, s5, .sh (.int k), .sh (.int (bitsF ns k bits pre + 5 * ns[21 + k + i * 20] % 256)), .sh (.int (21 + (k : Int) + (i : Int) * 20)), v8], rfl, .inl (by simp [B_Lpicture_0, ea, hm]), _, by rw [eb]⟩)
 refine ⟨v', ?_⟩
 unfold stepsD at hr
 simp [hmin, hr, k1]
theorem range_at {n k : Nat} {pre post : List Nat} (e : List.range n = pre ++ k :: post) : k = pre.length /\ k < n := by
 have h1 : (List.range n)[pre.length]? = some k := by rw [e]; simp
 obtain ⟨h2, h3⟩ := List.getElem?_eq_some_iff.mp h1
 rw [List.getElem_range] at h3
 rw [List.length_range] at h2
 lia
def rowsF (rk : Nat -> R) (l : List Nat) : Pic := l.filterMap fun k => if rk k = [] then none else some ((k : Int), rk k)
theorem rowsF_ok (rk : Nat -> R) (hc : ∀ k, Canon (rk k)) (hl : ∀ k, (rk k).length <= 8) (n : Nat) : PCanon (rowsF rk (List.range n)) /\ (rowsF rk (List.range n)).length <= n /\ (strOf (rowsF rk (List.range n))).length <= 8 * n /\ ∀ g ∈ rowsF rk (List.range n), (∃ k, g.2 = rk k) /\ g.1 < n := by
 induction n with
 | zero => exact ⟨pcanon_nil, Nat.le_refl _, Nat.le_refl _, fun _ h => (by cases h)⟩
 | succ n ih =>
  obtain ⟨i1, i2, i3, i4⟩ := ih
  have e : rowsF rk (List.range (n + 1)) = rowsF rk (List.range n) ++ (if rk n = [] then [] else [((n : Int), rk n)]) := by
   unfold rowsF
   rw [List.range_succ, List.filterMap_append]
   congr 1
   by_cases h : rk n = [] <;> simp [h]
  rw [e]
  by_cases h : rk n = []
  ·rw [if_pos h, List.append_nil]
   exact ⟨i1, by lia, by lia, fun g hg => ⟨(i4 g hg).1, by have := (i4 g hg).2; lia⟩⟩
  ·rw [if_neg h]
   refine ⟨⟨fun g hg => ?_, List.pairwise_append.mpr ⟨i1.2, List.pairwise_singleton _ _, fun a ha b hb => ?_⟩⟩, by simp; lia, ?_, fun g hg => ?_⟩
   ·rcases List.mem_append.mp hg with hg | hg
    ·exact i1.1 g hg
    ·rw [List.mem_singleton.mp hg]; exact ⟨hc n, h⟩
   ·rw [List.mem_singleton.mp hb]
    exact (i4 a ha).2
   ·rw [strOf_append, List.length_append]
    have : (strOf [((n : Int), rk n)]).length = (rk n).length := by simp [strOf]
    have := hl n
    lia
   ·rcases List.mem_append.mp hg with hg | hg
    ·exact ⟨(i4 g hg).1, by have := (i4 g hg).2; lia⟩
    ·rw [List.mem_singleton.mp hg]; exact ⟨⟨n, rfl⟩, by dsimp only; lia⟩
theorem m_law_picture_is (ns : List Int) (hn : ns.length <= 63) (f : Int) (hf : m_Lcell_at [.scr (ns.map D.int), .int 0] = some (.int f)) : ∃ (p : Pic) (x y : Int), PCanon p /\ p.length <= 20 /\ (strOf p).length <= 160 /\ (f % 3 ≠ 1 -> ∀ g ∈ p, count g.2 <= 8) /\ ∀ z : Int, m_Lpicture [.scr (ns.map D.int), .int z] = some (picD (mvP p (x + z) (y + z))) := by
 obtain ⟨q, hq1, hq⟩ : ∃ q : Int, 0 < q /\ dPow (.int 10) (.int 58) = some (.int q) := ⟨_, by decide, v_pow (by decide)⟩
 have at2 : ∀ c : Int, ∃ m : Int, 0 < m /\ atI [D.int 9, .int q] (c % 2) = some (.int m) := fun c => by
  have : c % 2 = 0 \/ c % 2 = 1 := by lia
  rcases this with e | e <;> rw [e]
  ·exact ⟨9, by lia, rfl⟩
  ·exact ⟨q, hq1, rfl⟩
 obtain ⟨m1, h1, e1⟩ := at2 (f / 3)
 obtain ⟨m2, h2, e2⟩ := at2 (f / 6)
 obtain ⟨x, hx⟩ := m_law_signed_is (f / 12) m1 h1
 obtain ⟨y, hy⟩ := m_law_signed_is (f / 24) m2 h2
 obtain ⟨n, hn20, hr⟩ : ∃ n : Nat, n <= 20 /\ n <= ns.length - 1 /\ rngD [.int (if (ns.length : Int) - 1 < 20 then (ns.length : Int) - 1 else 20)] = some ((List.range n).map fun k : Nat => D.int (k : Int)) := by
  refine ⟨(if (ns.length : Int) - 1 < 20 then (ns.length : Int) - 1 else 20).toNat, by split <;> lia, by split <;> lia, ?_⟩
  rw [<- intsD_is]
  exact ifC_pos (by split <;> lia)
 obtain ⟨hnl, hr⟩ := hr
 obtain ⟨rk, hrk⟩ := Classical.axiomOfChoice fun k : Nat => m_law_row_is (bitsOf ns k) (decide (f % 3 = 1))
 obtain ⟨o1, o2, o3, o4⟩ := rowsF_ok rk (fun k => (hrk k).1) (fun k => (hrk k).2.1) n
 refine ⟨rowsF rk (List.range n), x, y, o1, by lia, by lia, fun h g hg => ?_, fun z => ?_⟩
 ·obtain ⟨⟨k, e⟩, _⟩ := o4 g hg
  rw [e]
  exact (hrk k).2.2.1 (by simpa using h)
 obtain ⟨ρ', k1, v6, v7, v8, v9, rfl⟩ := loopF_inv (g := xgName 6) (m := B_Lpicture_1) (fun k : Nat => D.int (k : Int)) (fun pre ρ => ∃ (v6 v7 v8 v9 : Sl), ρ = [.sh (.scr (ns.map D.int)), .sh (.int z), .sh (.int f), .sh (.int (x + z)), .sh (.int (y + z)), owl ((mvP (rowsF rk pre) (x + z) (y + z)).map pyD), v6, v7, v8, v9]) (List.range n) [.sh (.scr (ns.map D.int)), .sh (.int z), .sh (.int f), .sh (.int (x + z)), .sh (.int (y + z)), .ow (.lst []), .un, .un, .un, .un]
  ⟨_, _, _, _, rfl⟩ (by
  rintro pre k post _ e ⟨v6, v7, v8, v9, rfl⟩
  obtain ⟨hk, hkn⟩ := range_at e
  have hlim : (mvP (rowsF rk pre) (x + z) (y + z)).length < LIM := lim_of' (by
   have : (rowsF rk pre).length <= pre.length := List.length_filterMap_le ..
   rw [show (mvP (rowsF rk pre) (x + z) (y + z)).length = (rowsF rk pre).length from List.length_map ..]
   lia)
  have hb : 1 + k < ns.length := by lia
  have eg : ns.getD (1 + k) 0 = ns[1 + k] := by rw [List.getD_eq_getElem?_getD, List.getElem?_eq_getElem hb]; rfl
  have ea : atI (ns.map D.int) (1 + (k : Int)) = some (.int ns[1 + k]) := by
   have := atI_of (l := ns.map D.int) (j := 1 + k) (x := .int ns[1 + k]) (by rw [List.getElem?_map, List.getElem?_eq_getElem hb]; rfl)
   rw [<- this]
   congr 1
  obtain ⟨v8', hin⟩ := lpic_inner ns hn k (by lia) (.sh (.int z)) (.sh (.int f)) (.sh (.int (x + z))) (.sh (.int (y + z))) (owl ((mvP (rowsF rk pre) (x + z) (y + z)).map pyD)) v8 v9 (ns[1 + k] * 48271 % 2147483647 / 37)
  rw [<- eg] at hin
  change _ = some (Out.nx [_, _, _, _, _, _, _, Sl.sh (.int (bitsOf ns k)), _, _]) at hin
  have hrow := (hrk k).2.2.2 (x + z)
  have step1 : ∀ n : XS, xSeq (xAsg (xOp dDiv (xOp dMod (xOp dMul (xOp dIx (xVarP 0) (xOp dAdd (xC (.int 1)) (xVarP 6))) (xC (.int 48271))) (xC (.int 2147483647))) (xC (.int 37))) (xgName 7)) n [.sh (.scr (ns.map D.int)), .sh (.int z), .sh (.int f), .sh (.int (x + z)), .sh (.int (y + z)), owl ((mvP (rowsF rk pre) (x + z) (y + z)).map pyD), .sh (.int k), v7, v8, v9] = n [.sh (.scr (ns.map D.int)), .sh (.int z), .sh (.int f), .sh (.int (x + z)), .sh (.int (y + z)), owl ((mvP (rowsF rk pre) (x + z) (y + z)).map pyD), .sh (.int k), .sh (.int (ns.getD (1 + k) 0 * 48271 % 2147483647 / 37)), v8, v9] := fun n => by
   have hm : dMul (.int ns[1 + k]) (.int 48271) = some (.int (ns[1 + k] * 48271)) := ifC_pos (.inr (by decide))
   rw [eg]
   simp [ea, hm]
  have er : mvP (rowsF rk (pre ++ [k])) (x + z) (y + z) = mvP (rowsF rk pre) (x + z) (y + z) ++ (if rk k = [] then [] else [((k : Int) + (y + z), shift (rk k) (x + z) (x + z))]) := by
   unfold rowsF mvP
   rw [List.filterMap_append, List.map_append]
   congr 1
   by_cases h : rk k = [] <;> simp [h]
  refine ⟨[.sh (.scr (ns.map D.int)), .sh (.int z), .sh (.int f), .sh (.int (x + z)), .sh (.int (y + z)), owl ((mvP (rowsF rk pre) (x + z) (y + z)).map pyD), .sh (.int k), v7, v8, v9], [.sh (.scr (ns.map D.int)), .sh (.int z), .sh (.int f), .sh (.int (x + z)), .sh (.int (y + z)), owl ((mvP (rowsF rk (pre ++ [k])) (x + z) (y + z)).map pyD), .sh (.int k), .sh (.int (bitsOf ns k)), v8', .sh (rowD (shift (rk k) (x + z) (x + z)))], rfl, .inl ?_, _, _, _, _, rfl⟩
  unfold B_Lpicture_1
  rw [step1, run_seq hin, er]
  by_cases h : rk k = []
  ·rw [if_pos h, List.append_nil]
   rw [h] at hrow ⊢
   simp [hrow, shift]
  ·rw [if_neg h]
   have hpos' : 0 < (shift (rk k) (x + z) (x + z)).length := by rw [show (shift (rk k) (x + z) (x + z)).length = (rk k).length from List.length_map ..]; exact List.length_pos_iff.mpr h
   have hpos : (0 : Int) < (shift (rk k) (x + z) (x + z)).length := by lia
   have ec : y + z + (k : Int) = (k : Int) + (y + z) := by lia
   simp [hrow, hpos, hpos', hlim, ec])
 have hl : (mvP (rowsF rk (List.range n)) (x + z) (y + z)).length <= LIM := lim_of (by rw [show (mvP (rowsF rk (List.range n)) (x + z) (y + z)).length = (rowsF rk (List.range n)).length from List.length_map ..]; lia)
 simp [m_Lpicture, mo_Lpicture, fnO, X_Lpicture, hf, hq, e1, e2, hx, hy, hr, k1, hl]
theorem count_mv (r : R) (d : Int) : count (shift r d d) = count r := by
 unfold count shift
 rw [List.map_map]
 congr 1
 apply List.map_congr_left
 intro p _
 simp only [Function.comp]
 lia
theorem cnt_mv (p : Pic) (dx dy : Int) : cnt (mvP p dx dy) = cnt p := by
 unfold cnt mvP
 rw [List.map_map]
 congr 1
 apply List.map_congr_left
 intro q _
 exact count_mv q.2 dx
theorem pic_mv {p : Pic} {ts us : List Tri} (c : PCanon p) {O : Int -> Int -> Prop} (dx dy : Int) (h1 : ∀ x y, TMem ts x y ↔ ∃ u v, O u v /\ PMem p (x - u) (y - v)) (h2 : ∀ x y, TMem us x y ↔ ∃ u v, O u v /\ PMem (mvP p dx dy) (x - u) (y - v)) : cnt (picOf us) = cnt (picOf ts) := by
 have e : picOf us = mvP (picOf ts) dx dy := picOf_uniq (mvP_canon (picOf_ok ts).1 dx dy) fun x y => by
  rw [h2, mvP_mem, (picOf_ok ts).2, h1]
  constructor
  ·rintro ⟨u, v, o, h⟩
   rw [mvP_mem] at h
   exact ⟨u, v, o, by rw [show x - dx - u = x - u - dx by lia, show y - dy - v = y - v - dy by lia]; exact h⟩
  ·rintro ⟨u, v, o, h⟩
   refine ⟨u, v, o, ?_⟩
   rw [mvP_mem, show x - u - dx = x - dx - u by lia, show y - v - dy = y - dy - v by lia]
   exact h
 rw [e, cnt_mv]
theorem crn_mv {p : Pic} (c : PCanon p) (dx dy : Int) : crn (mvP p dx dy) = crn p := pic_mv c (O := fun u v => (0 <= u /\ u <= 1) /\ 0 <= v /\ v <= 1) dx dy (pts_mem c) (pts_mem (mvP_canon c dx dy))
theorem flt_mv {p : Pic} (c : PCanon p) (dx dy : Int) : flt (mvP p dx dy) = flt p := pic_mv c (O := fun u v => (0 <= u /\ u <= 0) /\ 0 <= v /\ v <= 1) dx dy (flt_mem c) (flt_mem (mvP_canon c dx dy))
theorem upr_mv {p : Pic} (c : PCanon p) (dx dy : Int) : upr (mvP p dx dy) = upr p := pic_mv c (O := fun u v => (0 <= u /\ u <= 1) /\ 0 <= v /\ v <= 0) dx dy (upr_mem c) (upr_mem (mvP_canon c dx dy))
theorem m_Lwhole_is (n : Int) : m_Lwhole [.int n, .int n] = some (.bl true) := by
 simp [m_Lwhole, mo_Lwhole, fnO, X_Lwhole]
def ptsC (c : Int × Int) : List (List Int) := [[c.1, c.2], [c.1 + 1, c.2], [c.1, c.2 + 1], [c.1 + 1, c.2 + 1]]
def sdsC (c : Int × Int) : List (List Int) := [[c.1, c.2, 0], [c.1, c.2 + 1, 0], [c.1, c.2, 1], [c.1 + 1, c.2, 1]]
theorem mem_addK (ks : List (List Int)) (q a : List Int) : a ∈ addK ks q ↔ a ∈ ks \/ a = q := by
 unfold addK
 by_cases h : ks.contains q = true
 ·rw [if_pos h]
  have := List.contains_iff_mem.mp h
  constructor
  ·exact .inl
  ·rintro (k | rfl)
   ·exact k
   ·exact this
 ·rw [if_neg h]
  simp
theorem addK_nodup {ks : List (List Int)} (h : ks.Nodup) (q : List Int) : (addK ks q).Nodup := by
 unfold addK
 by_cases c : ks.contains q = true
 ·rw [if_pos c]; exact h
 ·rw [if_neg c]
  refine List.nodup_append.mpr ⟨h, List.nodup_cons.mpr ⟨List.not_mem_nil, .nil⟩, fun a ha b hb e => ?_⟩
  rw [List.mem_singleton.mp hb] at e
  subst e
  exact c (List.contains_iff_mem.mpr ha)
theorem fold_addK : ∀ (qs ks : List (List Int)), ks.Nodup -> (qs.foldl addK ks).Nodup /\ (qs.foldl addK ks).length <= ks.length + qs.length /\ ∀ a, a ∈ qs.foldl addK ks ↔ a ∈ ks \/ a ∈ qs
 | [], ks, h => ⟨h, Nat.le_refl _, fun a => by simp⟩
 | q :: qs, ks, h => by
  obtain ⟨h1, h2, h3⟩ := fold_addK qs (addK ks q) (addK_nodup h q)
  refine ⟨h1, ?_, fun a => ?_⟩
  ·have := addK_len ks q
   rw [List.length_cons]
   exact Nat.le_trans h2 (by lia)
  ·show a ∈ qs.foldl addK (addK ks q) ↔ _
   rw [h3, mem_addK, List.mem_cons, or_assoc]
theorem points_turn (s0 s5 s6 s7 : Sl) (A S : List (List Int)) (n : Int) (x y : Int) (v9 v10 v11 : Sl) (hA : A.length <= 5000) (hS : S.length <= 5000) :
  ∃ w9 w10 w11, B_Lby_points_2 [s0, .ow (.dic A), .ow (.dic S), .sh (.int n), .sh (.int y), s5, s6, s7, .sh (.int x), v9, v10, v11] = some (.nx [s0, .ow (.dic ((ptsC (x, y)).foldl addK A)), .ow (.dic ((sdsC (x, y)).foldl addK S)), .sh (.int (n + 1)), .sh (.int y), s5, s6, s7, .sh (.int x), w9, w10, w11]) := by
 have a0 : A.length < LIM := lim_of' (by lia)
 have l1 := fun q => addK_len A q
 have a1 : ∀ q, (addK A q).length < LIM := fun q => lim_of' (by have := addK_len A q; lia)
 have a2 : ∀ q r, (addK (addK A q) r).length < LIM := fun q r => lim_of' (by have := addK_len A q; have := addK_len (addK A q) r; lia)
 have a3 : ∀ q r s, (addK (addK (addK A q) r) s).length < LIM := fun q r s => lim_of' (by have := addK_len A q; have := addK_len (addK A q) r; have := addK_len (addK (addK A q) r) s; lia)
 have s0' : S.length < LIM := lim_of' (by lia)
 have s1 : ∀ q, (addK S q).length < LIM := fun q => lim_of' (by have := addK_len S q; lia)
 have s2 : ∀ q r, (addK (addK S q) r).length < LIM := fun q r => lim_of' (by have := addK_len S q; have := addK_len (addK S q) r; lia)
 have s3 : ∀ q r s, (addK (addK (addK S q) r) s).length < LIM := fun q r s => lim_of' (by have := addK_len S q; have := addK_len (addK S q) r; have := addK_len (addK (addK S q) r) s; lia)
 refine ⟨.sh (.int 1), .sh (.int 1), .sh (.tup [.int (x + 1), .int y, .int 1]), ?_⟩
 simp [B_Lby_points_2, B_Lby_points_1, B_Lby_points_0, loopF, kyD, intsOf, ptsC, sdsC, a0, a1, a2, a3, s0', s1, s2, s3]
def dP (cs : R) : List (List Int) := (cs.flatMap ptsC).foldl addK []
def dS (cs : R) : List (List Int) := (cs.flatMap sdsC).foldl addK []
theorem dP_snoc (cs : R) (c : Int × Int) : dP (cs ++ [c]) = (ptsC c).foldl addK (dP cs) := by
 unfold dP
 rw [List.flatMap_append, List.foldl_append]
 simp
theorem dS_snoc (cs : R) (c : Int × Int) : dS (cs ++ [c]) = (sdsC c).foldl addK (dS cs) := by
 unfold dS
 rw [List.flatMap_append, List.foldl_append]
 simp
theorem flat4 (f : Int × Int -> List (List Int)) (hf : ∀ c, (f c).length = 4) : ∀ cs : R, (cs.flatMap f).length = 4 * cs.length
 | [] => rfl
 | c :: cs => by rw [List.flatMap_cons, List.length_append, hf, flat4 f hf cs, List.length_cons]; lia
theorem dP_len (cs : R) : (dP cs).length <= 4 * cs.length := by
 have := (fold_addK (cs.flatMap ptsC) [] .nil).2.1
 rw [flat4 ptsC (fun _ => rfl)] at this
 simpa [dP] using this
theorem dS_len (cs : R) : (dS cs).length <= 4 * cs.length := by
 have := (fold_addK (cs.flatMap sdsC) [] .nil).2.1
 rw [flat4 sdsC (fun _ => rfl)] at this
 simpa [dS] using this
abbrev stP (s0 : Sl) (cs : R) (y : Int) (v : List Sl) : M.Env := s0 :: .ow (.dic (dP cs)) :: .ow (.dic (dS cs)) :: .sh (.int cs.length) :: .sh (.int y) :: v
theorem points_strip (s0 s5 : Sl) (cs : R) (t : Tri) (v8 v9 v10 v11 : Sl) (h : cs.length + (cellsT t).length <= 1000) :
  ∃ w8 w9 w10 w11, B_Lby_points_3 (stP s0 cs t.1 [s5, .sh (.int t.2.1), .sh (.int t.2.2), v8, v9, v10, v11]) = some (.nx (stP s0 (cs ++ cellsT t) t.1 [s5, .sh (.int t.2.1), .sh (.int t.2.2), w8, w9, w10, w11])) := by
 have hr : rngA [.int t.2.1, .int (t.2.2 + 1)] = some ((zs t.2.1 (t.2.2 + 1 - t.2.1).toNat).map D.int) := by rw [rngA, intsD_zs]
 have hz : (zs t.2.1 (t.2.2 + 1 - t.2.1).toNat).length = (cellsT t).length := by rw [cellsT_len, zs_len]
 obtain ⟨ρ', k1, w8, w9, w10, w11, rfl⟩ := loopF_inv (g := xgName 8) (m := B_Lby_points_2) D.int (fun pre ρ => ∃ w8 w9 w10 w11, ρ = stP s0 (cs ++ pre.map fun x => (x, t.1)) t.1 [s5, .sh (.int t.2.1), .sh (.int t.2.2), w8, w9, w10, w11]) (zs t.2.1 (t.2.2 + 1 - t.2.1).toNat) (stP s0 cs t.1 [s5, .sh (.int t.2.1), .sh (.int t.2.2), v8, v9, v10, v11]) ⟨v8, v9, v10, v11, by simp⟩ (by
  rintro pre x post _ e ⟨w8, w9, w10, w11, rfl⟩
  have hl := congrArg List.length e
  rw [hz, List.length_append, List.length_cons] at hl
  have hc : (cs ++ pre.map fun x => (x, t.1)).length <= 1000 := by rw [List.length_append, List.length_map]; lia
  have p1 := dP_len (cs ++ pre.map fun x => (x, t.1))
  have p2 := dS_len (cs ++ pre.map fun x => (x, t.1))
  obtain ⟨u9, u10, u11, hu⟩ := points_turn s0 s5 (.sh (.int t.2.1)) (.sh (.int t.2.2)) (dP (cs ++ pre.map fun x => (x, t.1))) (dS (cs ++ pre.map fun x => (x, t.1))) ((cs ++ pre.map fun x => (x, t.1)).length : Nat) x t.1 w9 w10 w11 (by lia) (by lia)
  refine ⟨_, _, rfl, .inl hu, .sh (.int x), u9, u10, u11, ?_⟩
  have e2 : cs ++ (pre ++ [x]).map (fun x => (x, t.1)) = cs ++ pre.map (fun x => (x, t.1)) ++ [(x, t.1)] := by simp
  rw [e2]
  show _ = stP _ _ _ _
  unfold stP
  rw [dP_snoc, dS_snoc, List.length_append (bs := [(x, t.1)]), List.length_singleton]
  rfl)
 refine ⟨w8, w9, w10, w11, ?_⟩
 have ec : cellsT t = (zs t.2.1 (t.2.2 + 1 - t.2.1).toNat).map fun x => (x, t.1) := rfl
 have hz2 : (zs t.2.1 (t.2.2 + 1 - t.2.1).toNat).length <= LIM := lim_of (by lia)
 rw [ec]
 have he : xRngA (xCons (xVarP 6) (xCons (xOp dAdd (xVarP 7) (xC (.int 1))) xNil)) (stP s0 cs t.1 [s5, .sh (.int t.2.1), .sh (.int t.2.2), v8, v9, v10, v11]) = some ((zs t.2.1 (t.2.2 + 1 - t.2.1).toNat).map D.int) := by simp [hr]
 unfold B_Lby_points_3 xFor
 rw [he]
 simp only [Option.bind, List.length_map, hz2, if_true]
 exact k1
theorem points_row (s0 : Sl) (cs : R) (y : Int) (r : R) (v6 v7 v8 v9 v10 v11 : Sl) (h : cs.length + (cellsL (r.map fun s => (y, s))).length <= 1000) (hl : r.length <= 1000) :
  ∃ w6 w7 w8 w9 w10 w11, B_Lby_points_4 (stP s0 cs y [.sh (rowD r), v6, v7, v8, v9, v10, v11]) = some (.nx (stP s0 (cs ++ cellsL (r.map fun s => (y, s))) y [.sh (rowD r), w6, w7, w8, w9, w10, w11])) := by
 obtain ⟨ρ', k1, w6, w7, w8, w9, w10, w11, rfl⟩ := loopF_inv (g := xgTup (xgCons (xgName 6) (xgCons (xgName 7) xgNil))) (m := B_Lby_points_3) prD (fun pre ρ => ∃ w6 w7 w8 w9 w10 w11, ρ = stP s0 (cs ++ cellsL (pre.map fun s => (y, s))) y [.sh (rowD r), w6, w7, w8, w9, w10, w11]) r (stP s0 cs y [.sh (rowD r), v6, v7, v8, v9, v10, v11]) ⟨v6, v7, v8, v9, v10, v11, by simp [cellsL]⟩ (by
  rintro pre s post _ e ⟨w6, w7, w8, w9, w10, w11, rfl⟩
  have hc : (cs ++ cellsL (pre.map fun s => (y, s))).length + (cellsT (y, s)).length <= 1000 := by
   rw [e, List.map_append, List.map_cons, cellsL_append, cellsL_cons, List.length_append, List.length_append] at h
   rw [List.length_append]
   lia
  obtain ⟨u8, u9, u10, u11, hu⟩ := points_strip s0 (.sh (rowD r)) (cs ++ cellsL (pre.map fun s => (y, s))) (y, s) w8 w9 w10 w11 hc
  refine ⟨_, _, rfl, .inl hu, .sh (.int s.1), .sh (.int s.2), u8, u9, u10, u11, ?_⟩
  rw [List.map_append, cellsL_append, <- List.append_assoc]
  simp [cellsL])
 refine ⟨w6, w7, w8, w9, w10, w11, ?_⟩
 have he : xIt (xVar 5) (stP s0 cs y [.sh (rowD r), v6, v7, v8, v9, v10, v11]) = some (r.map prD) := by simp
 have hr : r.length <= LIM := lim_of (by lia)
 unfold B_Lby_points_4 xFor
 rw [he]
 simp only [Option.bind, List.length_map, hr, if_true]
 exact k1
theorem cells_len {p : Pic} (c : PCanon p) : ((cellsL (strOf p)).length : Int) = cnt p := by rw [cellsL_len _ (str_good c), cnt_str]
theorem w_by_points (p : Pic) (c : PCanon p) (h : cnt p <= 1000) (hs : (strOf p).length <= 1000) : m_Lby_points [picD p] = some (.tup [.int (dP (cellsL (strOf p))).length, .int (dS (cellsL (strOf p))).length, .int (cellsL (strOf p)).length]) := by
 have hc := cells_len c
 obtain ⟨ρ', k1, v4, v5, v6, v7, v8, v9, v10, v11, rfl⟩ := loopF_inv (g := xgTup (xgCons (xgName 4) (xgCons (xgName 5) xgNil))) (m := B_Lby_points_4) pyD (fun pre ρ => ∃ v4 v5 v6 v7 v8 v9 v10 v11, ρ = [.sh (picD p), .ow (.dic (dP (cellsL (strOf pre)))), .ow (.dic (dS (cellsL (strOf pre)))), .sh (.int (cellsL (strOf pre)).length), v4, v5, v6, v7, v8, v9, v10, v11]) p [.sh (picD p), .ow (.dic []), .ow (.dic []), .sh (.int 0), .un, .un, .un, .un, .un, .un, .un, .un] ⟨.un, .un, .un, .un, .un, .un, .un, .un, rfl⟩ (by
  rintro pre q post _ e ⟨v4, v5, v6, v7, v8, v9, v10, v11, rfl⟩
  have h1 : (cellsL (strOf pre)).length + (cellsL (q.2.map fun s => (q.1, s))).length <= 1000 := by
   have hc := hc
   rw [e, strOf_append, strOf_cons, cellsL_append, cellsL_append, List.length_append, List.length_append] at hc
   rw [e] at h
   lia
  have h2 : q.2.length <= 1000 := Nat.le_trans (strOf_len_mem (p := p) (by rw [e]; simp)) hs
  obtain ⟨w6, w7, w8, w9, w10, w11, hw⟩ := points_row (.sh (picD p)) (cellsL (strOf pre)) q.1 q.2 v6 v7 v8 v9 v10 v11 h1 h2
  refine ⟨_, _, rfl, .inl hw, .sh (.int q.1), .sh (rowD q.2), w6, w7, w8, w9, w10, w11, ?_⟩
  have es : cellsL (strOf (pre ++ [q])) = cellsL (strOf pre) ++ cellsL (q.2.map fun s => (q.1, s)) := by rw [strOf_append, cellsL_append]; simp [strOf]
  rw [es])
 have hp : p.length <= LIM := lim_of (by have := rows_le c; lia)
 simp [m_Lby_points, mo_Lby_points, fnO, X_Lby_points, hp, k1, dicAt]
theorem perm_len {α : Type} [DecidableEq α] {a b : List α} (h1 : a.Nodup) (h2 : b.Nodup) (h : ∀ x, x ∈ a ↔ x ∈ b) : a.length = b.length := ((List.perm_ext_iff_of_nodup h1 h2).mpr h).length_eq
theorem nodup_map {α β : Type} {l : List α} {f : α -> β} (h : l.Nodup) (hf : ∀ a b, f a = f b -> a = b) : (l.map f).Nodup := List.pairwise_map.mpr (h.imp fun {a b} n e => n (hf a b e))
theorem pic_cells {ts : List Tri} (x y : Int) : (x, y) ∈ cellsL (strOf (picOf ts)) ↔ TMem ts x y := by rw [mem_cellsL, tmem_str, (picOf_ok ts).2]
theorem dP_is {p : Pic} (c : PCanon p) : ((dP (cellsL (strOf p))).length : Int) = crn p := by
 obtain ⟨n1, _, m1⟩ := fold_addK ((cellsL (strOf p)).flatMap ptsC) [] .nil
 unfold crn
 rw [<- cells_len (picOf_ok _).1]
 have e : (dP (cellsL (strOf p))).length = ((cellsL (strOf (picOf ((strOf p).flatMap ptsT)))).map fun c => [c.1, c.2]).length := by
  refine perm_len n1 (nodup_map (cellsL_nodup (str_apart (picOf_ok _).1)) fun a b e => ?_) fun q => ?_
  ·simp only [List.cons.injEq, and_true] at e
   exact Prod.ext e.1 e.2
  ·show q ∈ dP _ ↔ _
   unfold dP
   rw [m1, List.mem_flatMap, List.mem_map]
   constructor
   ·rintro (k | ⟨⟨x, y⟩, hc, hq⟩)
    ·cases k
    have pm : PMem p x y := (tmem_str p x y).mp ((mem_cellsL _ x y).mp hc)
    have fin : ∀ u v : Int, ((0 <= u /\ u <= 1) /\ 0 <= v /\ v <= 1) -> q = [x + u, y + v] -> ∃ a, a ∈ cellsL (strOf (picOf ((strOf p).flatMap ptsT))) /\ [a.1, a.2] = q := fun u v ho e => ⟨(x + u, y + v), (pic_cells _ _).mpr ((pts_mem c _ _).mpr ⟨u, v, ho, by rw [show x + u - u = x by lia, show y + v - v = y by lia]; exact pm⟩), e.symm⟩
    simp only [ptsC, List.mem_cons, List.not_mem_nil, or_false] at hq
    rcases hq with rfl | rfl | rfl | rfl
    ·exact fin 0 0 (by lia) (by simp)
    ·exact fin 1 0 (by lia) (by simp)
    ·exact fin 0 1 (by lia) (by simp)
    ·exact fin 1 1 (by lia) (by simp)
   ·rintro ⟨⟨x, y⟩, hc, rfl⟩
    obtain ⟨u, v, ho, pm⟩ := (pts_mem c _ _).mp ((pic_cells _ _).mp hc)
    refine .inr ⟨(x - u, y - v), (mem_cellsL _ _ _).mpr ((tmem_str p _ _).mpr pm), ?_⟩
    have hu : u = 0 \/ u = 1 := by lia
    have hv : v = 0 \/ v = 1 := by lia
    rcases hu with rfl | rfl <;> rcases hv with rfl | rfl <;> simp [ptsC]
 rw [e, List.length_map]
theorem dS_is {p : Pic} (c : PCanon p) : ((dS (cellsL (strOf p))).length : Int) = flt p + upr p := by
 obtain ⟨n1, _, m1⟩ := fold_addK ((cellsL (strOf p)).flatMap sdsC) [] .nil
 unfold flt upr
 rw [<- cells_len (picOf_ok _).1, <- cells_len (picOf_ok _).1]
 have e : (dS (cellsL (strOf p))).length = (((cellsL (strOf (picOf ((strOf p).flatMap fltT)))).map fun c => [c.1, c.2, 0]) ++ ((cellsL (strOf (picOf ((strOf p).flatMap uprT)))).map fun c => [c.1, c.2, 1])).length := by
  refine perm_len n1 (List.nodup_append.mpr ⟨nodup_map (cellsL_nodup (str_apart (picOf_ok _).1)) fun a b e => ?_, nodup_map (cellsL_nodup (str_apart (picOf_ok _).1)) fun a b e => ?_, fun a ha b hb e => ?_⟩) fun q => ?_
  ·simp only [List.cons.injEq, and_true] at e
   exact Prod.ext e.1 e.2
  ·simp only [List.cons.injEq, and_true] at e
   exact Prod.ext e.1 e.2
  ·obtain ⟨s, _, rfl⟩ := List.mem_map.mp ha
   obtain ⟨t, _, rfl⟩ := List.mem_map.mp hb
   simp at e
  ·show q ∈ dS _ ↔ _
   unfold dS
   rw [m1, List.mem_flatMap, List.mem_append, List.mem_map, List.mem_map]
   constructor
   ·rintro (k | ⟨⟨x, y⟩, hc, hq⟩)
    ·cases k
    have pm : PMem p x y := (tmem_str p x y).mp ((mem_cellsL _ x y).mp hc)
    have ff : ∀ u v : Int, ((0 <= u /\ u <= 0) /\ 0 <= v /\ v <= 1) -> q = [x + u, y + v, 0] -> ∃ a, a ∈ cellsL (strOf (picOf ((strOf p).flatMap fltT))) /\ [a.1, a.2, 0] = q := fun u v ho e => ⟨(x + u, y + v), (pic_cells _ _).mpr ((flt_mem c _ _).mpr ⟨u, v, ho, by rw [show x + u - u = x by lia, show y + v - v = y by lia]; exact pm⟩), e.symm⟩
    have fu : ∀ u v : Int, ((0 <= u /\ u <= 1) /\ 0 <= v /\ v <= 0) -> q = [x + u, y + v, 1] -> ∃ a, a ∈ cellsL (strOf (picOf ((strOf p).flatMap uprT))) /\ [a.1, a.2, 1] = q := fun u v ho e => ⟨(x + u, y + v), (pic_cells _ _).mpr ((upr_mem c _ _).mpr ⟨u, v, ho, by rw [show x + u - u = x by lia, show y + v - v = y by lia]; exact pm⟩), e.symm⟩
    simp only [sdsC, List.mem_cons, List.not_mem_nil, or_false] at hq
    rcases hq with rfl | rfl | rfl | rfl
    ·exact .inl (ff 0 0 (by lia) (by simp))
    ·exact .inl (ff 0 1 (by lia) (by simp))
    ·exact .inr (fu 0 0 (by lia) (by simp))
    ·exact .inr (fu 1 0 (by lia) (by simp))
   ·rintro (⟨⟨x, y⟩, hc, rfl⟩ | ⟨⟨x, y⟩, hc, rfl⟩)
    ·obtain ⟨u, v, ho, pm⟩ := (flt_mem c _ _).mp ((pic_cells _ _).mp hc)
     refine .inr ⟨(x - u, y - v), (mem_cellsL _ _ _).mpr ((tmem_str p _ _).mpr pm), ?_⟩
     have hu : u = 0 := by lia
     have hv : v = 0 \/ v = 1 := by lia
     subst hu
     rcases hv with rfl | rfl <;> simp [sdsC]
    ·obtain ⟨u, v, ho, pm⟩ := (upr_mem c _ _).mp ((pic_cells _ _).mp hc)
     refine .inr ⟨(x - u, y - v), (mem_cellsL _ _ _).mpr ((tmem_str p _ _).mpr pm), ?_⟩
     have hv : v = 0 := by lia
     have hu : u = 0 \/ u = 1 := by lia
     subst hv
     rcases hu with rfl | rfl <;> simp [sdsC]
 rw [e, List.length_append, List.length_map, List.length_map]
 lia
theorem m_Lby_points_is (p : Pic) (c : PCanon p) (h : cnt p <= 1000) (hs : (strOf p).length <= 1000) : m_Lby_points [picD p] = some (.tup [.int (crn p), .int (flt p + upr p), .int (cnt p)]) := by
 rw [w_by_points p c h hs, dP_is c, dS_is c, cells_len c]
theorem cnt_le : ∀ (p : Pic), (∀ g ∈ p, count g.2 <= 8) -> cnt p <= 8 * p.length
 | [], _ => by simp [cnt]
 | g :: p, h => by
  have h1 := h g (by simp)
  have h2 := cnt_le p fun q hq => h q (by simp [hq])
  have e : cnt (g :: p) = count g.2 + cnt p := by simp [cnt]
  rw [e, List.length_cons]
  lia
theorem law_turn (s0 s1 : Sl) (p q : Pic) (c : PCanon q) (h : (strOf q).length <= 1000) (e1 : crn q = crn p) (e2 : flt q = flt p) (e3 : upr q = upr p) (e4 : cnt q = cnt p) : B_law_0 [s0, s1, .sh (.tup [.int (crn p), .int (flt p + upr p), .int (cnt p)]), .sh (picD q)] = some (.nx [s0, s1, .sh (.tup [.int (crn p), .int (flt p + upr p), .int (cnt p)]), .sh (picD q)]) := by
 have a1 := m_corners_is q c h
 have a2 := m_edges_is q c h
 have a3 := m_told_number_is q c h
 rw [e1] at a1
 rw [e2, e3, show upr p + flt p = flt p + upr p by lia] at a2
 rw [e1, e2, e3, e4, show upr p + flt p = flt p + upr p by lia] at a3
 have b1 := m_Lwhole_is (crn p)
 have b2 := m_Lwhole_is (flt p + upr p)
 have b3 := m_Lwhole_is (crn p - (flt p + upr p) + cnt p)
 simp [B_law_0, a1, a2, a3, b1, b2, b3]
theorem m_law_is (ns : List Int) (h : ns.length <= 63) : m_law [.scr (ns.map D.int)] = some (.bl true) := by
 obtain ⟨f, hf⟩ := m_law_cell_at_is ns 0
 have hf : m_Lcell_at [.scr (ns.map D.int), .int 0] = some (.int f) := hf
 obtain ⟨p, x, y, c, l1, l2, l3, hp⟩ := m_law_picture_is ns h f hf
 have hp0 := hp 0
 have hp1 := hp 1
 have c0 := mvP_canon c (x + 0) (y + 0)
 have c1 := mvP_canon c (x + 1) (y + 1)
 have s0 : (strOf (mvP p (x + 0) (y + 0))).length <= 1000 := by rw [mv_str]; lia
 have s1 : (strOf (mvP p (x + 1) (y + 1))).length <= 1000 := by rw [mv_str]; lia
 have bs := m_Lby_stretches_is _ c0 s0
 have t0 := law_turn (.sh (.scr (ns.map D.int))) (.sh (picD (mvP p (x + 0) (y + 0)))) (mvP p (x + 0) (y + 0)) (mvP p (x + 0) (y + 0)) c0 s0 rfl rfl rfl rfl
 have t1 := law_turn (.sh (.scr (ns.map D.int))) (.sh (picD (mvP p (x + 0) (y + 0)))) (mvP p (x + 0) (y + 0)) (mvP p (x + 1) (y + 1)) c1 s1 (by rw [crn_mv c, crn_mv c]) (by rw [flt_mv c, flt_mv c]) (by rw [upr_mv c, upr_mv c]) (by rw [cnt_mv, cnt_mv])
 have lp : loopF (xgName 3) B_law_0 [picD (mvP p (x + 0) (y + 0)), picD (mvP p (x + 1) (y + 1))] [.sh (.scr (ns.map D.int)), .sh (picD (mvP p (x + 0) (y + 0))), .sh (.tup [.int (crn (mvP p (x + 0) (y + 0))), .int (flt (mvP p (x + 0) (y + 0)) + upr (mvP p (x + 0) (y + 0))), .int (cnt (mvP p (x + 0) (y + 0)))]), .un] = some (.nx [.sh (.scr (ns.map D.int)), .sh (picD (mvP p (x + 0) (y + 0))), .sh (.tup [.int (crn (mvP p (x + 0) (y + 0))), .int (flt (mvP p (x + 0) (y + 0)) + upr (mvP p (x + 0) (y + 0))), .int (cnt (mvP p (x + 0) (y + 0)))]), .sh (picD (mvP p (x + 1) (y + 1)))]) := by
  have g1 : ∀ (q : Pic) (v : Sl), xgName 3 (picD q) [.sh (.scr (ns.map D.int)), .sh (picD (mvP p (x + 0) (y + 0))), .sh (.tup [.int (crn (mvP p (x + 0) (y + 0))), .int (flt (mvP p (x + 0) (y + 0)) + upr (mvP p (x + 0) (y + 0))), .int (cnt (mvP p (x + 0) (y + 0)))]), v] = some [.sh (.scr (ns.map D.int)), .sh (picD (mvP p (x + 0) (y + 0))), .sh (.tup [.int (crn (mvP p (x + 0) (y + 0))), .int (flt (mvP p (x + 0) (y + 0)) + upr (mvP p (x + 0) (y + 0))), .int (cnt (mvP p (x + 0) (y + 0)))]), .sh (picD q)] := fun q v => rfl
  rw [loopF_cons, g1]
  dsimp only [Option.bind]
  rw [t0]
  dsimp only
  rw [loopF_cons, g1]
  dsimp only [Option.bind]
  rw [t1]
  rfl
 have cn : f % 3 ≠ 1 -> cnt (mvP p (x + 0) (y + 0)) <= 1000 := fun hf => by
  rw [cnt_mv]
  have := cnt_le p (l3 hf)
  lia
 have bp := fun hf => m_Lby_points_is _ c0 (cn hf) s0
 generalize mvP p (x + 0) (y + 0) = p0 at *
 generalize mvP p (x + 1) (y + 1) = p1 at *
 have tt : ∀ a b c : Int, dEq true (.tup [.int a, .int b, .int c]) (.tup [.int a, .int b, .int c]) = some (.bl false) := fun a b c => dEq_self true (by simp [okD, okDs])
 by_cases h3 : f % 3 = 1
 ·simp [m_law, mo_law, fnO, X_law, hp0, hp1, bs, hf, h3, lp]
 ·have b := bp h3
  simp [m_law, mo_law, fnO, X_law, hp0, hp1, bs, hf, h3, b, tt, lp]
end P
namespace L2
open PySem PySem.Spec PyProof.Rows M
section
variable {X : Cx} {a b e : Expr} {es : List Expr} {ta tb te : TE} {t : TA} {p pos pos' : Pos} {x : Str}
theorem pgn (i : Nat) (hN : X.N.Nodup) (hi : X.N[i]? = some x := by rfl) (hx : Loc X.env.scope x := by exact .inl rfl) (hf : X.fn x = true \/ X.env.scope.names.lookup x = some .local := by first | exact .inl rfl | exact .inr rfl | assumption) : PG X (.Name x pos) (gName i) := pg_name hN hi hx hf
theorem pgc {N : List Str} {scope : Scope} {z : CxZ} (i : Nat) (hN : N.Nodup := by decide +kernel) (hi : (cxC X N scope z).N[i]? = some x := by rfl) (hx : Loc (cxC X N scope z).env.scope x := by exact .inl rfl) (hf : (cxC X N scope z).fn x = true \/ (cxC X N scope z).env.scope.names.lookup x = some .local := by first | exact .inl rfl | exact .inr rfl | assumption) : PG (cxC X N scope z) (.Name x pos) (gName i) := pg_name hN hi hx hf
theorem pst (i : Nat) (hN : X.N.Nodup) (he : PE X e te) (hi : X.N[i]? = some x := by rfl) (hx : Loc X.env.scope x := by exact .inl rfl) (hs : swapsWith e (some (.Name x pos')) pos.line X.env = pure false := by rfl) (hf : X.fn x = true \/ X.env.scope.names.lookup x = some .local := by first | exact .inl rfl | exact .inr rfl | assumption) :
  PS X (.Assign [.Name x pos'] e pos) (tAsg te (gName i)) := ps_set hN hi hx he hs hf
theorem pix (ha : PE X a ta) (hb : PE X b tb) (hs : PlainIx b := by exact fun _ _ => rfl) : PE X (.Subscript a b pos) (tOp (rIx X.K) ta tb) := pe_ix ix_seq ha hb hs
theorem ptc {op : CmpOp} {r : R2} (ho : OpR X (compareOp op) r) (ha : PE X a ta) (hb : PE X b tb) (hm : behindInMarks op b = false := by exact nomark _) : PT X (.Compare a [op] [b] pos) (tTest (tOp r ta tb)) := pt_cmpR ho ha hb hm
theorem pcl {n k : Nat} {ps : List Str} {sp : Sp} {f : Addr} {fd : FuncData} (F : FnOk X.prog X.w X.K X.mg X.base CX0 n f fd ps sp) (hr : Room k X.A) (hm : X.mg x = some (.ref f)) (hk : W.keepIn X.K (.ref f) = true) (hb : Binds X.K fd ps []) (ha : PA X (e :: es) t) (hn : n <= k := by decide) (hg : Gl X x := by rfl) (hdb : (x == ("__debug__" : Str)) = false := by decide)
  (he : starEach (e :: es) X.env = (false, eval e X.env) :: starEach es X.env := by rfl) (hpl : (backTo pos (starEach es X.env)).any (·.1) = false := by rfl) : PE X (.Call (.Name x p) (e :: es) [] pos) (tCall sp [] E0 t) := pe_call F (hr.mono hn) hg hm hk hb .nil pass0 ha hdb he hpl
end
theorem Fun.okk {P : Program} {w : World} {K : W.Frag} {mg : Str -> Option Value} {base : Heap} {x qual : Str} {st : Stmt} {f : Addr} {fd : FuncData} {N ps : List Str} {k n j : Nat} {y : XS} {t : TS} (F : Fun K x qual st f fd) (hs : SS K t y) (hN : N.length = n) (hj : ps.length = j) (S : FnScope N ps (defScope st))
  (hb : N.Nodup -> ∀ (cdv : Value) (A : Around) (outer : List PySem.Env) (s : Shared) (H : Hp) (E : XK), Room k (A.deeper (envOfC qual (defScope st) s.heap.objs.size f cdv)) ->
   ∃ t', PSs (cxOf CX0 P w K mg base N qual (defScope st) f cdv A outer s H E).nox (defBody st) t' /\ t' = t) : FnOk P w K mg base CX0 (k + 1) f fd ps (spOf K j (fnO n y)) := by
 refine F.ok S (fun vs H Q E h => h.1.trans hj.symm) fun cdv A outer s H vs Q E hr h => ?_
 obtain ⟨t', h1, rfl⟩ := hb S.nd cdv A outer s H E hr
 exact ⟨_, h1, M.rd_of hs hN h⟩
end L2
namespace Lw
open PySem PySem.W L2 M P
set_option autoImplicit true
def top (i : Nat) : Stmt := PySem.Challenge.pw_shapethin_k48_corners_and_edges.main.body.getD i (.Pass ⟨0, 0, 0, 0⟩)
abbrev s_row_of : Stmt := top 5
abbrev s_row_count : Stmt := top 6
abbrev s_row_moved : Stmt := top 7
abbrev s_picture_of : Stmt := top 9
abbrev s_stretches_of : Stmt := top 10
abbrev s_join : Stmt := top 11
abbrev s_count_cells : Stmt := top 12
abbrev s_moved : Stmt := top 13
abbrev s_spread_down : Stmt := top 15
abbrev s_greater_by_block : Stmt := top 16
abbrev s_greater_by_part : Stmt := top 17
abbrev s_corners : Stmt := top 21
abbrev s_edges : Stmt := top 22
abbrev s_told_number : Stmt := top 23
abbrev s_Lcell_at : Stmt := top 25
abbrev s_Lsigned : Stmt := top 26
abbrev s_Lrow : Stmt := top 27
abbrev s_Lpicture : Stmt := top 28
abbrev s_Lby_points : Stmt := top 29
abbrev s_Llength : Stmt := top 30
abbrev s_Lby_stretches : Stmt := top 31
abbrev s_Lwhole : Stmt := top 32
abbrev s_law : Stmt := top 33
abbrev s_Form___init__ : Stmt := inClass (top 18) 0
abbrev s_Form_greater : Stmt := inClass (top 18) 2
abbrev s_Box___init__ : Stmt := inClass (top 19) 0
structure Txt (K : Frag) (mg : Str -> Option Value) : Prop where
 bool : mg "bool" = none
 int : mg "int" = none
 isinstance : mg "isinstance" = none
 len : mg "len" = none
 max : mg "max" = none
 min : mg "min" = none
 range : mg "range" = none
 reversed : mg "reversed" = none
 sorted : mg "sorted" = none
 sum : mg "sum" = none
 tuple : mg "tuple" = none
 cN : ClsN K NS fun C => Cls K C /\ NoAttr K C "parts"
section
variable {P : Program} {w : World} {K : Frag} {mg : Str -> Option Value} {base : Heap}
local macro_rules | `(tactic| ac_rfl) => `(tactic| exact ⟨rfl, rfl, rfl, by decide +kernel, rfl, by decide +kernel, by decide +kernel⟩)
theorem sc_Form___init__ : FnScope ["self", "parts"] ["self", "parts"] (defScope s_Form___init__) := ⟨rfl, rfl, rfl, by decide +kernel, rfl, by decide +kernel, by decide +kernel⟩
theorem sc_Box___init__ : FnScope ["self", "left", "up", "right", "down"] ["self", "left", "up", "right", "down"] (defScope s_Box___init__) := ⟨rfl, rfl, rfl, by decide +kernel, rfl, by decide +kernel, by decide +kernel⟩
theorem ok_Form___init__ (F : Fun K "__init__" "Form.__init__" s_Form___init__ f fd) (T : Txt K mg) : FnOk P w K mg base CX0 1 f fd ["self", "parts"] (sp_Form___init__ K) := by
 refine F.ok sc_Form___init__ (fun vs H Q E h => h.1) (fun cdv A outer s H vs Q E hr h => ?_)
 exact ⟨_, pss_one (ps_fld (pv 0) (pv 1) rfl), ini_base T.cN h⟩
abbrev QB_Form := Ab 1 "Form" ["self", "parts"] sp_Form___init__
theorem ok_Lby_points (F : Fun K "_law_by_points" "_law_by_points" s_Lby_points f fd) (T : Txt K mg) : FnOk P w K mg base CX0 1 f fd ["_law_picture_here"] (sp_Lby_points K) := F.okk (N := ["_law_picture_here", "_law_points", "_law_sides", "_law_cells", "_law_y", "_law_row_here", "_law_low", "_law_high", "_law_x", "_law_dx", "_law_dy", "_law_side"]) (pk_Lby_points K).2 rfl rfl (by ac_rfl) fun nd _ _ _ _ _ _ hr => ⟨_, pss_cons (pst 1 nd pe_dnewT) (pss_cons (pst 2 nd pe_dnewT) (pss_cons (pst 3 nd pe_int) (pss_cons (ps_for PassesOwn.never rfl (pi_seq (pv 0)) (pg_tup rfl (pgs_cons (pgn 4 nd) (pgs_cons (pgn 5 nd) pgs_nil))) (pss_one (ps_for PassesOwn.never rfl (pi_seq (pv 5)) (pg_tup rfl (pgs_cons (pgn 6 nd) (pgs_cons (pgn 7 nd) pgs_nil))) (pss_one (ps_for PassesOwn.never rfl (pi_rangeA (by rfl) T.range (pa_cons (pv 6) (pa_cons (pe_op op_addM (pv 7) pe_int) pa_nil))) (pgn 8 nd) (pss_cons (pst 3 nd (pe_op op_addM (pv 3) pe_int)) (pss_cons (ps_for PassesOwn.never rfl (pi_seq (pe_lst (pa_cons (pe_tup (pa_cons pe_int (pa_cons pe_int pa_nil))) (pa_cons (pe_tup (pa_cons pe_int (pa_cons pe_int pa_nil))) (pa_cons (pe_tup (pa_cons pe_int (pa_cons pe_int pa_nil))) (pa_cons (pe_tup (pa_cons pe_int (pa_cons pe_int pa_nil))) pa_nil)))))) (pg_tup rfl (pgs_cons (pgn 9 nd) (pgs_cons (pgn 10 nd) pgs_nil))) (pss_one (ps_dput (un1 hr.units) (pv 1) (pe_tup (pa_cons (pe_op op_addM (pv 8) (pv 9)) (pa_cons (pe_op op_addM (pv 4) (pv 10)) pa_nil))) pe_bl (by rfl)))) (pss_one (ps_for PassesOwn.never rfl (pi_seq (pe_lst (pa_cons (pe_tup (pa_cons (pv 8) (pa_cons (pv 4) (pa_cons pe_int pa_nil)))) (pa_cons (pe_tup (pa_cons (pv 8) (pa_cons (pe_op op_addM (pv 4) pe_int) (pa_cons pe_int pa_nil)))) (pa_cons (pe_tup (pa_cons (pv 8) (pa_cons (pv 4) (pa_cons pe_int pa_nil)))) (pa_cons (pe_tup (pa_cons (pe_op op_addM (pv 8) pe_int) (pa_cons (pv 4) (pa_cons pe_int pa_nil)))) pa_nil)))))) (pgn 11 nd) (pss_one (ps_dput (un1 hr.units) (pv 2) (pv 11) pe_bl (by rfl)))))))))))) (pss_one (ps_ret (pe_tup (pa_cons (pe_callB call_lenT (by rfl) T.len bt_len (pa_cons (pv 1) pa_nil)) (pa_cons (pe_callB call_lenT (by rfl) T.len bt_len (pa_cons (pv 2) pa_nil)) (pa_cons (pv 3) pa_nil))))))))), rfl⟩
abbrev Q_Lby_points := Ak CX0 1 "_law_by_points" ["_law_picture_here"] sp_Lby_points
theorem ok_Lcell_at (F : Fun K "_law_cell_at" "_law_cell_at" s_Lcell_at f fd) (T : Txt K mg) : FnOk P w K mg base CX0 1 f fd ["_law_script", "_law_k"] (sp_Lcell_at K) := F.okk (N := ["_law_script", "_law_k"]) (pk_Lcell_at K).2 rfl rfl (by ac_rfl) fun nd _ _ _ _ _ _ hr => ⟨_, pss_cons (ps_if (ptc op_lt (pv 1) (pe_callB call_lenM (by rfl) T.len bt_len (pa_cons (pv 0) pa_nil))) (pss_one (ps_ret (pix (pv 0) (pv 1)))) pss_nil) (pss_one (ps_ret pe_int)), rfl⟩
abbrev Q_Lcell_at := Ak CX0 1 "_law_cell_at" ["_law_script", "_law_k"] sp_Lcell_at
theorem ok_Llength (F : Fun K "_law_length" "_law_length" s_Llength f fd) (T : Txt K mg) : FnOk P w K mg base CX0 1 f fd ["_law_stretches"] (sp_Llength K) := F.okk (N := ["_law_stretches", "_law_total", "_law_last", "_law_y", "_law_low", "_law_high"]) (pk_Llength K).2 rfl rfl (by ac_rfl) fun nd _ _ _ _ _ _ hr => ⟨_, pss_cons (pst 1 nd pe_int) (pss_cons (pst 2 nd (pe_non)) (pss_cons (ps_for PassesOwn.never rfl (pi_seq (pe_callB call_sortedM (by rfl) T.sorted bt_sorted (pa_cons (pv 0) pa_nil))) (pg_tup rfl (pgs_cons (pgn 3 nd) (pgs_cons (pgn 4 nd) (pgs_cons (pgn 5 nd) pgs_nil)))) (pss_cons (ps_if (PW.pt (pw_and (ptc op_notN (pv 2) (pe_non)) (pw_and (ptc (op_eqM hr.units) (pix (pv 2) pe_int) (pv 3)) (pw_and1 (ptc op_le (pv 4) (pix (pv 2) pe_int)))))) (pss_one (pst 4 nd (pe_op op_addM (pix (pv 2) pe_int) pe_int))) pss_nil) (pss_one (ps_if (ptc op_le (pv 4) (pv 5)) (pss_cons (pst 1 nd (pe_op op_addM (pe_op op_sub (pe_op op_addM (pv 1) (pv 5)) (pv 4)) pe_int)) (pss_one (pst 2 nd (pe_tup (pa_cons (pv 3) (pa_cons (pv 5) pa_nil)))))) pss_nil)))) (pss_one (ps_ret (pv 1))))), rfl⟩
abbrev Q_Llength := Ak CX0 1 "_law_length" ["_law_stretches"] sp_Llength
theorem ok_Lrow (F : Fun K "_law_row" "_law_row" s_Lrow f fd) (T : Txt K mg) : FnOk P w K mg base CX0 1 f fd ["_law_bits", "_law_x", "_law_wide"] (sp_Lrow K) := F.okk (N := ["_law_bits", "_law_x", "_law_wide", "_law_row_here", "_law_k", "_law_size"]) (pk_Lrow K).2 rfl rfl (by ac_rfl) fun nd _ _ _ _ _ _ hr => ⟨_, pss_cons (pst 3 nd (pe_lst pa_nil)) (pss_cons (ps_for PassesOwn.never rfl (pi_range1 (by rfl) T.range (pa_cons pe_int pa_nil)) (pgn 4 nd) (pss_cons (pst 5 nd pe_int) (pss_cons (ps_if (pt_truth (pv 2) (fun _ => rfl)) (pss_one (pst 5 nd (pix (pe_lst (pa_cons pe_int (pa_cons pe_int (pa_cons pe_int (pa_cons (pe_op op_pow pe_int pe_int) (pa_cons pe_int (pa_cons pe_int (pa_cons pe_int (pa_cons pe_int pa_nil))))))))) (pv 4)))) pss_nil) (pss_cons (ps_if (ptc (op_eqM hr.units) (pe_op op_mod (pv 0) pe_int) pe_int) (pss_one (ps_if (PW.pt (pw_and (ptc op_gt (pe_callB call_lenM (by rfl) T.len bt_len (pa_cons (pv 3) pa_nil)) pe_int) (pw_and1 (ptc (op_eqM hr.units) (pix (pix (pv 3) (pe_un un_neg pe_int)) pe_int) (pe_op op_sub (pv 1) pe_int))))) (pss_one (ps_asg (pe_tup (pa_cons (pix (pix (pv 3) (pe_un un_neg pe_int)) pe_int) (pa_cons (pe_op op_sub (pe_op op_addM (pv 1) (pv 5)) pe_int) pa_nil))) (pg_sub (pv 3) (pe_un un_neg pe_int) set_list))) (pss_one (ps_expr (pe_bm PySem.F.plainAttrs_list PySem.F.slot_list_append PySem.F.type_list_append mt_append (pv 3) (pa_cons (pe_tup (pa_cons (pv 1) (pa_cons (pe_op op_sub (pe_op op_addM (pv 1) (pv 5)) pe_int) pa_nil))) pa_nil)))))) pss_nil) (pss_cons (pst 0 nd (pe_op op_fdiv (pv 0) pe_int)) (pss_one (pst 1 nd (pe_op op_addM (pv 1) (pv 5))))))))) (pss_one (ps_ret (pe_callTy call_tuple_of (by rfl) T.tuple bt_tuple (pa_cons (pv 3) pa_nil))))), rfl⟩
abbrev Q_Lrow := Ak CX0 1 "_law_row" ["_law_bits", "_law_x", "_law_wide"] sp_Lrow
theorem ok_Lsigned (F : Fun K "_law_signed" "_law_signed" s_Lsigned f fd) (T : Txt K mg) : FnOk P w K mg base CX0 1 f fd ["_law_cell", "_law_most"] (sp_Lsigned K) := F.okk (N := ["_law_cell", "_law_most"]) (pk_Lsigned K).2 rfl rfl (by ac_rfl) fun nd _ _ _ _ _ _ hr => ⟨_, pss_cons (ps_if (ptc op_lt (pv 0) pe_int) (pss_one (ps_ret (pe_op op_sub pe_int (pe_op op_mod (pe_op op_sub pe_int (pv 0)) (pv 1))))) pss_nil) (pss_one (ps_ret (pe_op op_mod (pv 0) (pv 1)))), rfl⟩
abbrev Q_Lsigned := Ak CX0 1 "_law_signed" ["_law_cell", "_law_most"] sp_Lsigned
theorem ok_Lwhole (F : Fun K "_law_whole" "_law_whole" s_Lwhole f fd) (T : Txt K mg) : FnOk P w K mg base CX0 1 f fd ["_law_found", "_law_due"] (sp_Lwhole K) := F.okk (N := ["_law_found", "_law_due"]) (pk_Lwhole K).2 rfl rfl (by ac_rfl) fun nd _ _ _ _ _ _ hr => ⟨_, pss_one (ps_ret (pe_and (pe_callB call_isiM (by rfl) T.isinstance bt_isinstance (pa_cons (pv 0) (pa_cons (pe_bltn (v := .ty "int") (by rfl) T.int bt_int rfl) pa_nil))) (pe_and (pe_not (pe_callB call_isiM (by rfl) T.isinstance bt_isinstance (pa_cons (pv 0) (pa_cons (pe_bltn (v := .ty "bool") (by rfl) T.bool bt_bool rfl) pa_nil)))) (pe_one (pe_cmpR (op_eqM hr.units) (pv 0) (pv 1) (nomark _)))))), rfl⟩
abbrev Q_Lwhole := Ak CX0 1 "_law_whole" ["_law_found", "_law_due"] sp_Lwhole
theorem ok_row_count (F : Fun K "row_count" "row_count" s_row_count f fd) (T : Txt K mg) : FnOk P w K mg base CX0 1 f fd ["row"] (sp_row_count K) := F.okk (N := ["row"]) (pk_row_count K).2 rfl rfl (by ac_rfl) fun nd _ _ _ _ _ _ hr => ⟨_, pss_one (ps_ret (pe_callB (call_sumL rfl) (by rfl) T.sum bt_sum (pa_cons (pe_comp (show CmpOk ["row"] (defScope s_row_count) _ ["a", "b"] [none, none] from cmpok) (pi_seq (pv 0)) (fun _ => pg_tup rfl (pgs_cons (pgc 0) (pgs_cons (pgc 1) pgs_nil))) (st_tup (sts_cons st_name (sts_cons st_name sts_nil gName_mono) gName_mono)) (fun _ => pif_nil) (fun _ => pe_op op_addM (pe_op op_sub (pv 1) (pv 0)) pe_int)) pa_nil))), rfl⟩
abbrev Q_row_count := Ak CX0 1 "row_count" ["row"] sp_row_count
theorem ok_row_moved (F : Fun K "row_moved" "row_moved" s_row_moved f fd) (T : Txt K mg) : FnOk P w K mg base CX0 1 f fd ["row", "by"] (sp_row_moved K) := F.okk (N := ["row", "by"]) (pk_row_moved K).2 rfl rfl (by ac_rfl) fun nd _ _ _ _ _ _ hr => ⟨_, pss_one (ps_ret (pe_callTy call_tuple_of (by rfl) T.tuple bt_tuple (pa_cons (pe_comp (show CmpOk ["row", "by"] (defScope s_row_moved) _ ["a", "b", "by"] [none, none, some 1] from cmpok) (pi_seq (pv 0)) (fun _ => pg_tup rfl (pgs_cons (pgc 0) (pgs_cons (pgc 1) pgs_nil))) (st_tup (sts_cons st_name (sts_cons st_name sts_nil gName_mono) gName_mono)) (fun _ => pif_nil) (fun _ => pe_tup (pa_cons (pe_op op_addM (pv 0) (pv 2)) (pa_cons (pe_op op_addM (pv 1) (pv 2)) pa_nil)))) pa_nil))), rfl⟩
abbrev Q_row_moved := Ak CX0 1 "row_moved" ["row", "by"] sp_row_moved
theorem ok_row_of (F : Fun K "row_of" "row_of" s_row_of f fd) (T : Txt K mg) : FnOk P w K mg base CX0 1 f fd ["pairs"] (sp_row_of K) := F.okk (N := ["pairs", "stretches", "a", "b"]) (pk_row_of K).2 rfl rfl (by ac_rfl) fun nd _ _ _ _ _ _ hr => ⟨_, pss_cons (pst 1 nd (pe_lst pa_nil)) (pss_cons (ps_for PassesOwn.never rfl (pi_seq (pe_callB call_sortedM (by rfl) T.sorted bt_sorted (pa_cons (pe_comp (show CmpOk ["pairs", "stretches", "a", "b"] (defScope s_row_of) _ ["a", "b"] [none, none] from cmpok) (pi_seq (pv 0)) (fun _ => pg_tup rfl (pgs_cons (pgc 0) (pgs_cons (pgc 1) pgs_nil))) (st_tup (sts_cons st_name (sts_cons st_name sts_nil gName_mono) gName_mono)) (fun _ => pif_one (ptc op_le (pv 0) (pv 1))) (fun _ => pe_tup (pa_cons (pv 0) (pa_cons (pv 1) pa_nil)))) pa_nil))) (pg_tup rfl (pgs_cons (pgn 2 nd) (pgs_cons (pgn 3 nd) pgs_nil))) (pss_one (ps_if (PW.pt (pw_and (pt_truth (pv 1) (fun _ => rfl)) (pw_and1 (ptc op_le (pv 2) (pe_op op_addM (pix (pix (pv 1) (pe_un un_neg pe_int)) pe_int) pe_int))))) (pss_one (ps_asg (pe_tup (pa_cons (pix (pix (pv 1) (pe_un un_neg pe_int)) pe_int) (pa_cons (pe_callB (call_max2 rfl) (by rfl) T.max bt_max (pa_cons (pix (pix (pv 1) (pe_un un_neg pe_int)) pe_int) (pa_cons (pv 3) pa_nil))) pa_nil))) (pg_sub (pv 1) (pe_un un_neg pe_int) set_list))) (pss_one (ps_expr (pe_bm PySem.F.plainAttrs_list PySem.F.slot_list_append PySem.F.type_list_append mt_append (pv 1) (pa_cons (pe_tup (pa_cons (pv 2) (pa_cons (pv 3) pa_nil))) pa_nil))))))) (pss_one (ps_ret (pe_callTy call_tuple_of (by rfl) T.tuple bt_tuple (pa_cons (pv 1) pa_nil))))), rfl⟩
abbrev Q_row_of := Ak CX0 1 "row_of" ["pairs"] sp_row_of
theorem ok_stretches_of (F : Fun K "stretches_of" "stretches_of" s_stretches_of f fd) (T : Txt K mg) : FnOk P w K mg base CX0 1 f fd ["picture"] (sp_stretches_of K) := F.okk (N := ["picture", "stretches", "y", "row"]) (pk_stretches_of K).2 rfl rfl (by ac_rfl) fun nd _ _ _ _ _ _ hr => ⟨_, pss_cons (pst 1 nd (pe_lst pa_nil)) (pss_cons (ps_for PassesOwn.never rfl (pi_seq (pv 0)) (pg_tup rfl (pgs_cons (pg_name (i := 2) nd rfl (.inr rfl)) (pgs_cons (pgn 3 nd) pgs_nil))) (pss_one (ps_expr (pe_bm PySem.F.plainAttrs_list PySem.F.slot_list_extend PySem.F.type_list_extend mt_extM (pv 1) (pa_cons (pe_comp (show CmpOk ["picture", "stretches", "y", "row"] (defScope s_stretches_of) _ ["a", "b", "y"] [none, none, some 2] from cmpok) (pi_seq (pv 3)) (fun _ => pg_tup rfl (pgs_cons (pgc 0) (pgs_cons (pgc 1) pgs_nil))) (st_tup (sts_cons st_name (sts_cons st_name sts_nil gName_mono) gName_mono)) (fun _ => pif_nil) (fun _ => pe_tup (pa_cons (pv 2) (pa_cons (pv 0) (pa_cons (pv 1) pa_nil))))) pa_nil))))) (pss_one (ps_ret (pv 1)))), rfl⟩
abbrev Q_stretches_of := Ak CX0 1 "stretches_of" ["picture"] sp_stretches_of
theorem ok_Box___init__ (F : Fun K "__init__" "Box.__init__" s_Box___init__ f fd) (T : Txt K mg) (AB_Form : QB_Form P w K mg base c_Form f_Form___init__ fd_Form___init__) : FnOk P w K mg base CX0 2 f fd ["self", "left", "up", "right", "down"] (sp_Box___init__ K) := by
 refine F.ok sc_Box___init__ (fun vs H Q E h => h.1) (fun cdv A outer s H vs Q E hr h => ?_)
 exact ⟨_, pss_cons (ps_if (pt_cmpR op_lt (pe_callB (call_min4 rfl) (by rfl) T.min bt_min (pa_cons (pv 1) (pa_cons (pv 2) (pa_cons (pv 3) (pa_cons (pv 4) pa_nil))))) pe_int (nomark _)) pss_never pss_nil) (pss_one (ps_expr (pe_clsCall AB_Form.cf (by rfl) AB_Form.g AB_Form.G (hr.mono (by decide)) AB_Form.b pass0 (pa_cons (pv 0) (pa_cons (pe_tup (pa_cons (pe_tup (pa_cons (pe_tup (pa_cons (pe_un un_neg (pv 1)) (pa_cons (pe_un un_neg (pv 2)) (pa_cons (pv 3) (pa_cons (pv 4) pa_nil))))) pa_nil)) pa_nil)) pa_nil))))), ini_test (s_test (SE.p (s_op r_lt ((s_cb b_min4 (sp_cons (s_varP 1) (sp_cons (s_varP 2) (sp_cons (s_varP 3) (sp_cons (s_varP 4) sp_nil))))).p) ((s_c rfl).p)))) (s_tup (sa_cons (s_tup (sa_cons (s_tup (sa_cons (s_un r_neg (s_varP 1)) (sa_cons (s_un r_neg (s_varP 2)) (sa_cons (s_var 3) (sa_cons (s_var 4) sa_nil))))) sa_nil)) sa_nil)) rfl h⟩
abbrev Q_Box := Ac CX0 2 "Box" ["self", "left", "up", "right", "down"] sp_Box___init__
theorem ok_Lby_stretches (F : Fun K "_law_by_stretches" "_law_by_stretches" s_Lby_stretches f fd) (T : Txt K mg) (A_Llength : Q_Llength P w K mg base f_Llength fd_Llength) : FnOk P w K mg base CX0 2 f fd ["_law_picture_here"] (sp_Lby_stretches K) := F.okk (N := ["_law_picture_here", "_law_points", "_law_flat", "_law_upright", "_law_cells", "_law_y", "_law_row_here", "_law_low", "_law_high", "_law_dy"]) (pk_Lby_stretches K).2 rfl rfl (by ac_rfl) fun nd _ _ _ _ _ _ hr => ⟨_, pss_cons (pst 1 nd (pe_lst pa_nil)) (pss_cons (pst 2 nd (pe_lst pa_nil)) (pss_cons (pst 3 nd (pe_lst pa_nil)) (pss_cons (pst 4 nd (pe_lst pa_nil)) (pss_cons (ps_for PassesOwn.never rfl (pi_seq (pv 0)) (pg_tup rfl (pgs_cons (pgn 5 nd) (pgs_cons (pgn 6 nd) pgs_nil))) (pss_one (ps_for PassesOwn.never rfl (pi_seq (pv 6)) (pg_tup rfl (pgs_cons (pgn 7 nd) (pgs_cons (pgn 8 nd) pgs_nil))) (pss_cons (ps_expr (pe_bm PySem.F.plainAttrs_list PySem.F.slot_list_append PySem.F.type_list_append mt_append (pv 4) (pa_cons (pe_tup (pa_cons (pv 5) (pa_cons (pv 7) (pa_cons (pv 8) pa_nil)))) pa_nil))) (pss_cons (ps_expr (pe_bm PySem.F.plainAttrs_list PySem.F.slot_list_append PySem.F.type_list_append mt_append (pv 3) (pa_cons (pe_tup (pa_cons (pv 5) (pa_cons (pv 7) (pa_cons (pe_op op_addM (pv 8) pe_int) pa_nil)))) pa_nil))) (pss_one (ps_for PassesOwn.never rfl (pi_seq (pe_lst (pa_cons pe_int (pa_cons pe_int pa_nil)))) (pgn 9 nd) (pss_cons (ps_expr (pe_bm PySem.F.plainAttrs_list PySem.F.slot_list_append PySem.F.type_list_append mt_append (pv 1) (pa_cons (pe_tup (pa_cons (pe_op op_addM (pv 5) (pv 9)) (pa_cons (pv 7) (pa_cons (pe_op op_addM (pv 8) pe_int) pa_nil)))) pa_nil))) (pss_one (ps_expr (pe_bm PySem.F.plainAttrs_list PySem.F.slot_list_append PySem.F.type_list_append mt_append (pv 2) (pa_cons (pe_tup (pa_cons (pe_op op_addM (pv 5) (pv 9)) (pa_cons (pv 7) (pa_cons (pv 8) pa_nil)))) pa_nil)))))))))))) (pss_one (ps_ret (pe_tup (pa_cons (pcl A_Llength.G hr A_Llength.m A_Llength.k A_Llength.b (pa_cons (pv 1) pa_nil)) (pa_cons (pe_op op_addM (pcl A_Llength.G hr A_Llength.m A_Llength.k A_Llength.b (pa_cons (pv 2) pa_nil)) (pcl A_Llength.G hr A_Llength.m A_Llength.k A_Llength.b (pa_cons (pv 3) pa_nil))) (pa_cons (pcl A_Llength.G hr A_Llength.m A_Llength.k A_Llength.b (pa_cons (pv 4) pa_nil)) pa_nil)))))))))), rfl⟩
abbrev Q_Lby_stretches := Ak CX0 2 "_law_by_stretches" ["_law_picture_here"] sp_Lby_stretches
theorem ok_Lpicture (F : Fun K "_law_picture" "_law_picture" s_Lpicture f fd) (T : Txt K mg) (A_Lcell_at : Q_Lcell_at P w K mg base f_Lcell_at fd_Lcell_at) (A_Lsigned : Q_Lsigned P w K mg base f_Lsigned fd_Lsigned) (A_Lrow : Q_Lrow P w K mg base f_Lrow fd_Lrow) : FnOk P w K mg base CX0 2 f fd ["_law_script", "_law_by"] (sp_Lpicture K) := F.okk (N := ["_law_script", "_law_by", "_law_first", "_law_x", "_law_y", "_law_rows", "_law_k", "_law_bits", "_law_j", "_law_row_here"]) (pk_Lpicture K).2 rfl rfl (by ac_rfl) fun nd _ _ _ _ _ _ hr => ⟨_, pss_cons (pst 2 nd (pcl A_Lcell_at.G hr A_Lcell_at.m A_Lcell_at.k A_Lcell_at.b (pa_cons (pv 0) (pa_cons pe_int pa_nil)))) (pss_cons (pst 3 nd (pe_op op_addM (pcl A_Lsigned.G hr A_Lsigned.m A_Lsigned.k A_Lsigned.b (pa_cons (pe_op op_fdiv (pv 2) pe_int) (pa_cons (pix (pe_lst (pa_cons pe_int (pa_cons (pe_op op_pow pe_int pe_int) pa_nil))) (pe_op op_mod (pe_op op_fdiv (pv 2) pe_int) pe_int)) pa_nil))) (pv 1))) (pss_cons (pst 4 nd (pe_op op_addM (pcl A_Lsigned.G hr A_Lsigned.m A_Lsigned.k A_Lsigned.b (pa_cons (pe_op op_fdiv (pv 2) pe_int) (pa_cons (pix (pe_lst (pa_cons pe_int (pa_cons (pe_op op_pow pe_int pe_int) pa_nil))) (pe_op op_mod (pe_op op_fdiv (pv 2) pe_int) pe_int)) pa_nil))) (pv 1))) (pss_cons (pst 5 nd (pe_lst pa_nil)) (pss_cons (ps_for PassesOwn.never rfl (pi_range1 (by rfl) T.range (pa_cons (pe_callB (call_min2 rfl) (by rfl) T.min bt_min (pa_cons pe_int (pa_cons (pe_op op_sub (pe_callB call_lenM (by rfl) T.len bt_len (pa_cons (pv 0) pa_nil)) pe_int) pa_nil))) pa_nil)) (pgn 6 nd) (pss_cons (pst 7 nd (pe_op op_fdiv (pe_op op_mod (pe_op op_mul (pix (pv 0) (pe_op op_addM pe_int (pv 6))) pe_int) pe_int) pe_int)) (pss_cons (ps_for PassesOwn.never rfl (pi_rangeS (by rfl) T.range (pa_cons (pe_op op_addM pe_int (pv 6)) (pa_cons (pe_callB (call_min2 rfl) (by rfl) T.min bt_min (pa_cons (pe_callB call_lenM (by rfl) T.len bt_len (pa_cons (pv 0) pa_nil)) (pa_cons pe_int pa_nil))) (pa_cons pe_int pa_nil)))) (pgn 8 nd) (pss_one (pst 7 nd (pe_op op_addM (pv 7) (pe_op op_mod (pe_op op_mul pe_int (pix (pv 0) (pv 8))) pe_int))))) (pss_cons (pst 9 nd (pcl A_Lrow.G hr A_Lrow.m A_Lrow.k A_Lrow.b (pa_cons (pv 7) (pa_cons (pv 3) (pa_cons (pe_cmpR (op_eqM hr.units) (pe_op op_mod (pv 2) pe_int) pe_int (nomark _)) pa_nil))))) (pss_one (ps_if (ptc op_gt (pe_callB call_lenM (by rfl) T.len bt_len (pa_cons (pv 9) pa_nil)) pe_int) (pss_one (ps_expr (pe_bm PySem.F.plainAttrs_list PySem.F.slot_list_append PySem.F.type_list_append mt_append (pv 5) (pa_cons (pe_tup (pa_cons (pe_op op_addM (pv 4) (pv 6)) (pa_cons (pv 9) pa_nil))) pa_nil)))) pss_nil)))))) (pss_one (ps_ret (pe_callTy call_tuple_of (by rfl) T.tuple bt_tuple (pa_cons (pv 5) pa_nil)))))))), rfl⟩
abbrev Q_Lpicture := Ak CX0 2 "_law_picture" ["_law_script", "_law_by"] sp_Lpicture
theorem ok_count_cells (F : Fun K "count_cells" "count_cells" s_count_cells f fd) (T : Txt K mg) (A_row_count : Q_row_count P w K mg base f_row_count fd_row_count) : FnOk P w K mg base CX0 2 f fd ["picture"] (sp_count_cells K) := F.okk (N := ["picture"]) (pk_count_cells K).2 rfl rfl (by ac_rfl) fun nd _ _ _ _ _ _ hr => ⟨_, pss_one (ps_ret (pe_callB (call_sumL rfl) (by rfl) T.sum bt_sum (pa_cons (pe_comp (show CmpOk ["picture"] (defScope s_count_cells) _ ["y", "row"] [none, none] from cmpok) (pi_seq (pv 0)) (fun _ => pg_tup rfl (pgs_cons (pgc 0) (pgs_cons (pgc 1) pgs_nil))) (st_tup (sts_cons st_name (sts_cons st_name sts_nil gName_mono) gName_mono)) (fun _ => pif_nil) (fun _ => pcl A_row_count.G hr A_row_count.m A_row_count.k A_row_count.b (pa_cons (pv 1) pa_nil))) pa_nil))), rfl⟩
abbrev Q_count_cells := Ak CX0 2 "count_cells" ["picture"] sp_count_cells
theorem ok_moved (F : Fun K "moved" "moved" s_moved f fd) (T : Txt K mg) (A_row_moved : Q_row_moved P w K mg base f_row_moved fd_row_moved) : FnOk P w K mg base CX0 2 f fd ["picture", "dx", "dy"] (sp_moved K) := F.okk (N := ["picture", "dx", "dy"]) (pk_moved K).2 rfl rfl (by ac_rfl) fun nd _ _ _ _ _ _ hr => ⟨_, pss_one (ps_ret (pe_callTy call_tuple_of (by rfl) T.tuple bt_tuple (pa_cons (pe_comp (show CmpOk ["picture", "dx", "dy"] (defScope s_moved) _ ["y", "row", "dy", "dx"] [none, none, some 2, some 1] from cmpok) (pi_seq (pv 0)) (fun _ => pg_tup rfl (pgs_cons (pgc 0) (pgs_cons (pgc 1) pgs_nil))) (st_tup (sts_cons st_name (sts_cons st_name sts_nil gName_mono) gName_mono)) (fun _ => pif_nil) (fun _ => pe_tup (pa_cons (pe_op op_addM (pv 0) (pv 2)) (pa_cons (pcl A_row_moved.G hr A_row_moved.m A_row_moved.k A_row_moved.b (pa_cons (pv 1) (pa_cons (pv 3) pa_nil))) pa_nil)))) pa_nil))), rfl⟩
abbrev Q_moved := Ak CX0 2 "moved" ["picture", "dx", "dy"] sp_moved
theorem ok_picture_of (F : Fun K "picture_of" "picture_of" s_picture_of f fd) (T : Txt K mg) (A_row_of : Q_row_of P w K mg base f_row_of fd_row_of) : FnOk P w K mg base CX0 2 f fd ["stretches"] (sp_picture_of K) := F.okk (N := ["stretches", "pairs_by_row", "y", "a", "b"]) (pk_picture_of K).2 rfl rfl (by ac_rfl) fun nd _ _ _ _ _ _ hr => ⟨_, pss_cons (pst 1 nd (pe_lst pa_nil)) (pss_cons (ps_for PassesOwn.never rfl (pi_seq (pe_callB call_sortedM (by rfl) T.sorted bt_sorted (pa_cons (pe_comp (show CmpOk ["stretches", "pairs_by_row", "y", "a", "b"] (defScope s_picture_of) _ ["y", "a", "b"] [none, none, none] from cmpok) (pi_seq (pv 0)) (fun _ => pg_tup rfl (pgs_cons (pgc 0) (pgs_cons (pgc 1) (pgs_cons (pgc 2) pgs_nil)))) (st_tup (sts_cons st_name (sts_cons st_name (sts_cons st_name sts_nil gName_mono) gName_mono) gName_mono)) (fun _ => pif_one (ptc op_le (pv 1) (pv 2))) (fun _ => pe_tup (pa_cons (pv 0) (pa_cons (pv 1) (pa_cons (pv 2) pa_nil))))) pa_nil))) (pg_tup rfl (pgs_cons (pgn 2 nd) (pgs_cons (pgn 3 nd) (pgs_cons (pgn 4 nd) pgs_nil)))) (pss_cons (ps_if (PW.pt (pw_or (pt_not (pt_truth (pv 1) (fun _ => rfl))) (pw_or1 (ptc (op_neM hr.units) (pix (pix (pv 1) (pe_un un_neg pe_int)) pe_int) (pv 2))))) (pss_one (ps_expr (pe_bm PySem.F.plainAttrs_list PySem.F.slot_list_append PySem.F.type_list_append mt_append (pv 1) (pa_cons (pe_tup (pa_cons (pv 2) (pa_cons (pe_lst pa_nil) pa_nil))) pa_nil)))) pss_nil) (pss_one (ps_expr (pe_bm PySem.F.plainAttrs_list PySem.F.slot_list_append PySem.F.type_list_append mt_append (pix (pix (pv 1) (pe_un un_neg pe_int)) pe_int) (pa_cons (pe_tup (pa_cons (pv 3) (pa_cons (pv 4) pa_nil))) pa_nil)))))) (pss_one (ps_ret (pe_callTy call_tuple_of (by rfl) T.tuple bt_tuple (pa_cons (pe_comp (show CmpOk ["stretches", "pairs_by_row", "y", "a", "b"] (defScope s_picture_of) _ ["y", "pairs"] [none, none] from cmpok) (pi_seq (pv 1)) (fun _ => pg_tup rfl (pgs_cons (pgc 0) (pgs_cons (pgc 1) pgs_nil))) (st_tup (sts_cons st_name (sts_cons st_name sts_nil gName_mono) gName_mono)) (fun _ => pif_nil) (fun _ => pe_tup (pa_cons (pv 0) (pa_cons (pcl A_row_of.G hr A_row_of.m A_row_of.k A_row_of.b (pa_cons (pv 1) pa_nil)) pa_nil)))) pa_nil))))), rfl⟩
abbrev Q_picture_of := Ak CX0 2 "picture_of" ["stretches"] sp_picture_of
theorem ok_join (F : Fun K "join" "join" s_join f fd) (T : Txt K mg) (A_picture_of : Q_picture_of P w K mg base f_picture_of fd_picture_of) (A_stretches_of : Q_stretches_of P w K mg base f_stretches_of fd_stretches_of) : FnOk P w K mg base CX0 3 f fd ["one", "other"] (sp_join K) := F.okk (N := ["one", "other"]) (pk_join K).2 rfl rfl (by ac_rfl) fun nd _ _ _ _ _ _ hr => ⟨_, pss_one (ps_ret (pcl A_picture_of.G hr A_picture_of.m A_picture_of.k A_picture_of.b (pa_cons (pe_op op_addM (pcl A_stretches_of.G hr A_stretches_of.m A_stretches_of.k A_stretches_of.b (pa_cons (pv 0) pa_nil)) (pcl A_stretches_of.G hr A_stretches_of.m A_stretches_of.k A_stretches_of.b (pa_cons (pv 1) pa_nil))) pa_nil))), rfl⟩
abbrev Q_join := Ak CX0 3 "join" ["one", "other"] sp_join
theorem ok_spread_down (F : Fun K "spread_down" "spread_down" s_spread_down f fd) (T : Txt K mg) (A_join : Q_join P w K mg base f_join fd_join) (A_moved : Q_moved P w K mg base f_moved fd_moved) : FnOk P w K mg base CX0 4 f fd ["picture", "by"] (sp_spread_down K) := F.okk (N := ["picture", "by", "done", "step"]) (pk_spread_down K).2 rfl rfl (by ac_rfl) fun nd _ _ _ _ _ _ hr => ⟨_, pss_cons (pst 2 nd pe_int) (pss_cons (ps_while PassesOwn.never (ptc op_lt (pv 2) (pv 1)) (pss_cons (pst 3 nd (pe_callB (call_min2 rfl) (by rfl) T.min bt_min (pa_cons (pe_op op_addM (pv 2) pe_int) (pa_cons (pe_op op_sub (pv 1) (pv 2)) pa_nil)))) (pss_cons (pst 0 nd (pcl A_join.G hr A_join.m A_join.k A_join.b (pa_cons (pv 0) (pa_cons (pcl A_moved.G hr A_moved.m A_moved.k A_moved.b (pa_cons (pv 0) (pa_cons pe_int (pa_cons (pv 3) pa_nil)))) pa_nil)))) (pss_one (ps_aug (i := 2) nd rfl (.inl rfl) (pv 3) ip_add))))) (pss_one (ps_ret (pv 0)))), rfl⟩
abbrev Q_spread_down := Ak CX0 4 "spread_down" ["picture", "by"] sp_spread_down
theorem ok_greater_by_block (F : Fun K "greater_by_block" "greater_by_block" s_greater_by_block f fd) (T : Txt K mg) (A_stretches_of : Q_stretches_of P w K mg base f_stretches_of fd_stretches_of) (A_spread_down : Q_spread_down P w K mg base f_spread_down fd_spread_down) (A_picture_of : Q_picture_of P w K mg base f_picture_of fd_picture_of) : FnOk P w K mg base CX0 5 f fd ["picture", "block"] (sp_greater_by_block K) := F.okk (N := ["picture", "block", "wide"]) (pk_greater_by_block K).2 rfl rfl (by ac_rfl) fun nd _ _ _ _ _ _ hr => ⟨_, pss_cons (ps_setC (i := 2) (hN := nd) (hi0 := rfl) (hx := Or.inl rfl) (ck := (show CmpOk ["picture", "block", "wide"] (defScope s_greater_by_block) _ ["y", "a", "b", "block"] [none, none, none, some 1] from cmpok)) (hi := pi_seq (pcl A_stretches_of.G hr A_stretches_of.m A_stretches_of.k A_stretches_of.b (pa_cons (pv 0) pa_nil))) (hg := fun _ => pg_tup rfl (pgs_cons (pgc 0) (pgs_cons (pgc 1) (pgs_cons (pgc 2) pgs_nil)))) (hs := st_tup (sts_cons st_name (sts_cons st_name (sts_cons st_name sts_nil gName_mono) gName_mono) gName_mono)) (ht := fun _ => pif_nil) (he := fun _ => pe_tup (pa_cons (pe_op op_addM (pv 0) (pix (pv 3) pe_int)) (pa_cons (pe_op op_addM (pv 1) (pix (pv 3) pe_int)) (pa_cons (pe_op op_addM (pv 2) (pix (pv 3) pe_int)) pa_nil))))) (pss_cons (ps_if (ptc (op_eqM hr.units) (pix (pv 1) pe_int) (pix (pv 1) pe_int)) (pss_one (ps_ret (pv 2))) pss_nil) (pss_one (ps_ret (pcl A_stretches_of.G hr A_stretches_of.m A_stretches_of.k A_stretches_of.b (pa_cons (pcl A_spread_down.G hr A_spread_down.m A_spread_down.k A_spread_down.b (pa_cons (pcl A_picture_of.G hr A_picture_of.m A_picture_of.k A_picture_of.b (pa_cons (pv 2) pa_nil)) (pa_cons (pe_op op_sub (pix (pv 1) pe_int) (pix (pv 1) pe_int)) pa_nil))) pa_nil))))), rfl⟩
abbrev Q_greater_by_block := Ak CX0 5 "greater_by_block" ["picture", "block"] sp_greater_by_block
theorem ok_greater_by_part (F : Fun K "greater_by_part" "greater_by_part" s_greater_by_part f fd) (T : Txt K mg) (A_greater_by_block : Q_greater_by_block P w K mg base f_greater_by_block fd_greater_by_block) (A_picture_of : Q_picture_of P w K mg base f_picture_of fd_picture_of) : FnOk P w K mg base CX0 6 f fd ["picture", "blocks"] (sp_greater_by_part K) := F.okk (N := ["picture", "blocks", "stretches", "block"]) (pk_greater_by_part K).2 rfl rfl (by ac_rfl) fun nd _ _ _ _ _ _ hr => ⟨_, pss_cons (pst 2 nd (pe_lst pa_nil)) (pss_cons (ps_for PassesOwn.never rfl (pi_seq (pv 1)) (pgn 3 nd) (pss_one (ps_expr (pe_bm PySem.F.plainAttrs_list PySem.F.slot_list_extend PySem.F.type_list_extend mt_extM (pv 2) (pa_cons (pcl A_greater_by_block.G hr A_greater_by_block.m A_greater_by_block.k A_greater_by_block.b (pa_cons (pv 0) (pa_cons (pv 3) pa_nil))) pa_nil))))) (pss_one (ps_ret (pcl A_picture_of.G hr A_picture_of.m A_picture_of.k A_picture_of.b (pa_cons (pv 2) pa_nil))))), rfl⟩
abbrev Q_greater_by_part := Ak CX0 6 "greater_by_part" ["picture", "blocks"] sp_greater_by_part
theorem ok_Form_greater (F : Fun K "greater" "Form.greater" s_Form_greater f fd) (T : Txt K mg) (A_greater_by_part : Q_greater_by_part P w K mg base f_greater_by_part fd_greater_by_part) : FnOk P w K mg base CX0 7 f fd ["self", "picture"] (sp_Form_greater K) := F.okk (N := ["self", "picture", "blocks"]) (pk_Form_greater K).2 rfl rfl (by ac_rfl) fun nd _ _ _ _ _ _ hr => ⟨_, pss_cons (ps_for PassesOwn.never rfl (pi_rev (by rfl) T.reversed (pa_cons (pe_fldN T.cN (pv 0) rfl) pa_nil)) (pgn 2 nd) (pss_one (pst 1 nd (pcl A_greater_by_part.G hr A_greater_by_part.m A_greater_by_part.k A_greater_by_part.b (pa_cons (pv 1) (pa_cons (pv 2) pa_nil)))))) (pss_one (ps_ret (pv 1))), rfl⟩
abbrev Q_Form_greater := Am 7 "greater" NS ["self", "picture"] sp_Form_greater
theorem ok_corners (F : Fun K "corners" "corners" s_corners f fd) (T : Txt K mg) (A_count_cells : Q_count_cells P w K mg base f_count_cells fd_count_cells) (A_Form_greater : Q_Form_greater P w K mg base f_Form_greater fd_Form_greater) (A_Box : Q_Box P w K mg base c_Box f_Box___init__ fd_Box___init__) : FnOk P w K mg base CX0 8 f fd ["picture"] (sp_corners K) := F.okk (N := ["picture"]) (pk_corners K).2 rfl rfl (by ac_rfl) fun nd _ _ _ _ _ _ hr => ⟨_, pss_one (ps_ret (pcl A_count_cells.G hr A_count_cells.m A_count_cells.k A_count_cells.b (pa_cons (pe_methN A_Form_greater.cm A_Form_greater.G (hr.mono (by decide)) A_Form_greater.b pass0 (pe_makeN A_Box.n A_Box.M A_Box.G (hr.mono (by decide)) (by rfl) A_Box.g A_Box.b pass0 (pa_cons pe_int (pa_cons pe_int (pa_cons pe_int (pa_cons pe_int pa_nil))))) (pa_cons (pv 0) pa_nil)) pa_nil))), rfl⟩
abbrev Q_corners := Ak CX0 8 "corners" ["picture"] sp_corners
theorem ok_edges (F : Fun K "edges" "edges" s_edges f fd) (T : Txt K mg) (A_count_cells : Q_count_cells P w K mg base f_count_cells fd_count_cells) (A_Form_greater : Q_Form_greater P w K mg base f_Form_greater fd_Form_greater) (A_Box : Q_Box P w K mg base c_Box f_Box___init__ fd_Box___init__) : FnOk P w K mg base CX0 8 f fd ["picture"] (sp_edges K) := F.okk (N := ["picture", "upright", "level"]) (pk_edges K).2 rfl rfl (by ac_rfl) fun nd _ _ _ _ _ _ hr => ⟨_, pss_cons (pst 1 nd (pcl A_count_cells.G hr A_count_cells.m A_count_cells.k A_count_cells.b (pa_cons (pe_methN A_Form_greater.cm A_Form_greater.G (hr.mono (by decide)) A_Form_greater.b pass0 (pe_makeN A_Box.n A_Box.M A_Box.G (hr.mono (by decide)) (by rfl) A_Box.g A_Box.b pass0 (pa_cons pe_int (pa_cons pe_int (pa_cons pe_int (pa_cons pe_int pa_nil))))) (pa_cons (pv 0) pa_nil)) pa_nil))) (pss_cons (pst 2 nd (pcl A_count_cells.G hr A_count_cells.m A_count_cells.k A_count_cells.b (pa_cons (pe_methN A_Form_greater.cm A_Form_greater.G (hr.mono (by decide)) A_Form_greater.b pass0 (pe_makeN A_Box.n A_Box.M A_Box.G (hr.mono (by decide)) (by rfl) A_Box.g A_Box.b pass0 (pa_cons pe_int (pa_cons pe_int (pa_cons pe_int (pa_cons pe_int pa_nil))))) (pa_cons (pv 0) pa_nil)) pa_nil))) (pss_one (ps_ret (pe_op op_addM (pv 1) (pv 2))))), rfl⟩
abbrev Q_edges := Ak CX0 8 "edges" ["picture"] sp_edges
theorem ok_told_number (F : Fun K "told_number" "told_number" s_told_number f fd) (T : Txt K mg) (A_corners : Q_corners P w K mg base f_corners fd_corners) (A_edges : Q_edges P w K mg base f_edges fd_edges) (A_count_cells : Q_count_cells P w K mg base f_count_cells fd_count_cells) : FnOk P w K mg base CX0 9 f fd ["picture"] (sp_told_number K) := F.okk (N := ["picture"]) (pk_told_number K).2 rfl rfl (by ac_rfl) fun nd _ _ _ _ _ _ hr => ⟨_, pss_one (ps_ret (pe_op op_addM (pe_op op_sub (pcl A_corners.G hr A_corners.m A_corners.k A_corners.b (pa_cons (pv 0) pa_nil)) (pcl A_edges.G hr A_edges.m A_edges.k A_edges.b (pa_cons (pv 0) pa_nil))) (pcl A_count_cells.G hr A_count_cells.m A_count_cells.k A_count_cells.b (pa_cons (pv 0) pa_nil)))), rfl⟩
abbrev Q_told_number := Ak CX0 9 "told_number" ["picture"] sp_told_number
theorem ok_law (F : Fun K "law" "law" s_law f fd) (T : Txt K mg) (A_Lpicture : Q_Lpicture P w K mg base f_Lpicture fd_Lpicture) (A_Lby_stretches : Q_Lby_stretches P w K mg base f_Lby_stretches fd_Lby_stretches) (A_Lcell_at : Q_Lcell_at P w K mg base f_Lcell_at fd_Lcell_at) (A_Lby_points : Q_Lby_points P w K mg base f_Lby_points fd_Lby_points) (A_Lwhole : Q_Lwhole P w K mg base f_Lwhole fd_Lwhole) (A_corners : Q_corners P w K mg base f_corners fd_corners) (A_edges : Q_edges P w K mg base f_edges fd_edges) (A_told_number : Q_told_number P w K mg base f_told_number fd_told_number) : FnOk P w K mg base CX0 10 f fd ["_law_script"] (sp_law K) := F.okk (N := ["_law_script", "_law_picture_here", "_law_due", "_law_again"]) (pk_law K).2 rfl rfl (by ac_rfl) fun nd _ _ _ _ _ _ hr => ⟨_, pss_cons (pst 1 nd (pcl A_Lpicture.G hr A_Lpicture.m A_Lpicture.k A_Lpicture.b (pa_cons (pv 0) (pa_cons pe_int pa_nil)))) (pss_cons (pst 2 nd (pcl A_Lby_stretches.G hr A_Lby_stretches.m A_Lby_stretches.k A_Lby_stretches.b (pa_cons (pv 1) pa_nil))) (pss_cons (ps_if (PW.pt (pw_and (ptc (op_neM hr.units) (pe_op op_mod (pcl A_Lcell_at.G hr A_Lcell_at.m A_Lcell_at.k A_Lcell_at.b (pa_cons (pv 0) (pa_cons pe_int pa_nil))) pe_int) pe_int) (pw_and1 (ptc (op_neM hr.units) (pcl A_Lby_points.G hr A_Lby_points.m A_Lby_points.k A_Lby_points.b (pa_cons (pv 1) pa_nil)) (pv 2))))) (pss_one (ps_ret pe_bl)) pss_nil) (pss_cons (ps_for PassesOwn.never rfl (pi_seq (pe_lst (pa_cons (pv 1) (pa_cons (pcl A_Lpicture.G hr A_Lpicture.m A_Lpicture.k A_Lpicture.b (pa_cons (pv 0) (pa_cons pe_int pa_nil))) pa_nil)))) (pgn 3 nd) (pss_cons (ps_if (PW.pt (pw_or (pt_not (pt_truth (pcl A_Lwhole.G hr A_Lwhole.m A_Lwhole.k A_Lwhole.b (pa_cons (pcl A_corners.G hr A_corners.m A_corners.k A_corners.b (pa_cons (pv 3) pa_nil)) (pa_cons (pix (pv 2) pe_int) pa_nil))) (fun _ => rfl))) (pw_or1 (pt_not (pt_truth (pcl A_Lwhole.G hr A_Lwhole.m A_Lwhole.k A_Lwhole.b (pa_cons (pcl A_edges.G hr A_edges.m A_edges.k A_edges.b (pa_cons (pv 3) pa_nil)) (pa_cons (pix (pv 2) pe_int) pa_nil))) (fun _ => rfl)))))) (pss_one (ps_ret pe_bl)) pss_nil) (pss_one (ps_if (pt_not (pt_truth (pcl A_Lwhole.G hr A_Lwhole.m A_Lwhole.k A_Lwhole.b (pa_cons (pcl A_told_number.G hr A_told_number.m A_told_number.k A_told_number.b (pa_cons (pv 3) pa_nil)) (pa_cons (pe_op op_addM (pe_op op_sub (pix (pv 2) pe_int) (pix (pv 2) pe_int)) (pix (pv 2) pe_int)) pa_nil))) (fun _ => rfl))) (pss_one (ps_ret pe_bl)) pss_nil)))) (pss_one (ps_ret pe_bl))))), rfl⟩
end
theorem all_mk {l : OpenLaw} {w : World} {K : Frag} {h : Heap} {mg : Str -> Option Value} {fa : Addr} (X : K.In h) (G : h.Ns mainGlobals mg) (hfa : mg "law" = some (.ref fa))
  (n_Box : nsIn K mainGlobals "Box" = some (some (.ref c_Box)))
  (n_Form : nsIn K mainGlobals "Form" = some (some (.ref c_Form)))
  (a_row_of : nsIn K mainGlobals "row_of" = some (some (.ref f_row_of)))
  (a_row_count : nsIn K mainGlobals "row_count" = some (some (.ref f_row_count)))
  (a_row_moved : nsIn K mainGlobals "row_moved" = some (some (.ref f_row_moved)))
  (a_picture_of : nsIn K mainGlobals "picture_of" = some (some (.ref f_picture_of)))
  (a_stretches_of : nsIn K mainGlobals "stretches_of" = some (some (.ref f_stretches_of)))
  (a_join : nsIn K mainGlobals "join" = some (some (.ref f_join)))
  (a_count_cells : nsIn K mainGlobals "count_cells" = some (some (.ref f_count_cells)))
  (a_moved : nsIn K mainGlobals "moved" = some (some (.ref f_moved)))
  (a_spread_down : nsIn K mainGlobals "spread_down" = some (some (.ref f_spread_down)))
  (a_greater_by_block : nsIn K mainGlobals "greater_by_block" = some (some (.ref f_greater_by_block)))
  (a_greater_by_part : nsIn K mainGlobals "greater_by_part" = some (some (.ref f_greater_by_part)))
  (a_corners : nsIn K mainGlobals "corners" = some (some (.ref f_corners)))
  (a_edges : nsIn K mainGlobals "edges" = some (some (.ref f_edges)))
  (a_told_number : nsIn K mainGlobals "told_number" = some (some (.ref f_told_number)))
  (a_Lcell_at : nsIn K mainGlobals "_law_cell_at" = some (some (.ref f_Lcell_at)))
  (a_Lsigned : nsIn K mainGlobals "_law_signed" = some (some (.ref f_Lsigned)))
  (a_Lrow : nsIn K mainGlobals "_law_row" = some (some (.ref f_Lrow)))
  (a_Lpicture : nsIn K mainGlobals "_law_picture" = some (some (.ref f_Lpicture)))
  (a_Lby_points : nsIn K mainGlobals "_law_by_points" = some (some (.ref f_Lby_points)))
  (a_Llength : nsIn K mainGlobals "_law_length" = some (some (.ref f_Llength)))
  (a_Lby_stretches : nsIn K mainGlobals "_law_by_stretches" = some (some (.ref f_Lby_stretches)))
  (a_Lwhole : nsIn K mainGlobals "_law_whole" = some (some (.ref f_Lwhole)))
  (a_law : nsIn K mainGlobals "law" = some (some (.ref f_law)))
  (a_Form___init__ : findIn K (.ref c_Form) "__init__" = some (some (.ref f_Form___init__)))
  (i_Form___init__ : isFn K (.ref f_Form___init__) = true)
  (a_Form_greater : findIn K (.ref c_Box) "greater" = some (some (.ref f_Form_greater)))
  (i_Form_greater : isFn K (.ref f_Form_greater) = true)
  (a_Box___init__ : findIn K (.ref c_Box) "__init__" = some (some (.ref f_Box___init__)))
  (i_Box___init__ : isFn K (.ref f_Box___init__) = true)
  (F_row_of : Fun K "row_of" "row_of" s_row_of f_row_of fd_row_of)
  (F_row_count : Fun K "row_count" "row_count" s_row_count f_row_count fd_row_count)
  (F_row_moved : Fun K "row_moved" "row_moved" s_row_moved f_row_moved fd_row_moved)
  (F_picture_of : Fun K "picture_of" "picture_of" s_picture_of f_picture_of fd_picture_of)
  (F_stretches_of : Fun K "stretches_of" "stretches_of" s_stretches_of f_stretches_of fd_stretches_of)
  (F_join : Fun K "join" "join" s_join f_join fd_join)
  (F_count_cells : Fun K "count_cells" "count_cells" s_count_cells f_count_cells fd_count_cells)
  (F_moved : Fun K "moved" "moved" s_moved f_moved fd_moved)
  (F_spread_down : Fun K "spread_down" "spread_down" s_spread_down f_spread_down fd_spread_down)
  (F_greater_by_block : Fun K "greater_by_block" "greater_by_block" s_greater_by_block f_greater_by_block fd_greater_by_block)
  (F_greater_by_part : Fun K "greater_by_part" "greater_by_part" s_greater_by_part f_greater_by_part fd_greater_by_part)
  (F_corners : Fun K "corners" "corners" s_corners f_corners fd_corners)
  (F_edges : Fun K "edges" "edges" s_edges f_edges fd_edges)
  (F_told_number : Fun K "told_number" "told_number" s_told_number f_told_number fd_told_number)
  (F_Lcell_at : Fun K "_law_cell_at" "_law_cell_at" s_Lcell_at f_Lcell_at fd_Lcell_at)
  (F_Lsigned : Fun K "_law_signed" "_law_signed" s_Lsigned f_Lsigned fd_Lsigned)
  (F_Lrow : Fun K "_law_row" "_law_row" s_Lrow f_Lrow fd_Lrow)
  (F_Lpicture : Fun K "_law_picture" "_law_picture" s_Lpicture f_Lpicture fd_Lpicture)
  (F_Lby_points : Fun K "_law_by_points" "_law_by_points" s_Lby_points f_Lby_points fd_Lby_points)
  (F_Llength : Fun K "_law_length" "_law_length" s_Llength f_Llength fd_Llength)
  (F_Lby_stretches : Fun K "_law_by_stretches" "_law_by_stretches" s_Lby_stretches f_Lby_stretches fd_Lby_stretches)
  (F_Lwhole : Fun K "_law_whole" "_law_whole" s_Lwhole f_Lwhole fd_Lwhole)
  (F_law : Fun K "law" "law" s_law f_law fd_law)
  (F_Form___init__ : Fun K "__init__" "Form.__init__" s_Form___init__ f_Form___init__ fd_Form___init__)
  (F_Form_greater : Fun K "greater" "Form.greater" s_Form_greater f_Form_greater fd_Form_greater)
  (F_Box___init__ : Fun K "__init__" "Box.__init__" s_Box___init__ f_Box___init__ fd_Box___init__)
  (pg_Box : plainGet K c_Box Str.empty = true)
  (hd_Box : hasDictIn K c_Box = true)
  (po_Box : plainOver K c_Box = true)
  (sa_Box : findIn K (.ref c_Box) "__setattr__" = some (some (.builtin "object.__setattr__")))
  (mk_Box : makesIn K c_Box = true)
  (kc_Box : keepIn K (.ref c_Box) = true)
  (np_Box : findIn K (.ref c_Box) "parts" = some none)
  (mm_Box_greater : findIn K (.ref c_Box) "greater" = some (some (.ref f_Form_greater)))
  (bs_Form : specialIn K (.ref c_Form) "__getattribute__" = some (some (.builtin "type.__getattribute__")))
  (br_Form : readsIn K c_Form (.type "type") = true)
  (bf_Form : findCls K (.ref c_Form) (.type "type") "__init__" = some (.val (.ref f_Form___init__)))
  (z_bool : nsIn K mainGlobals "bool" = some none)
  (z_int : nsIn K mainGlobals "int" = some none)
  (z_isinstance : nsIn K mainGlobals "isinstance" = some none)
  (z_len : nsIn K mainGlobals "len" = some none)
  (z_max : nsIn K mainGlobals "max" = some none)
  (z_min : nsIn K mainGlobals "min" = some none)
  (z_range : nsIn K mainGlobals "range" = some none)
  (z_reversed : nsIn K mainGlobals "reversed" = some none)
  (z_sorted : nsIn K mainGlobals "sorted" = some none)
  (z_sum : nsIn K mainGlobals "sum" = some none)
  (z_tuple : nsIn K mainGlobals "tuple" = some none)
  : ∃ fd : FuncData, (∀ (s : Shared) (v : Value), BindsTo s fd ⟨[v], []⟩ [("_law_script", v)]) /\ ∀ base : Heap, K.In base -> base.Ns mainGlobals mg -> FnOk l.prog w K mg base CX0 10 fa fd ["_law_script"] (sp_law K) := by
 have e := hfa.symm.trans (mg_of X G a_law)
 cases e
 have cN : ClsN K NS fun C => Cls K C /\ NoAttr K C "parts" := clsN_cons n_Box ⟨⟨pg_Box, hd_Box, po_Box, sa_Box⟩, np_Box⟩ (clsN_nil)
 have cm_Form_greater : ClsN K NS fun C => Cls K C /\ Meth K C "greater" f_Form_greater := clsN_cons n_Box ⟨⟨pg_Box, hd_Box, po_Box, sa_Box⟩, ⟨mm_Box_greater, i_Form_greater, F_Form_greater.kp⟩⟩ (clsN_nil)
 have T : Txt K mg := ⟨mg_none_of X G z_bool, mg_none_of X G z_int, mg_none_of X G z_isinstance, mg_none_of X G z_len, mg_none_of X G z_max, mg_none_of X G z_min, mg_none_of X G z_range, mg_none_of X G z_reversed, mg_none_of X G z_sorted, mg_none_of X G z_sum, mg_none_of X G z_tuple, cN⟩
 have M_Box : Mk K c_Box f_Box___init__ := ⟨mk_Box, a_Box___init__, i_Box___init__, kc_Box⟩
 have cf_Form : ClsFn K c_Form "__init__" f_Form___init__ := ⟨bs_Form, br_Form, bf_Form, F_Form___init__.kp⟩
 obtain ⟨_, _, _, _, _, _, _, _, _, hfd, _⟩ := F_law.ex
 refine ⟨fd_law, fun s v => .of_eq (by rw [hfd]; rfl), fun base _ _ => ?_⟩
 have b_Form___init__ : Binds K fd_Form___init__ ["self", "parts"] [] := F_Form___init__.binds fun _ _ _ _ _ _ us hl => by obtain ⟨_, _, rfl⟩ := us2 hl; rfl
 have AB_Form : QB_Form l.prog w K mg base _ _ _ := ⟨ok_Form___init__ F_Form___init__ T, b_Form___init__, cf_Form, mg_of X G n_Form⟩
 have b_Lby_points : Binds K fd_Lby_points ["_law_picture_here"] [] := F_Lby_points.binds fun _ _ _ _ _ _ us hl => by obtain ⟨_, rfl⟩ := us1 hl; rfl
 have A_Lby_points : Q_Lby_points l.prog w K mg base _ _ := ⟨ok_Lby_points F_Lby_points T, mg_of X G a_Lby_points, F_Lby_points.kp, b_Lby_points⟩
 have b_Lcell_at : Binds K fd_Lcell_at ["_law_script", "_law_k"] [] := F_Lcell_at.binds fun _ _ _ _ _ _ us hl => by obtain ⟨_, _, rfl⟩ := us2 hl; rfl
 have A_Lcell_at : Q_Lcell_at l.prog w K mg base _ _ := ⟨ok_Lcell_at F_Lcell_at T, mg_of X G a_Lcell_at, F_Lcell_at.kp, b_Lcell_at⟩
 have b_Llength : Binds K fd_Llength ["_law_stretches"] [] := F_Llength.binds fun _ _ _ _ _ _ us hl => by obtain ⟨_, rfl⟩ := us1 hl; rfl
 have A_Llength : Q_Llength l.prog w K mg base _ _ := ⟨ok_Llength F_Llength T, mg_of X G a_Llength, F_Llength.kp, b_Llength⟩
 have b_Lrow : Binds K fd_Lrow ["_law_bits", "_law_x", "_law_wide"] [] := F_Lrow.binds fun _ _ _ _ _ _ us hl => by obtain ⟨_, _, _, rfl⟩ := us3 hl; rfl
 have A_Lrow : Q_Lrow l.prog w K mg base _ _ := ⟨ok_Lrow F_Lrow T, mg_of X G a_Lrow, F_Lrow.kp, b_Lrow⟩
 have b_Lsigned : Binds K fd_Lsigned ["_law_cell", "_law_most"] [] := F_Lsigned.binds fun _ _ _ _ _ _ us hl => by obtain ⟨_, _, rfl⟩ := us2 hl; rfl
 have A_Lsigned : Q_Lsigned l.prog w K mg base _ _ := ⟨ok_Lsigned F_Lsigned T, mg_of X G a_Lsigned, F_Lsigned.kp, b_Lsigned⟩
 have b_Lwhole : Binds K fd_Lwhole ["_law_found", "_law_due"] [] := F_Lwhole.binds fun _ _ _ _ _ _ us hl => by obtain ⟨_, _, rfl⟩ := us2 hl; rfl
 have A_Lwhole : Q_Lwhole l.prog w K mg base _ _ := ⟨ok_Lwhole F_Lwhole T, mg_of X G a_Lwhole, F_Lwhole.kp, b_Lwhole⟩
 have b_row_count : Binds K fd_row_count ["row"] [] := F_row_count.binds fun _ _ _ _ _ _ us hl => by obtain ⟨_, rfl⟩ := us1 hl; rfl
 have A_row_count : Q_row_count l.prog w K mg base _ _ := ⟨ok_row_count F_row_count T, mg_of X G a_row_count, F_row_count.kp, b_row_count⟩
 have b_row_moved : Binds K fd_row_moved ["row", "by"] [] := F_row_moved.binds fun _ _ _ _ _ _ us hl => by obtain ⟨_, _, rfl⟩ := us2 hl; rfl
 have A_row_moved : Q_row_moved l.prog w K mg base _ _ := ⟨ok_row_moved F_row_moved T, mg_of X G a_row_moved, F_row_moved.kp, b_row_moved⟩
 have b_row_of : Binds K fd_row_of ["pairs"] [] := F_row_of.binds fun _ _ _ _ _ _ us hl => by obtain ⟨_, rfl⟩ := us1 hl; rfl
 have A_row_of : Q_row_of l.prog w K mg base _ _ := ⟨ok_row_of F_row_of T, mg_of X G a_row_of, F_row_of.kp, b_row_of⟩
 have b_stretches_of : Binds K fd_stretches_of ["picture"] [] := F_stretches_of.binds fun _ _ _ _ _ _ us hl => by obtain ⟨_, rfl⟩ := us1 hl; rfl
 have A_stretches_of : Q_stretches_of l.prog w K mg base _ _ := ⟨ok_stretches_of F_stretches_of T, mg_of X G a_stretches_of, F_stretches_of.kp, b_stretches_of⟩
 have b_Box___init__ : Binds K fd_Box___init__ ["self", "left", "up", "right", "down"] [] := F_Box___init__.binds fun _ _ _ _ _ _ us hl => by obtain ⟨_, _, _, _, _, rfl⟩ := us5 hl; rfl
 have A_Box : Q_Box l.prog w K mg base _ _ _ := ⟨ok_Box___init__ F_Box___init__ T AB_Form, b_Box___init__, n_Box, M_Box, mg_of X G n_Box⟩
 have b_Lby_stretches : Binds K fd_Lby_stretches ["_law_picture_here"] [] := F_Lby_stretches.binds fun _ _ _ _ _ _ us hl => by obtain ⟨_, rfl⟩ := us1 hl; rfl
 have A_Lby_stretches : Q_Lby_stretches l.prog w K mg base _ _ := ⟨ok_Lby_stretches F_Lby_stretches T A_Llength, mg_of X G a_Lby_stretches, F_Lby_stretches.kp, b_Lby_stretches⟩
 have b_Lpicture : Binds K fd_Lpicture ["_law_script", "_law_by"] [] := F_Lpicture.binds fun _ _ _ _ _ _ us hl => by obtain ⟨_, _, rfl⟩ := us2 hl; rfl
 have A_Lpicture : Q_Lpicture l.prog w K mg base _ _ := ⟨ok_Lpicture F_Lpicture T A_Lcell_at A_Lsigned A_Lrow, mg_of X G a_Lpicture, F_Lpicture.kp, b_Lpicture⟩
 have b_count_cells : Binds K fd_count_cells ["picture"] [] := F_count_cells.binds fun _ _ _ _ _ _ us hl => by obtain ⟨_, rfl⟩ := us1 hl; rfl
 have A_count_cells : Q_count_cells l.prog w K mg base _ _ := ⟨ok_count_cells F_count_cells T A_row_count, mg_of X G a_count_cells, F_count_cells.kp, b_count_cells⟩
 have b_moved : Binds K fd_moved ["picture", "dx", "dy"] [] := F_moved.binds fun _ _ _ _ _ _ us hl => by obtain ⟨_, _, _, rfl⟩ := us3 hl; rfl
 have A_moved : Q_moved l.prog w K mg base _ _ := ⟨ok_moved F_moved T A_row_moved, mg_of X G a_moved, F_moved.kp, b_moved⟩
 have b_picture_of : Binds K fd_picture_of ["stretches"] [] := F_picture_of.binds fun _ _ _ _ _ _ us hl => by obtain ⟨_, rfl⟩ := us1 hl; rfl
 have A_picture_of : Q_picture_of l.prog w K mg base _ _ := ⟨ok_picture_of F_picture_of T A_row_of, mg_of X G a_picture_of, F_picture_of.kp, b_picture_of⟩
 have b_join : Binds K fd_join ["one", "other"] [] := F_join.binds fun _ _ _ _ _ _ us hl => by obtain ⟨_, _, rfl⟩ := us2 hl; rfl
 have A_join : Q_join l.prog w K mg base _ _ := ⟨ok_join F_join T A_picture_of A_stretches_of, mg_of X G a_join, F_join.kp, b_join⟩
 have b_spread_down : Binds K fd_spread_down ["picture", "by"] [] := F_spread_down.binds fun _ _ _ _ _ _ us hl => by obtain ⟨_, _, rfl⟩ := us2 hl; rfl
 have A_spread_down : Q_spread_down l.prog w K mg base _ _ := ⟨ok_spread_down F_spread_down T A_join A_moved, mg_of X G a_spread_down, F_spread_down.kp, b_spread_down⟩
 have b_greater_by_block : Binds K fd_greater_by_block ["picture", "block"] [] := F_greater_by_block.binds fun _ _ _ _ _ _ us hl => by obtain ⟨_, _, rfl⟩ := us2 hl; rfl
 have A_greater_by_block : Q_greater_by_block l.prog w K mg base _ _ := ⟨ok_greater_by_block F_greater_by_block T A_stretches_of A_spread_down A_picture_of, mg_of X G a_greater_by_block, F_greater_by_block.kp, b_greater_by_block⟩
 have b_greater_by_part : Binds K fd_greater_by_part ["picture", "blocks"] [] := F_greater_by_part.binds fun _ _ _ _ _ _ us hl => by obtain ⟨_, _, rfl⟩ := us2 hl; rfl
 have A_greater_by_part : Q_greater_by_part l.prog w K mg base _ _ := ⟨ok_greater_by_part F_greater_by_part T A_greater_by_block A_picture_of, mg_of X G a_greater_by_part, F_greater_by_part.kp, b_greater_by_part⟩
 have b_Form_greater : Binds K fd_Form_greater ["self", "picture"] [] := F_Form_greater.binds fun _ _ _ _ _ _ us hl => by obtain ⟨_, _, rfl⟩ := us2 hl; rfl
 have A_Form_greater : Q_Form_greater l.prog w K mg base _ _ := ⟨ok_Form_greater F_Form_greater T A_greater_by_part, b_Form_greater, cm_Form_greater⟩
 have b_corners : Binds K fd_corners ["picture"] [] := F_corners.binds fun _ _ _ _ _ _ us hl => by obtain ⟨_, rfl⟩ := us1 hl; rfl
 have A_corners : Q_corners l.prog w K mg base _ _ := ⟨ok_corners F_corners T A_count_cells A_Form_greater A_Box, mg_of X G a_corners, F_corners.kp, b_corners⟩
 have b_edges : Binds K fd_edges ["picture"] [] := F_edges.binds fun _ _ _ _ _ _ us hl => by obtain ⟨_, rfl⟩ := us1 hl; rfl
 have A_edges : Q_edges l.prog w K mg base _ _ := ⟨ok_edges F_edges T A_count_cells A_Form_greater A_Box, mg_of X G a_edges, F_edges.kp, b_edges⟩
 have b_told_number : Binds K fd_told_number ["picture"] [] := F_told_number.binds fun _ _ _ _ _ _ us hl => by obtain ⟨_, rfl⟩ := us1 hl; rfl
 have A_told_number : Q_told_number l.prog w K mg base _ _ := ⟨ok_told_number F_told_number T A_corners A_edges A_count_cells, mg_of X G a_told_number, F_told_number.kp, b_told_number⟩
 exact ok_law F_law T A_Lpicture A_Lby_stretches A_Lcell_at A_Lby_points A_Lwhole A_corners A_edges A_told_number
theorem walk {l : OpenLaw} {q : Program} {loose : List Str} {XP : (Str -> Option Value) -> Heap -> Prop} {YP : World -> Heap -> Prop} {d : DefRec} {K : Params -> Frag} (hn : l.most = some 63) (hdf : d.params.defaults = [])
  (hY : ∀ (w : World) (h : Heap), YP w h -> (K w.params).In h)
  (F : ∀ (w : World) (mg : Str -> Option Value) (fa : Addr) (h : Heap), (K w.params).In h -> h.Ns mainGlobals mg -> mg d.name = some (.ref fa) ->
   ∃ fd : FuncData, (∀ (s : Shared) (u : Value), BindsTo s fd ⟨[u], []⟩ [("_law_script", u)]) /\ ∀ base : Heap, (K w.params).In base -> base.Ns mainGlobals mg -> FnOk l.prog w (K w.params) mg base CX0 10 fa fd ["_law_script"] (sp_law (K w.params))) :
  WalkO q loose XP YP l.row.toRowW d [] (fun f vs => PySem.call f vs) :=
 L2.walk_of (n := 63) (k := 10) (x := "_law_script") (CX := fun _ => CX0) (sp := fun w => sp_law (K w.params)) hn (by decide) hdf ⟨rfl, by decide, by decide⟩ hY F (fun _ H a ns hl _ hS => M.sp_script hS (m_law_is ns hl)) fun _ _ _ _ _ z => z
end Lw
open PySem PySem.W PyProof.Rows
def Hd.q : Program := view PySem.Challenge.pw_shapethin_k48_corners_and_edges [0, 2, 3, 5, 6, 7, 9, 10, 11, 12, 13, 15, 16, 17, 18, 19, 21, 22, 23, 25, 26, 27, 28, 29, 30, 31, 32, 33]
local macro_rules | `(tactic| o_head $H) => `(tactic| (refine holds_open (q := Hd.q) (loose := []) (Xt := fun s => xlAt Hd.q [] s && recOk (RowW.records (OpenRow.toRowW (OpenLaw.row PySem.Challenge.rw_shapethin_k48_corners_and_edges))) s) (XP := XL Hd.q []) (Yf := Hook.obs $H) (Ya := Hook.val $H) (YP := Hook.says $H) (N := 100000) ?hl (Hook.of $H) (Hook.keeps $H) (fun s e => xl_of s (Bool.and_eq_true_iff.mp e).1) XL.keeps (by rfl) (by rfl) (by rfl) (fun s e => recFacts_of (Bool.and_eq_true_iff.mp e).2) (by rfl) (by assumption) (by decide +kernel) ⟨rfl, rfl, rfl, rfl, rfl, by decide +kernel⟩ ?hw ?hc; (case hl => exact Hd.left_tw (boot_open (by rfl) rfl (fun s => rfl)) (by intro w; kernel_rfl)); (case hw => w_witness2)))
set_option maxRecDepth 100000 in
set_option maxHeartbeats 0 in
theorem PySem.Challenge.cw_shapethin_k48_corners_and_edges_holds : PySem.Challenge.rw_shapethin_k48_corners_and_edges.Holds := by
 w_on; refine holds_law (Hd.said_of (by kernel_rfl)) fun said => ?_; k_head
 k_fill
 refine Lw.walk (l := PySem.Challenge.rw_shapethin_k48_corners_and_edges) rfl rfl (fun w h Y => kIn_of Y) ?F
 case F =>
  intro w mg fa h KX G hmg
  refine' Lw.all_mk KX G hmg ?x0 ?x1 ?x2 ?x3 ?x4 ?x5 ?x6 ?x7 ?x8 ?x9 ?x10 ?x11 ?x12 ?x13 ?x14 ?x15 ?x16 ?x17 ?x18 ?x19 ?x20 ?x21 ?x22 ?x23 ?x24 ?x25 ?x26 ?x27 ?x28 ?x29 ?x30 ?x31 ?x32 ?x33 ?x34 ?x35 ?x36 ?x37 ?x38 ?x39 ?x40 ?x41 ?x42 ?x43 ?x44 ?x45 ?x46 ?x47 ?x48 ?x49 ?x50 ?x51 ?x52 ?x53 ?x54 ?x55 ?x56 ?x57 ?x58 ?x59 ?x60 ?x61 ?x62 ?x63 ?x64 ?x65 ?x66 ?x67 ?x68 ?x69 ?x70 ?x71 ?x72 ?x73 ?x74 ?x75 ?x76 ?x77 ?x78
  case x0 | x1 | x2 | x3 | x4 | x5 | x6 | x7 | x8 | x9 | x10 | x11 | x12 | x13 | x14 | x15 | x16 | x17 | x18 | x19 | x20 | x21 | x22 | x23 | x24 | x25 | x26 | x27 | x28 | x29 | x30 => k_is
  case x31 | x32 | x33 | x34 | x35 | x36 | x37 | x38 | x39 | x40 | x41 | x42 | x43 | x44 | x45 | x46 | x47 | x48 | x49 | x50 | x51 | x52 | x53 | x54 | x55 | x56 => exact L2.fun_mk (by k_is) (by k_is) (by k_is)
  case x57 | x58 | x59 | x60 | x61 | x62 | x63 | x64 | x65 | x66 | x67 | x68 | x69 | x70 | x71 | x72 | x73 | x74 | x75 | x76 | x77 | x78 => k_is

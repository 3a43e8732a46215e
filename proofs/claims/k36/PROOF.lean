import PyProof.Rows.All
import Wide.All
import OpenK.AllK
import Wide.FinOn
import Lean
import PyProof.EqAt
import PyProof.EqKinds
import PyProof.TupleCall
import PySem.Challenge.RW_shapethin_k36_no_forms
set_option genSizeOf false
set_option bootstrap.genMatcherCode false
set_option compiler.extract_closed false
set_option Elab.async false
set_option linter.all false
set_option maxRecDepth 100000
namespace L2
open PySem PySem.Spec PyProof.Rows
noncomputable abbrev Key := Sum Int Str
noncomputable def keyIs : Key → Value → Bool
  | .inl k, v => Value.isInt k v
  | .inr x, v => Value.isStrOf x v
noncomputable def keyH (w : World) : Key → Int
  | .inl k => hashInt k
  | .inr x => hashStr w x
theorem keyIs_shape : ∀ {k : Key} {v : Value}, keyIs k v = true → (∃ i t, k = Sum.inl i ∧ v = Value.int i t) ∨ (∃ x t, k = Sum.inr x ∧ v = Value.str x t)
  | .inl i, v, h => by
    obtain ⟨t, e⟩ := Value.isInt_shape (k := i) (v := v) h
    exact .inl ⟨i, t, rfl, e⟩
  | .inr x, v, h => by
    obtain ⟨t, e⟩ := Value.isStrOf_shape (x := x) (v := v) h
    exact .inr ⟨x, t, rfl, e⟩
theorem key_ll (a b : Int) : decide ((Sum.inl a : Key) = Sum.inl b) = (a == b) := by
  by_cases e : a = b
  · subst e; simp
  · have h : ¬ (Sum.inl a : Key) = Sum.inl b := fun q => e (Sum.inl.inj q)
    rw [decide_eq_false h]
    exact (beq_eq_false_iff_ne.mpr e).symm
theorem key_rr (a b : Str) : decide ((Sum.inr a : Key) = Sum.inr b) = decide (a = b) := by
  by_cases e : a = b
  · subst e; simp
  · have h : ¬ (Sum.inr a : Key) = Sum.inr b := fun q => e (Sum.inr.inj q)
    rw [decide_eq_false h, decide_eq_false e]
theorem key_lr (a : Int) (b : Str) : decide ((Sum.inl a : Key) = Sum.inr b) = false := decide_eq_false (fun q => nomatch q)
theorem key_rl (a : Str) (b : Int) : decide ((Sum.inr a : Key) = Sum.inl b) = false := decide_eq_false (fun q => nomatch q)
noncomputable def mixKind (prog : Program) (w : World) : PySem.KeyKind prog w Key where
  is := keyIs
  hash := keyH w
  inj := fun v a b ha hb => by
    rcases keyIs_shape ha with ⟨i, t, rfl, rfl⟩ | ⟨x, t, rfl, rfl⟩
    · rcases keyIs_shape hb with ⟨j, u, rfl, e⟩ | ⟨y, u, rfl, e⟩
      · injection e with e1 _; rw [e1]
      · exact nomatch e
    · rcases keyIs_shape hb with ⟨j, u, rfl, e⟩ | ⟨y, u, rfl, e⟩
      · exact nomatch e
      · injection e with e1 _; rw [e1]
  byValue := fun k v h => by
    rcases keyIs_shape h with ⟨i, t, rfl, rfl⟩ | ⟨x, t, rfl, rfl⟩ <;> rfl
  pyHash := fun hv h => by
    rcases keyIs_shape hv with ⟨i, t, rfl, rfl⟩ | ⟨x, t, rfl, rfl⟩
    · exact wpAny_pyHash_int h
    · exact wpAny_pyHash_str h
  eqBool := fun hu hv h => by
    rcases keyIs_shape hu with ⟨i, t, rfl, rfl⟩ | ⟨x, t, rfl, rfl⟩
    · rcases keyIs_shape hv with ⟨j, u, rfl, rfl⟩ | ⟨y, u, rfl, rfl⟩
      · rw [key_ll] at h; exact wpAny_eqBool_int h
      · rw [key_lr] at h; exact SeqAt.EqAt.int_str i t y u _ _ _ _ h
    · rcases keyIs_shape hv with ⟨j, u, rfl, rfl⟩ | ⟨y, u, rfl, rfl⟩
      · rw [key_rl] at h; exact SeqAt.EqAt.str_int x t j u _ _ _ _ h
      · rw [key_rr] at h; exact wpAny_eqBool_str h
  «strs» := fun k x t v h => by
    rcases keyIs_shape h with ⟨i, u, rfl, e⟩ | ⟨y, u, rfl, e⟩
    · exact nomatch e
    · injection e with e1 _
      subst e1
      cases v <;> rfl
end L2
namespace L2
open PySem PySem.Spec PyProof.Rows
inductive V where
  | non | bl (b : Bool) | int (i : Int) | str (x : Str) | byt (b : Array UInt8) | flt (b : UInt64) | ref (a : Addr) | ty (n : String)
  deriving DecidableEq
noncomputable def RelV : V → Value → Prop
  | .non, u => u = Value.none
  | .bl b, u => u = Value.bool b
  | .int i, u => ∃ t, u = Value.int i t
  | .str x, u => ∃ t, u = Value.str x t
  | .byt b, u => ∃ t, u = Value.bytes b t
  | .flt b, u => ∃ t, u = Value.float b t
  | .ref a, u => u = Value.ref a
  | .ty n, u => u = Value.type n
noncomputable abbrev Vals : List V → List Value → Prop := Paired RelV
theorem Vals.length {xs : List V} {us : List Value} (r : Vals xs us) : xs.length = us.length := Paired.length r
theorem Vals.get : ∀ {xs : List V} {us : List Value} {i : Nat} {x : V}, Vals xs us → xs[i]? = some x → ∃ u, us[i]? = some u ∧ RelV x u
  | _, _, _, _, .nil, e => by simp at e
  | _, _, 0, _, .cons r _, e => by simp at e; subst e; exact ⟨_, rfl, r⟩
  | _, _, i + 1, x, .cons _ t, e => by
    obtain ⟨u, h1, h2⟩ := Vals.get (i := i) (x := x) t (by simpa using e)
    exact ⟨u, by simpa using h1, h2⟩
theorem Vals.set {x : V} {u : Value} (r : RelV x u) : ∀ {xs : List V} {us : List Value} (i : Nat), Vals xs us → Vals (xs.set i x) (us.set i u)
  | _, _, _, .nil => .nil
  | _, _, 0, .cons _ t => .cons r t
  | _, _, i + 1, .cons q t => .cons q (Vals.set r i t)
theorem Vals.append : ∀ {xs ys : List V} {us ws : List Value}, Vals xs us → Vals ys ws → Vals (xs ++ ys) (us ++ ws)
  | _, _, _, _, .nil, s => s
  | _, _, _, _, .cons r t, s => .cons r (Vals.append t s)
theorem Vals.take : ∀ {xs : List V} {us : List Value} (n : Nat), Vals xs us → Vals (xs.take n) (us.take n)
  | _, _, 0, _ => .nil
  | _, _, _ + 1, .nil => .nil
  | _, _, n + 1, .cons r t => .cons r (Vals.take n t)
theorem Vals.drop : ∀ {xs : List V} {us : List Value} (n : Nat), Vals xs us → Vals (xs.drop n) (us.drop n)
  | _, _, 0, r => r
  | _, _, _ + 1, .nil => .nil
  | _, _, n + 1, .cons _ t => Vals.drop n t
noncomputable def RelO : Option V → Option Value → Prop
  | some v, some u => RelV v u
  | none, none => True
  | _, _ => False
noncomputable def KV {κ : Type} : List (κ × V) → List (κ × Value) → Prop := Paired fun (p : κ × V) (q : κ × Value) => p.1 = q.1 ∧ RelV p.2 q.2
noncomputable def kV : Key → V
  | .inl i => .int i
  | .inr x => .str x
inductive HO where
    | lst (xs : List V)
    | tup (xs : List V)
    | dK (kvs : List (Key × V)) | dT (kvs : List (List Key × V))
    | set (S : Int → Bool) (n : Nat)
    | ins (C dx : Addr) (fs : List (Str × V))
    | own (x : Addr)
    | xd (fs : List (Str × V))
    | met (f x : Addr)
    | rng (lo hi : Int)
    | frz (o : Obj) (u : HO)
    | tbl (ps : Array Value)
    | ext (φ : Heap → Prop)
noncomputable abbrev Hp := Addr → Option HO
noncomputable def upd (H : Hp) (a : Addr) (o : HO) : Hp := fun b => if b = a then some o else H b
theorem upd_same {H : Hp} {a : Addr} {o : HO} : upd H a o a = some o := by unfold upd; rw [if_pos rfl]
theorem upd_ne {H : Hp} {a b : Addr} {o : HO} (h : b ≠ a) : upd H a o b = H b := by unfold upd; rw [if_neg h]
theorem ne_of_none {H : Hp} {a b : Addr} {o : HO} (h : H a = some o) (h' : H b = none) : a ≠ b := by
  intro e; subst e; rw [h] at h'; cases h'
section
variable (P : Program) (w : World)
noncomputable def ObjOk (H : Hp) (h : Heap) (a : Addr) : HO → Prop
  | .lst xs => xs.length ≤ sizeLine ∧ ∃ (its : List Value) (n : Nat), Vals xs its ∧ h.get? a = some { cls := .type "list", data := .seq its.toArray n }
  | .tup xs => xs.length ≤ sizeLine ∧ ∃ its : List Value, Vals xs its ∧ IsTup h a its.toArray
  | .dK kvs => kvs.length ≤ sizeLine ∧ (a == sysModules) = false ∧ ∃ vs, KV kvs vs ∧ h.DictOf (mixKind P w) a vs
  | .dT kvs => kvs.length ≤ sizeLine ∧ (a == sysModules) = false ∧ ∃ xs : List (List Key × Addr × Value),
      Paired (fun (p : List Key × V) (q : List Key × Addr × Value) => p.1 = q.1 ∧ H q.2.1 = some (.tup (p.1.map kV)) ∧ RelV p.2 q.2.2) kvs xs ∧
      ∃ o es ep, h.get? a = some o ∧ o.ExactDict ∧ o.data = .dict es ep ∧ es.toList = xs.map (entryOfKey (tupleKind (mixKind P w))) ∧ (xs.map (·.1)).Nodup
  | .set S n => h.SetOf (intKind P w) a S n
  | .ins C dx fs => H dx = some (.own a) ∧ fs.length ≤ 1000 ∧ dx ≠ a ∧ h.get? a = some (PySem.W.instObj C dx) ∧
      ∃ mA, h.Ns1 dx mA ∧ (∀ f, RelO (fs.lookup f) (mA f)) ∧ PySem.Within mA (fs.map (·.1))
  | .own _ => ∃ o, h.get? a = some o
  | .xd fs => ∃ mA, h.Ns1 a mA ∧ ∀ f, RelO (fs.lookup f) (mA f)
  | .rng lo hi => ∃ t u v, h.get? a = some { cls := .type "range", data := .fields #[.int lo t, .int hi u, .int 1 v] }
  | .frz o u => h.get? a = some o ∧ ObjOk H h a u
  | .tbl ps => h.get? a = some { cls := .none, data := .fields ps }
  | .met f x => h.get? a = some (PySem.W.methodObj (.ref f) (.ref x))
  | .ext φ => φ h ∧ (∃ o, h.get? a = some o) ∧ ∀ h1 h2 : Heap, φ h1 → (∀ o, h1.get? a = some o → h2.get? a = some o) → φ h2
noncomputable def HOk (H : Hp) (h : Heap) : Prop := ∀ a o, H a = some o → ObjOk P w H h a o
end
section
variable {P : Program} {w : World} {H H' : Hp} {h h' : Heap} {a : Addr} {o : HO}
theorem ObjOk.lt (x : ObjOk P w H h a o) : a < h.objs.size := by
  cases o with
  | lst xs => obtain ⟨_, _, _, _, e⟩ := x; exact Heap.lt_size e
  | tup xs => obtain ⟨_, _, _, p⟩ := x; exact p.lt
  | dK kvs => obtain ⟨_, _, _, _, o, _, _, e, _⟩ := x; exact Heap.lt_size e
  | dT kvs => obtain ⟨_, _, _, _, o, _, _, e, _⟩ := x; exact Heap.lt_size e
  | set S n => obtain ⟨o, _, _, _, e, _⟩ := x; exact Heap.lt_size e
  | ins C dx fs => obtain ⟨_, _, _, e, _⟩ := x; exact Heap.lt_size e
  | own y => obtain ⟨_, e⟩ := x; exact Heap.lt_size e
  | xd fs => obtain ⟨_, ⟨_, _, _, e, _⟩, _⟩ := x; exact Heap.lt_size e
  | rng lo hi => obtain ⟨_, _, _, e⟩ := x; exact Heap.lt_size e
  | frz ob u => obtain ⟨e, _⟩ := x; exact Heap.lt_size e
  | tbl ps => exact Heap.lt_size (show h.get? a = some _ from x)
  | met f y => exact Heap.lt_size (show h.get? a = some _ from x)
  | ext φ => obtain ⟨_, ⟨_, e⟩, _⟩ := x; exact Heap.lt_size e
theorem Paired.mapP {α β : Type} {F G : α → β → Prop} : ∀ {l₁ : List α} {l₂ : List β}, Paired F l₁ l₂ → (∀ a b, F a b → G a b) → Paired G l₁ l₂
  | _, _, .nil, _ => .nil
  | _, _, .cons r t, f => .cons (f _ _ r) (Paired.mapP t f)
theorem ObjOk.stay (x : ObjOk P w H h a o) (k : ∀ b u, (b = a ∨ H b = some (.own a)) → h.get? b = some u → h'.get? b = some u)
    (ho : ∀ b, H b = some (.own a) → H' b = some (.own a)) (ht : ∀ b xs, H b = some (.tup xs) → H' b = some (.tup xs)) : ObjOk P w H' h' a o := by
  induction o with
  | lst xs => obtain ⟨z, its, n, r, e⟩ := x; exact ⟨z, its, n, r, k _ _ (.inl rfl) e⟩
  | tup xs => obtain ⟨z, its, r, ob, e, c⟩ := x; exact ⟨z, its, r, ob, k _ _ (.inl rfl) e, c⟩
  | dK kvs => obtain ⟨z, y, vs, r, ob, es, ep, e, c⟩ := x; exact ⟨z, y, vs, r, ob, es, ep, k _ _ (.inl rfl) e, c⟩
  | dT kvs =>
    obtain ⟨z, y, xs, r, ob, es, ep, e, c⟩ := x
    exact ⟨z, y, xs, Paired.mapP r fun p q z => ⟨z.1, ht _ _ z.2.1, z.2.2⟩, ob, es, ep, k _ _ (.inl rfl) e, c⟩
  | set S n => obtain ⟨ob, es, ep, t, e, c⟩ := x; exact ⟨ob, es, ep, t, k _ _ (.inl rfl) e, c⟩
  | ins C dx fs =>
    obtain ⟨d, z, ne, e, mA, ⟨od, es, ep, e2, c⟩, r⟩ := x
    exact ⟨ho _ d, z, ne, k _ _ (.inl rfl) e, mA, ⟨od, es, ep, k _ _ (.inr d) e2, c⟩, r⟩
  | own y => obtain ⟨ob, e⟩ := x; exact ⟨ob, k _ _ (.inl rfl) e⟩
  | xd fs => obtain ⟨mA, ⟨od, es, ep, e, c⟩, r⟩ := x; exact ⟨mA, ⟨od, es, ep, k _ _ (.inl rfl) e, c⟩, r⟩
  | rng lo hi => obtain ⟨t, u, v, e⟩ := x; exact ⟨t, u, v, k _ _ (.inl rfl) e⟩
  | frz ob u ih => obtain ⟨e, q⟩ := x; exact ⟨k _ _ (.inl rfl) e, ih q⟩
  | tbl ps =>
    have e : h.get? a = some { cls := .none, data := .fields ps } := x
    show h'.get? a = some { cls := .none, data := .fields ps }
    exact k a _ (.inl rfl) e
  | met f y =>
    have e : h.get? a = some (PySem.W.methodObj (.ref f) (.ref y)) := x
    show h'.get? a = some (PySem.W.methodObj (.ref f) (.ref y))
    exact k a _ (.inl rfl) e
  | ext φ => obtain ⟨p, ⟨o, e⟩, st⟩ := x; exact ⟨st _ _ p fun o q => k _ _ (.inl rfl) q, ⟨o, k _ _ (.inl rfl) e⟩, st⟩
theorem HOk.lt (x : HOk P w H h) (e : H a = some o) : a < h.objs.size := (x a o e).lt
theorem HOk.fresh (x : HOk P w H h) (e : h.objs.size ≤ a) : H a = none := by
  cases q : H a with
  | none => rfl
  | some u => exact absurd (Nat.lt_of_lt_of_le (x.lt q) e) (Nat.lt_irrefl _)
theorem HOk.kept (x : HOk P w H h) (k : ∀ b u, h.get? b = some u → h'.get? b = some u) : HOk P w H h' := fun a o e =>
  (x a o e).stay (fun b u _ q => k b u q) (fun _ q => q) fun _ _ q => q
theorem HOk.laid (x : HOk P w H h) (k : ∀ b u, h.get? b = some u → h'.get? b = some u) (hp : h.objs.size ≤ a) (new : ObjOk P w (upd H a o) h' a o) : HOk P w (upd H a o) h' := fun b u e => by
  have hn := x.fresh hp
  by_cases hb : b = a
  · subst hb; rw [upd_same] at e; cases e; exact new
  · rw [upd_ne hb] at e
    exact (x b u e).stay (fun c v _ q => k c v q) (fun c q => by rw [upd_ne (ne_of_none q hn)]; exact q) fun c xs q => by rw [upd_ne (ne_of_none q hn)]; exact q
end
noncomputable def Rd (H : Hp) (a : Addr) (u : HO) : Prop := H a = some u ∨ ∃ o, H a = some (.frz o u)
theorem Rd.ok {P : Program} {w : World} {H : Hp} {h : Heap} {a : Addr} {u : HO} (r : Rd H a u) (x : HOk P w H h) : ObjOk P w H h a u := by
  rcases r with r | ⟨o, r⟩
  · exact x a u r
  · obtain ⟨_, q⟩ := x a _ r
    exact q
noncomputable def Mut : Option HO → Prop
  | some (.lst _) => True
  | some (.dK _) => True
  | some (.dT _) => True
  | some (.set _ _) => True
  | some (.ins _ _ _) => True
  | some (.ext _) => True
  | _ => False
section
variable {P : Program} {w : World} {H : Hp} {h h' : Heap} {x e : Addr} {o' : HO}
theorem HOk.write (ok : HOk P w H h) (mu : Mut (H x)) (he : e = x ∨ H e = some (.own x)) (k : ∀ b u, b ≠ e → h.get? b = some u → h'.get? b = some u) (heo : ∃ u, h'.get? e = some u)
    (new : ObjOk P w (upd H x o') h' x o') : HOk P w (upd H x o') h' := fun b u q => by
  have nown : ∀ c y, H c = some (.own y) → c ≠ x := fun c y r z => by subst z; rw [r] at mu; exact mu
  have ntup : ∀ c xs, H c = some (.tup xs) → c ≠ x := fun c xs r z => by subst z; rw [r] at mu; exact mu
  by_cases hb : b = x
  · subst hb; rw [upd_same] at q; cases q; exact new
  · rw [upd_ne hb] at q
    by_cases hbe : b = e
    · have q' : H b = some (.own x) := by
        rcases he with z | z
        · exact absurd (hbe.trans z) hb
        · rw [hbe]; exact z
      rw [q] at q'; cases q'
      obtain ⟨v, hv⟩ := heo
      exact ⟨v, by rw [hbe]; exact hv⟩
    · refine (ok b u q).stay (fun c v hc r => k c v ?_ r) (fun c r => by rw [upd_ne (nown c b r)]; exact r) fun c xs r => by rw [upd_ne (ntup c xs r)]; exact r
      rcases hc with rfl | hc
      · exact hbe
      · rintro rfl
        rcases he with z | z
        · exact nown c b hc z
        · rw [hc] at z; cases z; exact hb rfl
end
structure Un (fs ex : List Addr) (H H' : Hp) (h h' : Heap) : Prop where
  keep : ∀ b o, h.get? b = some o → H b = none → b ∉ fs → b ∉ ex → h'.get? b = some o
  slot : ∀ b o, h.get? b = some o → H b = none → b ∈ fs → b ∉ ex → ∃ sl, h'.get? b = some { o with slots := sl }
  free : ∀ b o, h.get? b = some o → H b = none → b ∉ ex → H' b = none
  there : ∀ b o, h.get? b = some o → b ∉ ex → ∃ o', h'.get? b = some o'
  tups : ∀ b xs, H b = some (.tup xs) → H' b = some (.tup xs)
  frzs : ∀ b o u, H b = some (.frz o u) → H' b = some (.frz o u)
  tbls : ∀ b ps, H b = some (.tbl ps) → ∃ more, H' b = some (.tbl (ps ++ more))
section
variable {fs fs' ex ex' : List Addr} {H H1 H2 : Hp} {h h1 h2 h' : Heap} {a x e : Addr} {o : HO}
theorem Un.any (u : Un fs ex H H1 h h1) {b : Addr} {ob : Obj} (q : h.get? b = some ob) (n : H b = none) (hx : b ∉ ex) : ∃ sl, h1.get? b = some { ob with slots := sl } := by
  by_cases hb : b ∈ fs
  · exact u.slot b ob q n hb hx
  · exact ⟨ob.slots, u.keep b ob q n hb hx⟩
theorem Un.trans (a : Un fs ex H H1 h h1) (b : Un fs ex H1 H2 h1 h2) : Un fs ex H H2 h h2 where
  keep := fun c ob q n hc hx => b.keep c ob (a.keep c ob q n hc hx) (a.free c ob q n hx) hc hx
  slot := fun c ob q n hc hx => by
    obtain ⟨sl, e1⟩ := a.slot c ob q n hc hx
    obtain ⟨sl', e2⟩ := b.slot c _ e1 (a.free c ob q n hx) hc hx
    exact ⟨sl', e2⟩
  free := fun c ob q n hx => by
    obtain ⟨o', e1⟩ := a.there c ob q hx
    exact b.free c o' e1 (a.free c ob q n hx) hx
  there := fun c ob q hx => by
    obtain ⟨o', e1⟩ := a.there c ob q hx
    exact b.there c o' e1 hx
  tups := fun c xs q => b.tups c xs (a.tups c xs q)
  frzs := fun c ob xs q => b.frzs c ob xs (a.frzs c ob xs q)
  tbls := fun c ps q => by
    obtain ⟨m1, e1⟩ := a.tbls c ps q
    obtain ⟨m2, e2⟩ := b.tbls c _ e1
    exact ⟨m1 ++ m2, by rw [e2, Array.append_assoc]⟩
theorem Un.kept (k : ∀ b u, h.get? b = some u → h'.get? b = some u) : Un fs ex H H h h' :=
  ⟨fun b ob q _ _ _ => k b ob q, fun b ob q _ _ _ => ⟨ob.slots, k b ob q⟩, fun _ _ _ n _ => n, fun b ob q _ => ⟨ob, k b ob q⟩, fun _ _ q => q, fun _ _ _ q => q, fun _ ps q => ⟨#[], by rw [q]; simp⟩⟩
theorem Un.refl : Un fs ex H H h h := Un.kept fun _ _ q => q
theorem Un.laid (k : ∀ b u, h.get? b = some u → h'.get? b = some u) (hp : h.objs.size ≤ a) (hn : H a = none) : Un fs ex H (upd H a o) h h' where
  keep := fun b u q _ _ _ => k b u q
  slot := fun b u q _ _ _ => ⟨u.slots, k b u q⟩
  free := fun b u q n _ => by rw [upd_ne (Nat.ne_of_lt (Nat.lt_of_lt_of_le (Heap.lt_size q) hp))]; exact n
  there := fun b u q _ => ⟨u, k b u q⟩
  tups := fun b xs q => by rw [upd_ne (ne_of_none q hn)]; exact q
  frzs := fun b u xs q => by rw [upd_ne (ne_of_none q hn)]; exact q
  tbls := fun b ps q => ⟨#[], by rw [upd_ne (ne_of_none q hn), q]; simp⟩
theorem Un.write (mu : Mut (H x)) (he : e = x ∨ H e = some (.own x)) (k : ∀ b u, b ≠ e → h.get? b = some u → h'.get? b = some u) (heo : ∃ u, h'.get? e = some u) : Un fs ex H (upd H x o) h h' := by
  have hx : ∀ b, H b = none → b ≠ x := fun b n z => by subst z; rw [n] at mu; exact mu
  have hb : ∀ b, H b = none → b ≠ e := fun b n z => by
    subst z
    rcases he with r | r
    · exact hx b n r
    · rw [n] at r; cases r
  have hm : ∀ b u, H b = some u → ¬ Mut (some u) → b ≠ x := fun b u q nm z => by subst z; rw [q] at mu; exact nm mu
  refine ⟨fun b u q n _ _ => k b u (hb b n) q, fun b u q n _ _ => ⟨u.slots, k b u (hb b n) q⟩, fun b u q n _ => by rw [upd_ne (hx b n)]; exact n, fun b u q _ => ?_,
    fun b xs q => by rw [upd_ne (hm b _ q fun z => z)]; exact q, fun b u xs q => by rw [upd_ne (hm b _ q fun z => z)]; exact q, fun b ps q => ⟨#[], by rw [upd_ne (hm b _ q fun z => z), q]; simp⟩⟩
  by_cases hbe : b = e
  · subst hbe; exact heo
  · exact ⟨u, k b u hbe q⟩
end
noncomputable def trk (h : Heap) (H : Hp) : List Addr := (List.range h.objs.size).filter fun a => (H a).isSome
noncomputable def hidT (h : Heap) (H : Hp) : Heap := PySem.W.hideAll h (trk h H)
theorem hidT_size (h : Heap) (H : Hp) : (hidT h H).objs.size = h.objs.size := PySem.W.hideAll_size _ _
theorem hidT_get {h : Heap} {H : Hp} {b : Addr} {o : Obj} (e : h.get? b = some o) (n : H b = none) : (hidT h H).get? b = some o :=
  PySem.W.hideAll_get _ e fun hm => by
    have q : (H b).isSome = true := (List.mem_filter.mp hm).2
    rw [n] at q; simp at q
theorem of_hidT {h : Heap} {H : Hp} {b : Addr} {o : Obj} (e : (hidT h H).get? b = some o) : h.get? b = some o ∧ H b = none := by
  have e' : h.get? b = some o := PySem.W.of_hideAll (trk h H) e
  refine ⟨e', ?_⟩
  cases q : H b with
  | none => rfl
  | some x =>
    have hm : b ∈ trk h H := List.mem_filter.mpr ⟨List.mem_range.mpr (Heap.lt_size e'), by simp [q]⟩
    have z : (hidT h H).get? b = none := PySem.W.hideAll_none (trk h H) hm
    rw [z] at e; cases e
noncomputable def allNews (g h : Heap) (L : Addr) : List (Addr × Obj) := (List.range h.objs.size).filterMap fun a => if a = L ∨ (g.get? a).isSome = true then none else (h.get? a).map fun o => (a, o)
noncomputable def rest (g h : Heap) (L d : Addr) : List (Addr × Obj) := (allNews g h L).filter fun p => decide (p.1 ≠ d)
end L2
namespace L2
open PySem PySem.Spec PyProof.Rows
structure Mod (K : PySem.W.Frag) (mg : Str → Option Value) (base : Heap) : Prop where
  kin : K.In base
  glob : base.Ns mainGlobals mg
  blt : ∃ mb, base.Ns builtinsNs mb ∧ ∀ x : Str, x ≠ "__name__" → mb x = bootBuiltins x
  nolimit : base.NoLimit
structure Cx where
  prog : Program
  w : World
  K : PySem.W.Frag
  mg : Str → Option Value
  base : Heap
  A : Around
  N : List Str
  s₀ : Shared
  H₀ : Hp
  env : Env
  outer : List Env
  stack : List Env
  ex : List Addr
  fn : Str → Bool
  calm : Bool
  pn : List (Addr × Obj)
  xe : Value → Shared → Prop
noncomputable def frs (l : List Env) : List Addr := l.filterMap (·.frame)
noncomputable abbrev Cx.fs (X : Cx) : List Addr := frs X.outer
noncomputable def Vis (sc : Scope) (x : Str) : Prop := sc.names.lookup x = some .local ∨ sc.names.lookup x = some .cell ∨ sc.names.lookup x = some .free
noncomputable def Loc (sc : Scope) (x : Str) : Prop := sc.names.lookup x = some .local ∨ sc.names.lookup x = some .cell
noncomputable def Look (env : Env) (h : Heap) (m : Str → Option Value) (x : Str) (u : Value) : Prop :=
  (env.kindOf x = some .local ∧ m x = some u) ∨ ((env.kindOf x = some .cell ∨ env.kindOf x = some .free) ∧ ∃ c, env.cells.lookup x = some c ∧ h.IsCell c (some u))
structure Cx.Ok (X : Cx) : Prop where
  mod : Mod X.K X.mg X.base
  kind : X.env.scope.kind = .function
  glob : X.env.globals = mainGlobals
  blt : X.env.builtins = builtinsNs
  above : X.s₀.heap.objs.size ≤ X.env.locals
  inj : ∀ x y c, X.env.cells.lookup x = some c → X.env.cells.lookup y = some c → x = y
  has : ∀ x, (X.env.kindOf x = some .cell ∨ X.env.kindOf x = some .free) → ∃ c, X.env.cells.lookup x = some c
  cab : ∀ x c, X.fn x = true → X.env.cells.lookup x = some c → X.s₀.heap.objs.size ≤ c
  hd : X.calm = true → X.A.handled = none
  frames : X.A.frames = some X.stack
  stk : X.stack = X.outer ∨ (X.stack = X.env :: X.outer ∧ X.env.frame = some X.env.locals)
  exf : ∀ b ∈ X.ex, b ≠ X.env.locals ∧ ∀ x c, X.env.cells.lookup x = some c → c ≠ b
  bs : ∀ b o, X.base.get? b = some o → X.s₀.heap.get? b = some o ∧ X.H₀ b = none
  bsz : X.base.objs.size ≤ X.s₀.heap.objs.size
  noex : ∀ b o, X.base.get? b = some o → b ∉ X.ex
  exfs : ∀ b ∈ X.ex, b ∉ X.fs
  funs : X.s₀.heap.FunFrames X.base X.outer
  frf : ∀ b ∈ X.fs, X.H₀ b = none
structure Inv (X : Cx) (pins : List (Addr × Obj)) (σ : List (Option V)) (H : Hp) (s : Shared) : Prop where
  ok : X.Ok
  os : s.os = X.s₀.os
  bare : AllBare s.gens
  base : Un X.fs X.ex X.H₀ H X.s₀.heap s.heap
  loc : ∃ m, s.heap.Ns X.env.locals m ∧ ∀ (i : Nat) (x : Str) (v : V), X.N[i]? = some x → σ[i]? = some (some v) → Vis X.env.scope x → ∃ u, RelV v u ∧ Look X.env s.heap m x u
  cell : ∀ x c, X.env.cells.lookup x = some c → ∃ v, s.heap.IsCell c v
  free : H X.env.locals = none
  freeC : ∀ x c, X.env.cells.lookup x = some c → H c = none
  pin : ∀ p ∈ X.pn ++ pins, s.heap.get? p.1 = some p.2 ∧ H p.1 = none ∧ p.1 ≠ X.env.locals ∧ p.1 ∉ X.fs ∧ ∀ v, p.2.data ≠ .cell v
  hok : HOk X.prog X.w H s.heap
  len : σ.length = X.N.length
section
variable {X : Cx} {pins : List (Addr × Obj)} {σ : List (Option V)} {H H' : Hp} {s : Shared} {h' : Heap}
theorem Cx.Ok.nofr (ok : X.Ok) {b : Addr} {o : Obj} (e : X.base.get? b = some o) : b ∉ X.fs := fun hb => by
  have := (ok.funs.mem hb).1
  rw [e] at this; cases this
theorem Inv.bs (I : Inv X pins σ H s) : ∀ b o, X.base.get? b = some o → s.heap.get? b = some o ∧ H b = none := fun b o e =>
  ⟨I.base.keep b o (I.ok.bs b o e).1 (I.ok.bs b o e).2 (I.ok.nofr e) (I.ok.noex b o e), I.base.free b o (I.ok.bs b o e).1 (I.ok.bs b o e).2 (I.ok.noex b o e)⟩
theorem Inv.bk (I : Inv X pins σ H s) : ∀ b o, X.base.get? b = some o → s.heap.get? b = some o := fun b o e => (I.bs b o e).1
theorem Inv.mod (I : Inv X pins σ H s) : Mod X.K X.mg X.base := I.ok.mod
theorem Inv.kIn (I : Inv X pins σ H s) : X.K.In s.heap := I.ok.mod.kin.keeps I.bk
theorem Inv.fr (I : Inv X pins σ H s) : ∃ m, Fr X.base X.env.locals s.heap m :=
  let ⟨m, hn, _⟩ := I.loc
  ⟨m, hn, I.bk, Nat.le_trans I.ok.bsz I.ok.above⟩
theorem Inv.lt (I : Inv X pins σ H s) : X.env.locals < s.heap.objs.size := let ⟨_, hn, _⟩ := I.loc; hn.lt
theorem Inv.sz (I : Inv X pins σ H s) : X.s₀.heap.objs.size ≤ s.heap.objs.size := Nat.le_trans I.ok.above (Nat.le_of_lt I.lt)
theorem Inv.nofs (I : Inv X pins σ H s) {a : Addr} (h : s.heap.objs.size ≤ a) : a ∉ X.fs := fun hb => by
  obtain ⟨_, o, ho, _⟩ := I.ok.funs.mem hb
  exact absurd (Nat.lt_of_lt_of_le (Heap.lt_size ho) (Nat.le_trans I.sz h)) (Nat.lt_irrefl _)
theorem Inv.cne (I : Inv X pins σ H s) : ∀ x c, X.env.cells.lookup x = some c → c ≠ X.env.locals := fun x c e z => by
  obtain ⟨v, o, ho, hd⟩ := I.cell x c e
  obtain ⟨m, ⟨o', es, ep, ho', hd', _⟩, _⟩ := I.loc
  rw [z, ho'] at ho; cases ho; rw [hd'] at hd; cases hd
theorem Inv.funs (I : Inv X pins σ H s) : s.heap.FunFrames X.base X.outer := by
  have all : ∀ (l : List Env), (∀ b ∈ frs l, b ∈ X.fs) → X.s₀.heap.FunFrames X.base l → s.heap.FunFrames X.base l := by
    intro l
    induction l with
    | nil => intro _ _; trivial
    | cons env r ih =>
      intro hs hl
      obtain ⟨hk, ⟨L, o, hf, hn, ho, hd⟩, hr⟩ := hl
      have hL : L ∈ X.fs := hs L (by unfold frs; rw [List.filterMap_cons, hf]; exact List.mem_cons_self)
      obtain ⟨sl, e⟩ := I.base.slot L o ho (I.ok.frf L hL) hL fun z => I.ok.exfs L z hL
      exact ⟨hk, ⟨L, _, hf, hn, e, hd⟩, ih (fun b hb => hs b (by unfold frs; rw [List.filterMap_cons, hf]; exact List.mem_cons_of_mem _ hb)) hr⟩
  exact all X.outer (fun _ hb => hb) I.ok.funs
theorem Inv.stack (I : Inv X pins σ H s) : s.heap.FunFrames X.base X.stack := by
  rcases I.ok.stk with e | ⟨e, hf⟩
  · rw [e]; exact I.funs
  · rw [e]
    obtain ⟨m, hn, _⟩ := I.loc
    refine .cons (by rw [I.ok.kind]; decide) hf hn ?_ I.funs
    exact Heap.get?_none_of_le (Nat.le_trans I.ok.bsz I.ok.above)
theorem Inv.stkSub (I : Inv X pins σ H s) : ∀ b ∈ frs X.stack, b ∈ X.env.locals :: X.fs := fun b hb => by
  rcases I.ok.stk with e | ⟨e, hf⟩
  · rw [e] at hb; exact List.mem_cons_of_mem _ hb
  · rw [e] at hb
    unfold frs at hb
    rw [List.filterMap_cons, hf] at hb
    exact hb
theorem Inv.stkFree (I : Inv X pins σ H s) : ∀ b ∈ frs X.stack, H b = none := fun b hb => by
  rcases List.mem_cons.mp (I.stkSub b hb) with e | hb
  · rw [e]; exact I.free
  · obtain ⟨_, o, ho, _⟩ := I.ok.funs.mem hb
    exact I.base.free b o ho (I.ok.frf b hb) fun z => I.ok.exfs b z hb
theorem Inv.step {g' : Array GenState} {t' : Nat} {d' : Drawn} {ch : List Addr} (I : Inv X pins σ H s)
    (hch : ∀ b ∈ ch, (b ∈ X.ex ∨ X.s₀.heap.objs.size ≤ b) ∧ b ≠ X.env.locals ∧ (∀ x c, X.env.cells.lookup x = some c → c ≠ b) ∧ ∀ p ∈ X.pn ++ pins, p.1 ≠ b)
    (keep : ∀ b o, b ≠ X.env.locals → b ∉ X.fs → b ∉ ch → s.heap.get? b = some o → H b = none → h'.get? b = some o)
    (slot : ∀ b o, b ≠ X.env.locals → b ∈ X.fs → b ∉ ch → s.heap.get? b = some o → H b = none → ∃ sl, h'.get? b = some { o with slots := sl }) (free : ∀ b o, b ∉ ch → s.heap.get? b = some o → H b = none → H' b = none)
    (there : ∀ b o, b ∉ ch → s.heap.get? b = some o → ∃ o', h'.get? b = some o')
    (tups : ∀ b xs, H b = some (.tup xs) → H' b = some (.tup xs)) (frzs : ∀ b o u, H b = some (.frz o u) → H' b = some (.frz o u)) (tbls : ∀ b ps, H b = some (.tbl ps) → ∃ more, H' b = some (.tbl (ps ++ more)))
    (ns : ∀ m, s.heap.Ns X.env.locals m → h'.Ns X.env.locals m) (hok : HOk X.prog X.w H' h') (hg : AllBare g') :
    Inv X pins σ H' { s with heap := h', gens := g', drawn := d', toks := t' } := by
  have neL : ∀ b o, X.s₀.heap.get? b = some o → b ≠ X.env.locals := fun b o e => Nat.ne_of_lt (Nat.lt_of_lt_of_le (Heap.lt_size e) I.ok.above)
  have neC : ∀ b o, X.s₀.heap.get? b = some o → b ∉ X.ex → b ∉ ch := fun b o e hx hb => by
    rcases (hch b hb).1 with z | z
    · exact hx z
    · exact absurd (Nat.lt_of_lt_of_le (Heap.lt_size e) z) (Nat.lt_irrefl _)
  have cellK : ∀ x c, X.env.cells.lookup x = some c → ∀ v, s.heap.IsCell c v → h'.IsCell c v := fun x c e v hpt0 => by
    obtain ⟨o, ho, hd⟩ := hpt0
    have nch : c ∉ ch := fun z => (hch c z).2.2.1 x c e rfl
    by_cases hc : c ∈ X.fs
    · obtain ⟨sl, q⟩ := slot c o (I.cne x c e) hc nch ho (I.freeC x c e)
      exact ⟨_, q, hd⟩
    · exact ⟨o, keep c o (I.cne x c e) hc nch ho (I.freeC x c e), hd⟩
  refine ⟨I.ok, I.os, hg, ⟨fun b o e n hb hx => ?_, fun b o e n hb hx => ?_, fun b o e n hx => ?_, fun b o e hx => ?_, fun b xs e => tups b xs (I.base.tups b xs e), fun b o xs e => frzs b o xs (I.base.frzs b o xs e), fun b ps e => ?_⟩, ?_, fun x c e => ?_, ?_, fun x c e => ?_, fun p hp => ?_, hok, I.len⟩
  · exact keep b o (neL b o e) hb (neC b o e hx) (I.base.keep b o e n hb hx) (I.base.free b o e n hx)
  · obtain ⟨sl, e1⟩ := I.base.slot b o e n hb hx
    obtain ⟨sl', e2⟩ := slot b _ (neL b o e) hb (neC b o e hx) e1 (I.base.free b o e n hx)
    exact ⟨sl', e2⟩
  · obtain ⟨o', e1⟩ := I.base.there b o e hx
    exact free b o' (neC b o e hx) e1 (I.base.free b o e n hx)
  · obtain ⟨o', e1⟩ := I.base.there b o e hx
    exact there b o' (neC b o e hx) e1
  · obtain ⟨m1, e1⟩ := I.base.tbls b ps e
    obtain ⟨m2, e2⟩ := tbls b _ e1
    exact ⟨m1 ++ m2, by rw [e2, Array.append_assoc]⟩
  · obtain ⟨m, hn, hl⟩ := I.loc
    refine ⟨m, ns m hn, fun i x v e1 e2 e3 => ?_⟩
    obtain ⟨u, r, l⟩ := hl i x v e1 e2 e3
    refine ⟨u, r, ?_⟩
    rcases l with l | ⟨k, c, e, z⟩
    · exact .inl l
    · exact .inr ⟨k, c, e, cellK x c e _ z⟩
  · obtain ⟨v, z⟩ := I.cell x c e
    exact ⟨v, cellK x c e v z⟩
  · obtain ⟨m, ⟨o, _, _, ho, _⟩, _⟩ := I.loc
    exact free _ o (fun z => (hch _ z).2.1 rfl) ho I.free
  · obtain ⟨v, o, ho, hd⟩ := I.cell x c e
    exact free c o (fun z => (hch c z).2.2.1 x c e rfl) ho (I.freeC x c e)
  · obtain ⟨e, n, ne, nf, d⟩ := I.pin p hp
    have nch : p.1 ∉ ch := fun z => (hch p.1 z).2.2.2 p hp rfl
    exact ⟨keep p.1 p.2 ne nf nch e n, free p.1 p.2 nch e n, ne, nf, d⟩
theorem Inv.un {t' : Nat} (I : Inv X pins σ H s) (u : Un X.fs [] H H' s.heap h') (hok : HOk X.prog X.w H' h') : Inv X pins σ H' { s with heap := h', toks := t' } := by
  obtain ⟨m, ⟨o, es, ep, ho, r⟩, _⟩ := id I.loc
  obtain ⟨sl, hL⟩ := u.any ho I.free (by simp)
  exact I.step (g' := s.gens) (d' := s.drawn) (ch := []) (fun _ z => nomatch z) (fun b o _ hb _ e n => u.keep b o e n hb (by simp)) (fun b o _ hb _ e n => u.slot b o e n hb (by simp)) (fun b o _ e n => u.free b o e n (by simp)) (fun b o _ e => u.there b o e (by simp)) u.tups u.frzs u.tbls (fun m' hm => by
    obtain ⟨o', es', ep', ho', r'⟩ := hm
    rw [ho] at ho'; cases ho'
    exact ⟨_, es', ep', hL, r'⟩) hok I.bare
theorem Inv.call {g' : Array GenState} {t' : Nat} {d' : Drawn} {ch : List Addr} (I : Inv X pins σ H s) (u : Un (frs X.stack) ch H H' s.heap h') (hok : HOk X.prog X.w H' h') (hg : AllBare g')
    (hch : ∀ b ∈ ch, (b ∈ X.ex ∨ X.s₀.heap.objs.size ≤ b) ∧ b ≠ X.env.locals ∧ (∀ x c, X.env.cells.lookup x = some c → c ≠ b) ∧ ∀ p ∈ X.pn ++ pins, p.1 ≠ b) :
    Inv X pins σ H' { s with heap := h', gens := g', drawn := d', toks := t' } := by
  obtain ⟨m, ⟨o, es, ep, ho, r⟩, _⟩ := id I.loc
  obtain ⟨sl, hL⟩ := u.any ho I.free fun z => (hch _ z).2.1 rfl
  exact I.step (ch := ch) hch (fun b o hL hb hc e n => u.keep b o e n (fun z => (List.mem_cons.mp (I.stkSub b z)).elim hL hb) hc) (fun b o _ _ hc e n => u.any e n hc) (fun b o hc e n => u.free b o e n hc) (fun b o hc e => u.there b o e hc) u.tups u.frzs u.tbls (fun m' hm => by
    obtain ⟨o', es', ep', ho', r'⟩ := hm
    rw [ho] at ho'; cases ho'
    exact ⟨_, es', ep', hL, r'⟩) hok hg
theorem Inv.turned {t' : Nat} {it : Addr} (I : Inv X pins σ H s) (k : ∀ b o, b ≠ it → s.heap.get? b = some o → h'.get? b = some o) (hn : H it = none) (hL : it ≠ X.env.locals)
    (h1 : it ∈ X.ex ∨ X.s₀.heap.objs.size ≤ it) (h2 : ∀ x c, X.env.cells.lookup x = some c → c ≠ it) (h3 : ∀ p ∈ X.pn ++ pins, p.1 ≠ it) : Inv X pins σ H { s with heap := h', toks := t' } := by
  have nit : ∀ b u, H b = some u → b ≠ it := fun b u e z => by rw [z, hn] at e; cases e
  refine I.step (g' := s.gens) (d' := s.drawn) (ch := [it]) (fun b hb => ?_) (fun b o _ _ hc e _ => k b o (fun z => hc (by simp [z])) e) (fun b o _ _ hc e _ => ⟨o.slots, k b o (fun z => hc (by simp [z])) e⟩) (fun _ _ _ _ n => n)
    (fun b o hc e => ⟨o, k b o (fun z => hc (by simp [z])) e⟩) (fun _ _ e => e) (fun _ _ _ e => e) (fun b ps e => ⟨#[], by rw [e]; simp⟩) (fun m hm => ?_) (fun b u e => ?_) I.bare
  · have e : b = it := by simpa using hb
    subst e
    exact ⟨h1, hL, h2, h3⟩
  · obtain ⟨o, es, ep, ho, r⟩ := hm
    exact ⟨o, es, ep, k _ o (Ne.symm hL) ho, r⟩
  · refine (I.hok b u e).stay (fun c v hc q => k c v ?_ q) (fun _ q => q) fun _ _ q => q
    rcases hc with z | z
    · rw [z]; exact nit b u e
    · exact nit c _ z
theorem Inv.tok (I : Inv X pins σ H s) (t : Nat) : Inv X pins σ H { s with toks := t } := I.un (h' := s.heap) (t' := t) Un.refl I.hok
theorem Inv.kept {t' : Nat} (I : Inv X pins σ H s) (k : ∀ b u, s.heap.get? b = some u → h'.get? b = some u) : Inv X pins σ H { s with heap := h', toks := t' } := I.un (Un.kept k) (I.hok.kept k)
theorem Inv.laid {a : Addr} {o : HO} {t' : Nat} (I : Inv X pins σ H s) (k : ∀ b u, s.heap.get? b = some u → h'.get? b = some u) (hp : s.heap.objs.size ≤ a) (new : ObjOk X.prog X.w (upd H a o) h' a o) :
    Inv X pins σ (upd H a o) { s with heap := h', toks := t' } := I.un (Un.laid k hp (I.hok.fresh hp)) (I.hok.laid k hp new)
theorem Inv.write {x e : Addr} {o : HO} {t' : Nat} (I : Inv X pins σ H s) (mu : Mut (H x)) (he : e = x ∨ H e = some (.own x)) (k : ∀ b u, b ≠ e → s.heap.get? b = some u → h'.get? b = some u) (heo : ∃ u, h'.get? e = some u)
    (new : ObjOk X.prog X.w (upd H x o) h' x o) : Inv X pins σ (upd H x o) { s with heap := h', toks := t' } := I.un (Un.write mu he k heo) (I.hok.write mu he k heo new)
theorem Inv.weak {σ' : List (Option V)} (I : Inv X pins σ H s) (hl : σ'.length = σ.length) (w : ∀ (i : Nat) v, σ'[i]? = some (some v) → σ[i]? = some (some v)) : Inv X pins σ' H s :=
  ⟨I.ok, I.os, I.bare, I.base, let ⟨m, hn, hl'⟩ := I.loc; ⟨m, hn, fun i x v e1 e2 e3 => hl' i x v e1 (w i v e2) e3⟩, I.cell, I.free, I.freeC, I.pin, I.hok, hl.trans I.len⟩
theorem Inv.pins_of {pins' : List (Addr × Obj)} (I : Inv X pins σ H s) (h : ∀ p ∈ pins', s.heap.get? p.1 = some p.2 ∧ H p.1 = none ∧ p.1 ≠ X.env.locals ∧ p.1 ∉ X.fs ∧ ∀ v, p.2.data ≠ .cell v) : Inv X pins' σ H s :=
  ⟨I.ok, I.os, I.bare, I.base, I.loc, I.cell, I.free, I.freeC, fun p hp => (List.mem_append.mp hp).elim (fun z => I.pin p (List.mem_append_left _ z)) (h p), I.hok, I.len⟩
theorem nodup_ix {N : List Str} (hN : N.Nodup) {i j : Nat} {x : Str} (a : N[i]? = some x) (b : N[j]? = some x) : i = j := by
  obtain ⟨h1, e1⟩ := List.getElem?_eq_some_iff.mp a
  obtain ⟨h2, e2⟩ := List.getElem?_eq_some_iff.mp b
  exact (List.getElem_inj hN).mp (e1.trans e2.symm)
theorem store_ok2 {M : Model} {A : Around} {E : Value → Shared → Prop} {i : Nat} {x : Str} {v : V} {u : Value} {Q : Unit → Shared → Prop} (I : Inv X pins σ H s) (hN : X.N.Nodup) (hi : X.N[i]? = some x) (hx : Loc X.env.scope x) (r : RelV v u)
    (h : ∀ s', Inv X pins (σ.set i (some v)) H s' → (∃ a, Heap.SameBut a s.heap s'.heap ∧ (a = X.env.locals ∨ X.env.cells.lookup x = some a)) → Q () s') (hf : X.fn x = true ∨ X.env.scope.names.lookup x = some .local := by first | exact .inl rfl | exact .inr rfl | assumption) : wpAny M A (storeName X.env x u) Q E s := by
  obtain ⟨m, hn, hl⟩ := id I.loc
  have hcls : (X.env.scope.kind == .class || (X.env.scope.kind == .module && X.env.locals != X.env.globals)) = false := by rw [I.ok.kind]; rfl
  have hiσ : i < σ.length := by rw [I.len]; exact (List.getElem?_eq_some_iff.mp hi).1
  have cne := I.cne
  have tracked : ∀ {a : Addr} {h' : Heap}, (∃ o, s.heap.get? a = some o ∧ H a = none) → Heap.SameBut a s.heap h' → HOk X.prog X.w H h' := fun {a h'} ha hs b ob e => by
    obtain ⟨_, _, hfree⟩ := ha
    refine (I.hok b ob e).stay (fun c w' hc q => (hs.2 c ?_).trans q) (fun _ q => q) fun _ _ q => q
    rintro rfl
    rcases hc with rfl | hc
    · rw [hfree] at e; cases e
    · rw [hfree] at hc; cases hc
  rcases hx with hk | hk
  · refine wpAny_storeName_local hk hn (fun h' hn' hs => ?_) hcls
    obtain ⟨oL, _, _, hoL, _⟩ := id hn
    refine h _ ⟨I.ok, I.os, I.bare, ⟨fun b o e n hb hx => ?_, fun b o e n hb hx => ?_, I.base.free, fun b o e hx => ?_, I.base.tups, I.base.frzs, I.base.tbls⟩, ⟨_, hn', fun j y v' e1 e2 e3 => ?_⟩, fun y c e => ?_, I.free, I.freeC, fun p hp => ?_, tracked ⟨oL, hoL, I.free⟩ hs, by simpa using I.len⟩ ⟨_, hs, .inl rfl⟩
    · exact (hs.2 b (Nat.ne_of_lt (Nat.lt_of_lt_of_le (Heap.lt_size e) I.ok.above))).trans (I.base.keep b o e n hb hx)
    · obtain ⟨sl, e1⟩ := I.base.slot b o e n hb hx
      exact ⟨sl, (hs.2 b (Nat.ne_of_lt (Nat.lt_of_lt_of_le (Heap.lt_size e) I.ok.above))).trans e1⟩
    · obtain ⟨o', e1⟩ := I.base.there b o e hx
      exact ⟨o', (hs.2 b (Nat.ne_of_lt (Nat.lt_of_lt_of_le (Heap.lt_size e) I.ok.above))).trans e1⟩
    · by_cases hj : j = i
      · subst hj
        rw [hi] at e1; cases e1
        rw [List.getElem?_set_self hiσ] at e2
        cases e2
        exact ⟨u, r, .inl ⟨hk, by simp⟩⟩
      · rw [List.getElem?_set_ne (Ne.symm hj)] at e2
        obtain ⟨u', r', q⟩ := hl j y v' e1 e2 e3
        refine ⟨u', r', ?_⟩
        rcases q with ⟨k, e⟩ | ⟨k, c, e, z⟩
        · refine .inl ⟨k, ?_⟩
          have : y ≠ x := fun e => hj (nodup_ix hN e1 (e ▸ hi))
          simp [this, e]
        · exact .inr ⟨k, c, e, z.sameBut hs (cne y c e)⟩
    · obtain ⟨w', z⟩ := I.cell y c e
      exact ⟨w', z.sameBut hs (cne y c e)⟩
    · obtain ⟨e, n, ne, nf, d⟩ := I.pin p hp
      exact ⟨(hs.2 p.1 ne).trans e, n, ne, nf, d⟩
  · have hfn : X.fn x = true := by
      rcases hf with z | z
      · exact z
      · rw [z] at hk; cases hk
    obtain ⟨c, hc⟩ := I.ok.has x (.inl hk)
    obtain ⟨w', z⟩ := I.cell x c hc
    refine wpAny_storeName_cell I.ok.kind hk hc z (fun h' hc' hs => ?_)
    obtain ⟨oc, hoc, hocd⟩ := id z
    refine h { s with heap := h' } ⟨I.ok, I.os, I.bare, ⟨fun b o e n hb hx => ?_, fun b o e n hb hx => ?_, I.base.free, fun b o e hx => ?_, I.base.tups, I.base.frzs, I.base.tbls⟩, ⟨m, hn.sameBut hs (Ne.symm (cne x c hc)), fun j y v' e1 e2 e3 => ?_⟩, fun y c' e => ?_, I.free, I.freeC, fun p hp => ?_, tracked ⟨oc, hoc, I.freeC x c hc⟩ hs, by simpa using I.len⟩ ⟨c, hs, .inr hc⟩
    · exact (hs.2 b (Nat.ne_of_lt (Nat.lt_of_lt_of_le (Heap.lt_size e) (I.ok.cab x c hfn hc)))).trans (I.base.keep b o e n hb hx)
    · obtain ⟨sl, e1⟩ := I.base.slot b o e n hb hx
      exact ⟨sl, (hs.2 b (Nat.ne_of_lt (Nat.lt_of_lt_of_le (Heap.lt_size e) (I.ok.cab x c hfn hc)))).trans e1⟩
    · obtain ⟨o', e1⟩ := I.base.there b o e hx
      exact ⟨o', (hs.2 b (Nat.ne_of_lt (Nat.lt_of_lt_of_le (Heap.lt_size e) (I.ok.cab x c hfn hc)))).trans e1⟩
    · by_cases hj : j = i
      · subst hj
        rw [hi] at e1; cases e1
        rw [List.getElem?_set_self hiσ] at e2
        cases e2
        exact ⟨u, r, .inr ⟨.inl hk, c, hc, hc'⟩⟩
      · rw [List.getElem?_set_ne (Ne.symm hj)] at e2
        obtain ⟨u', r', q⟩ := hl j y v' e1 e2 e3
        refine ⟨u', r', ?_⟩
        rcases q with q | ⟨k, c', e, z'⟩
        · exact .inl q
        · refine .inr ⟨k, c', e, z'.sameBut hs ?_⟩
          rintro rfl
          exact hj (nodup_ix hN e1 (I.ok.inj _ _ _ e hc ▸ hi))
    · by_cases hcc : c' = c
      · subst hcc; exact ⟨_, hc'⟩
      · obtain ⟨w2, z2⟩ := I.cell y c' e
        exact ⟨w2, z2.sameBut hs hcc⟩
    · obtain ⟨e, n, ne, nf, d⟩ := I.pin p hp
      refine ⟨(hs.2 p.1 ?_).trans e, n, ne, nf, d⟩
      intro q
      rw [q, hoc] at e
      have q' : oc = p.2 := Option.some.inj e
      exact d w' (by rw [← q']; exact hocd)
theorem store_ok {M : Model} {A : Around} {E : Value → Shared → Prop} {i : Nat} {x : Str} {v : V} {u : Value} {Q : Unit → Shared → Prop} (I : Inv X pins σ H s) (hN : X.N.Nodup) (hi : X.N[i]? = some x) (hx : Loc X.env.scope x) (r : RelV v u)
    (h : ∀ s', Inv X pins (σ.set i (some v)) H s' → Q () s') (hf : X.fn x = true ∨ X.env.scope.names.lookup x = some .local := by first | exact .inl rfl | exact .inr rfl | assumption) : wpAny M A (storeName X.env x u) Q E s :=
  store_ok2 I hN hi hx r (fun s' I' _ => h s' I') hf
theorem Inv.call' {s' : Shared} {ch : List Addr} (I : Inv X pins σ H s) (ho : s'.os = s.os) (u : Un (frs X.stack) ch H H' s.heap s'.heap) (hok : HOk X.prog X.w H' s'.heap) (hg : AllBare s'.gens)
    (hch : ∀ b ∈ ch, (b ∈ X.ex ∨ X.s₀.heap.objs.size ≤ b) ∧ b ≠ X.env.locals ∧ (∀ x c, X.env.cells.lookup x = some c → c ≠ b) ∧ ∀ p ∈ X.pn ++ pins, p.1 ≠ b) : Inv X pins σ H' s' := by
  obtain ⟨h', g', d', t', o'⟩ := s'
  have e : o' = s.os := ho
  subst e
  exact I.call (g' := g') (t' := t') (d' := d') u hok hg hch
end
noncomputable abbrev XK := Value → Option Addr → Hp → Prop
noncomputable abbrev St := List (Option V)
noncomputable abbrev VK := V → Hp → Prop
noncomputable abbrev TE := St → Hp → VK → Prop
noncomputable abbrev TT := St → Hp → (Bool → Hp → Prop) → Prop
noncomputable abbrev TA := St → Hp → (List V → Hp → Prop) → Prop
structure Ends where
  nx : St → Hp → Prop
  rt : VK
  bk : St → Hp → Prop := fun _ _ => False
  ct : St → Hp → Prop := fun _ _ => False
noncomputable abbrev TS := Ends → St → Hp → Prop
noncomputable def EP (X : Cx) (pins : List (Addr × Obj)) (σ : St) (Q : VK) (u : Value) (s' : Shared) : Prop := ∃ v H', Inv X pins σ H' s' ∧ RelV v u ∧ Q v H'
noncomputable def TP (X : Cx) (pins : List (Addr × Obj)) (σ : St) (Q : Bool → Hp → Prop) (b : Bool) (s' : Shared) : Prop := ∃ H', Inv X pins σ H' s' ∧ Q b H'
noncomputable def AP (X : Cx) (pins : List (Addr × Obj)) (σ : St) (Q : List V → Hp → Prop) (us : List Value) (s' : Shared) : Prop := ∃ vs H', Inv X pins σ H' s' ∧ Vals vs us ∧ Q vs H'
noncomputable def SP (X : Cx) (pins : List (Addr × Obj)) (D : Ends) (f : Flow) (s' : Shared) : Prop :=
  match f with
  | .next => ∃ σ' H', Inv X pins σ' H' s' ∧ D.nx σ' H'
  | .brk => ∃ σ' H', Inv X pins σ' H' s' ∧ D.bk σ' H'
  | .cont => ∃ σ' H', Inv X pins σ' H' s' ∧ D.ct σ' H'
  | .ret u => ∃ v σ' H', Inv X pins σ' H' s' ∧ RelV v u ∧ D.rt v H'
noncomputable def PE (X : Cx) (e : Expr) (t : TE) : Prop :=
  ∀ (pins : List (Addr × Obj)) (s : Shared) (σ : St) (H : Hp) (Q : VK), Inv X pins σ H s → t σ H Q → wpAny (model X.prog X.w) X.A (eval e X.env) (EP X pins σ Q) X.xe s
noncomputable def PT (X : Cx) (e : Expr) (t : TT) : Prop :=
  ∀ (pins : List (Addr × Obj)) (s : Shared) (σ : St) (H : Hp) (Q : Bool → Hp → Prop), Inv X pins σ H s → t σ H Q → wpAny (model X.prog X.w) X.A (isTrue e X.env (eval e X.env)) (TP X pins σ Q) X.xe s
noncomputable def PW (X : Cx) (e : Expr) (t : TT) : Prop :=
  ∀ (whole : Sem Value) (pins : List (Addr × Obj)) (s : Shared) (σ : St) (H : Hp) (Q : Bool → Hp → Prop), Inv X pins σ H s → t σ H Q → wpAny (model X.prog X.w) X.A (isTrue e X.env whole) (TP X pins σ Q) X.xe s
theorem PW.pt {X : Cx} {e : Expr} {t : TT} (h : PW X e t) : PT X e t := h _
noncomputable def PA (X : Cx) (es : List Expr) (t : TA) : Prop :=
  ∀ (pos : Pos) (pins : List (Addr × Obj)) (s : Shared) (σ : St) (H : Hp) (Q : List V → Hp → Prop), Inv X pins σ H s → t σ H Q → wpAny (model X.prog X.w) X.A (spliced (backTo pos (starEach es X.env))) (AP X pins σ Q) X.xe s
noncomputable def PS (X : Cx) (st : Stmt) (t : TS) : Prop :=
  ∀ (pins : List (Addr × Obj)) (s : Shared) (σ : St) (H : Hp) (D : Ends), Inv X pins σ H s → t D σ H → wpAny (model X.prog X.w) X.A (exec st X.env) (SP X pins D) X.xe s
noncomputable def PSs (X : Cx) (st : List Stmt) (t : TS) : Prop :=
  ∀ (pins : List (Addr × Obj)) (s : Shared) (σ : St) (H : Hp) (D : Ends), Inv X pins σ H s → t D σ H → wpAny (model X.prog X.w) X.A (execs st X.env) (SP X pins D) X.xe s
theorem thn {α : Type} {t : Sem α} {Q Q' : α → Shared → Prop} {M : Model} {A : Around} {E : Value → Shared → Prop} {s : Shared} (h : wpAny M A t Q E s) (hQ : ∀ a s, Q a s → Q' a s) : wpAny M A t Q' E s := wpAny_mono h hQ fun _ _ x => x
end L2
namespace L2
open PySem PySem.Spec PyProof.Rows
section
variable {X : Cx}
noncomputable def tVar (i : Nat) : TE := fun σ H Q => ∃ v, σ[i]? = some (some v) ∧ Q v H
noncomputable def tC (v : V) : TE := fun _ H Q => Q v H
theorem pe_var {i : Nat} {x : Str} {pos : Pos} (hN : X.N[i]? = some x) (hv : Vis X.env.scope x) (hd : (x == ("__debug__" : Str)) = false := by decide) (hcd : (x == ("__classdict__" : Str)) = false := by decide) : PE X (.Name x pos) (tVar i) := by
  intro pins s σ H Q I h
  obtain ⟨v, e, h⟩ := h
  obtain ⟨m, hn, hl⟩ := I.loc
  obtain ⟨u, r, l⟩ := hl i x v hN e hv
  have fin : EP X pins σ Q u s := ⟨v, H, I, r, h⟩
  rcases l with ⟨hk, hm⟩ | ⟨hk, c, hc, hcell⟩
  · exact wpAny_Name (wpAny_loadName_local I.ok.kind hk hn hm fin) hd
  · rcases hk with hk | hk
    · exact wpAny_Name (wpAny_loadName_cell I.ok.kind hk hc hcell fin) hd
    · exact wpAny_Name (wpAny_loadName_free I.ok.kind hk hc hcell fin hcd) hd
theorem pe_int {i j pos} : PE X (.Constant (.int i) j pos) (tC (.int i)) := fun _ _ _ H _ I h => wpAny_Constant_int ⟨.int i, H, I.tok _, ⟨_, rfl⟩, h⟩
theorem pe_bl {b j pos} : PE X (.Constant (.bool b) j pos) (tC (.bl b)) := fun _ _ _ H _ I h => Constant_bool ⟨.bl b, H, I, rfl, h⟩
theorem pe_str {x j pos} : PE X (.Constant (.str x) j pos) (tC (.str x)) := fun _ _ _ H _ I h => Calls.Constant_str ⟨.str x, H, I.tok _, ⟨_, rfl⟩, h⟩
noncomputable def Gl (X : Cx) (x : Str) : Prop := X.env.kindOf x = some .globalImplicit
theorem ld_glob {E : Value → Shared → Prop} {pins : List (Addr × Obj)} {s : Shared} {σ : St} {H : Hp} {x : Str} {u : Value} {pos : Pos} {Q : Value → Shared → Prop} (I : Inv X pins σ H s) (hg : Gl X x) (hm : X.mg x = some u) (h : Q u s)
    (hd : (x == ("__debug__" : Str)) = false := by decide) : wpAny (model X.prog X.w) X.A (eval (.Name x pos) X.env) Q E s :=
  Calls.Name_function_global I.ok.kind hg (Calls.loadGlobal_global (by rw [I.ok.glob]; exact I.mod.glob.keeps I.bk) hm h) hd
theorem ld_blt {E : Value → Shared → Prop} {pins : List (Addr × Obj)} {s : Shared} {σ : St} {H : Hp} {x : Str} {u : Value} {pos : Pos} {Q : Value → Shared → Prop} (I : Inv X pins σ H s) (hg : Gl X x) (hm : X.mg x = none) (hv : bootBuiltins x = some u) (h : Q u s)
    (hn : x ≠ "__name__" := by decide) (hd : (x == ("__debug__" : Str)) = false := by decide) : wpAny (model X.prog X.w) X.A (eval (.Name x pos) X.env) Q E s := by
  obtain ⟨mb, h1, h2⟩ := I.mod.blt
  exact Calls.Name_function_global I.ok.kind hg (Calls.loadGlobal_builtin (by rw [I.ok.glob]; exact I.mod.glob.keeps I.bk) hm (by rw [I.ok.blt]; exact h1.keeps I.bk) ((h2 x hn).trans hv) h) hd
theorem pe_glob {x : Str} {v : V} {u : Value} {pos : Pos} (hg : Gl X x) (hm : X.mg x = some u) (r : RelV v u) (hd : (x == ("__debug__" : Str)) = false := by decide) : PE X (.Name x pos) (tC v) :=
  fun _ _ _ H _ I h => ld_glob I hg hm ⟨v, H, I, r, h⟩ hd
theorem pe_bltn {x : Str} {v : V} {u : Value} {pos : Pos} (hg : Gl X x) (hm : X.mg x = none) (hv : bootBuiltins x = some u) (r : RelV v u) (hn : x ≠ "__name__" := by decide) (hd : (x == ("__debug__" : Str)) = false := by decide) : PE X (.Name x pos) (tC v) :=
  fun _ _ _ H _ I h => ld_blt I hg hm hv ⟨v, H, I, r, h⟩ hn hd
variable {a b : Expr} {ta tb : TE} {pos : Pos}
noncomputable def tB (t : TE) : TT := fun σ H Q => t σ H fun x H1 => ∃ c, x = .bl c ∧ Q c H1
variable {tA tB' : TT} {rest : List Expr}
noncomputable def tAnd (t u : TT) : TT := fun σ H Q => t σ H fun c H1 => if c = true then u σ H1 Q else Q false H1
noncomputable def tOr (t u : TT) : TT := fun σ H Q => t σ H fun c H1 => if c = true then Q true H1 else u σ H1 Q
noncomputable def tNot (t : TT) : TT := fun σ H Q => t σ H fun c H1 => Q (!c) H1
theorem pw_and1 (ha : PT X a tA) : PW X (.BoolOp .And [a] pos) tA := by
  intro wh pins s σ H Q I h
  refine isTrue_and (thn (ha pins s σ H Q I h) fun c s1 e => ?_)
  cases c with
  | true => exact isTrue_and_nil e
  | false => exact e
theorem pw_or1 (ha : PT X a tA) : PW X (.BoolOp .Or [a] pos) tA := by
  intro wh pins s σ H Q I h
  refine isTrue_or (thn (ha pins s σ H Q I h) fun c s1 e => ?_)
  cases c with
  | false => exact isTrue_or_nil e
  | true => exact e
theorem pw_and (ha : PT X a tA) (hb : PW X (.BoolOp .And (b :: rest) pos) tB') : PW X (.BoolOp .And (a :: b :: rest) pos) (tAnd tA tB') := by
  intro wh pins s σ H Q I h
  refine isTrue_and (thn (ha pins s σ H _ I h) fun c s1 hpt9 => ?_)
  obtain ⟨H1, I1, q1⟩ := hpt9
  cases c with
  | true => exact hb wh pins s1 σ H1 Q I1 q1
  | false => exact ⟨H1, I1, q1⟩
theorem pw_or (ha : PT X a tA) (hb : PW X (.BoolOp .Or (b :: rest) pos) tB') : PW X (.BoolOp .Or (a :: b :: rest) pos) (tOr tA tB') := by
  intro wh pins s σ H Q I h
  refine isTrue_or (thn (ha pins s σ H _ I h) fun c s1 hpt9 => ?_)
  obtain ⟨H1, I1, q1⟩ := hpt9
  cases c with
  | true => exact ⟨H1, I1, q1⟩
  | false => exact hb wh pins s1 σ H1 Q I1 q1
theorem pt_not (ha : PT X a tA) : PT X (.UnaryOp .Not a pos) (tNot tA) := by
  intro pins s σ H Q I h
  exact isTrue_not (ha pins s σ H (fun c H1 => Q (!c) H1) I h)
noncomputable def tAndV (ta tb : TE) : TE := fun σ H Q => ta σ H fun x H1 => ∃ c, x = .bl c ∧ if c = true then tb σ H1 Q else Q (.bl false) H1
theorem pe_one {op} {t : TE} (h : PE X a t) : PE X (.BoolOp op [a] pos) t := fun pins s σ H Q I hw => BoolOp_one (h pins s σ H Q I hw)
theorem pe_and (ha : PE X a ta) (hb : PE X (.BoolOp .And (b :: rest) pos) tb) : PE X (.BoolOp .And (a :: b :: rest) pos) (tAndV ta tb) := by
  intro pins s σ H Q I h
  refine BoolOp_and (thn (ha pins s σ H _ I h) fun v s1 hpt9 => ?_)
  obtain ⟨x, H1, I1, r1, q1⟩ := hpt9
  obtain ⟨c, rfl, q1⟩ := q1
  cases r1
  refine wpAny_truthy_bool ?_
  cases c with
  | true => exact hb pins s1 σ H1 Q I1 q1
  | false => exact ⟨.bl false, H1, I1, rfl, q1⟩
end
end L2
namespace L2
open PySem PySem.Spec PyProof.Rows
noncomputable def SqL (K : PySem.W.Frag) (H : Hp) (a : Addr) (xs : List V) : Prop :=
  Rd H a (.lst xs) ∨
    ∃ (o : Obj) (its : Array Value) (n : Nat), K.lookup a = some o ∧ o.cls = .type "list" ∧ o.dict = none ∧ o.data = .seq its n ∧ its.size ≤ sizeLine ∧ Vals xs its.toList
noncomputable def SqT (K : PySem.W.Frag) (H : Hp) (a : Addr) (xs : List V) : Prop :=
  Rd H a (.tup xs) ∨
    ∃ (o : Obj) (its : Array Value) (n : Nat), K.lookup a = some o ∧ o.cls = .type "tuple" ∧ o.data = .seq its n ∧ its.size ≤ sizeLine ∧ Vals xs its.toList
noncomputable def absV : Value → Option V
  | .none => some .non
  | .bool b => some (.bl b)
  | .int i _ => some (.int i)
  | .str x _ => some (.str x)
  | .bytes b _ => some (.byt b)
  | .float b _ => some (.flt b)
  | .ref a => some (.ref a)
  | .type n => some (.ty n)
  | _ => none
theorem RelV.abs {x : V} {u : Value} (r : RelV x u) : absV u = some x := by
  cases x with
  | non => cases r; rfl
  | bl _ => cases r; rfl
  | int _ => obtain ⟨t, rfl⟩ := r; rfl
  | str _ => obtain ⟨t, rfl⟩ := r; rfl
  | byt _ => obtain ⟨t, rfl⟩ := r; rfl
  | flt _ => obtain ⟨t, rfl⟩ := r; rfl
  | ref _ => cases r; rfl
  | ty _ => cases r; rfl
theorem RelV.inj {x y : V} {u : Value} (r : RelV x u) (q : RelV y u) : x = y := Option.some.inj (r.abs.symm.trans q.abs)
theorem Vals.inj {xs ys : List V} {us : List Value} (h : Vals xs us) (k : Vals ys us) : xs = ys := by
  induction h generalizing ys with
  | nil => cases k; rfl
  | cons r t ih =>
    cases k with
    | cons r' t' => rw [r.inj r', ih t']
section
variable {X : Cx} {pins : List (Addr × Obj)} {σ : St} {H : Hp} {s : Shared} {a : Addr} {xs ys : List V}
theorem SqL.of {K : PySem.W.Frag} (h : H a = some (.lst xs)) : SqL K H a xs := .inl (.inl h)
theorem SqT.of {K : PySem.W.Frag} (h : H a = some (.tup xs)) : SqT K H a xs := .inl (.inl h)
theorem Inv.list (I : Inv X pins σ H s) (h : SqL X.K H a xs) : ∃ its : List Value, Vals xs its ∧ PlainL s.heap a its.toArray ∧ xs.length ≤ sizeLine := by
  rcases h with h | ⟨o, its, n, hk, hc, hd, hs, hz, r⟩
  · obtain ⟨z, its, n, r, e⟩ := h.ok I.hok
    exact ⟨its, r, ⟨_, n, e, rfl, rfl, rfl⟩, z⟩
  · refine ⟨its.toList, r, ⟨o, n, I.kIn a o hk, hc, hd, by simpa using hs⟩, ?_⟩
    have e := r.length
    simp only [Array.length_toList] at e
    lia
theorem Inv.tuple (I : Inv X pins σ H s) (h : SqT X.K H a xs) : ∃ its : List Value, Vals xs its ∧ IsTup s.heap a its.toArray ∧ xs.length ≤ sizeLine := by
  rcases h with h | ⟨o, its, n, hk, hc, hs, hz, r⟩
  · obtain ⟨z, its, r, p⟩ := h.ok I.hok
    exact ⟨its, r, p, z⟩
  · refine ⟨its.toList, r, ⟨o, I.kIn a o hk, hc, n, by simpa using hs⟩, ?_⟩
    have e := r.length
    simp only [Array.length_toList] at e
    lia
theorem Inv.list_inj (I : Inv X pins σ H s) (h : SqL X.K H a xs) (h' : SqL X.K H a ys) : xs = ys := by
  obtain ⟨its, r, ⟨o, n, e, _, _, d⟩, _⟩ := I.list h
  obtain ⟨its', r', ⟨o', n', e', _, _, d'⟩, _⟩ := I.list h'
  rw [e] at e'; cases e'
  rw [d] at d'
  injection d' with d1 _
  have : its = its' := by simpa using congrArg Array.toList d1
  subst this
  exact r.inj r'
theorem Inv.tuple_inj (I : Inv X pins σ H s) (h : SqT X.K H a xs) (h' : SqT X.K H a ys) : xs = ys := by
  obtain ⟨its, r, ⟨o, e, _, n, d⟩, _⟩ := I.tuple h
  obtain ⟨its', r', ⟨o', e', _, n', d'⟩, _⟩ := I.tuple h'
  rw [e] at e'; cases e'
  rw [d] at d'
  injection d' with d1 _
  have : its = its' := by simpa using congrArg Array.toList d1
  subst this
  exact r.inj r'
end
noncomputable abbrev Cx.wish (X : Cx) (E : Value → Shared → Prop) : Cx := { X with xe := E }
noncomputable abbrev Cx.nox (X : Cx) : Cx := X.wish fun _ _ => False
theorem Cx.Ok.wish {X : Cx} (ok : X.Ok) (E : Value → Shared → Prop) : (X.wish E).Ok :=
  ⟨ok.mod, ok.kind, ok.glob, ok.blt, ok.above, ok.inj, ok.has, ok.cab, ok.hd, ok.frames, ok.stk, ok.exf, ok.bs, ok.bsz, ok.noex, ok.exfs, ok.funs, ok.frf⟩
theorem Cx.Ok.unwish {X : Cx} {E : Value → Shared → Prop} (ok : (X.wish E).Ok) : X.Ok :=
  ⟨ok.mod, ok.kind, ok.glob, ok.blt, ok.above, ok.inj, ok.has, ok.cab, ok.hd, ok.frames, ok.stk, ok.exf, ok.bs, ok.bsz, ok.noex, ok.exfs, ok.funs, ok.frf⟩
section
variable {X : Cx} {pins : List (Addr × Obj)} {σ : St} {H : Hp} {s : Shared} {E : Value → Shared → Prop}
theorem Inv.wish (I : Inv X pins σ H s) (E : Value → Shared → Prop) : Inv (X.wish E) pins σ H s := ⟨I.ok.wish E, I.os, I.bare, I.base, I.loc, I.cell, I.free, I.freeC, I.pin, I.hok, I.len⟩
theorem Inv.unwish (I : Inv (X.wish E) pins σ H s) : Inv X pins σ H s := ⟨I.ok.unwish, I.os, I.bare, I.base, I.loc, I.cell, I.free, I.freeC, I.pin, I.hok, I.len⟩
theorem SP.unwish {D : Ends} {f : Flow} {s' : Shared} (h : SP (X.wish E) pins D f s') : SP X pins D f s' := by
  cases f with
  | next => obtain ⟨σ', H', I, q⟩ := h; exact ⟨σ', H', I.unwish, q⟩
  | brk => obtain ⟨σ', H', I, q⟩ := h; exact ⟨σ', H', I.unwish, q⟩
  | cont => obtain ⟨σ', H', I, q⟩ := h; exact ⟨σ', H', I.unwish, q⟩
  | ret u => obtain ⟨v, σ', H', I, r, q⟩ := h; exact ⟨v, σ', H', I.unwish, r, q⟩
theorem PSs.nox {st : List Stmt} {t : TS} (h : PSs X.nox st t) : PSs X st t := fun pins s σ H D I hw =>
  wpAny_mono (h pins s σ H D (I.wish _) hw) (fun _ _ q => q.unwish) fun _ _ z => False.elim z
end
section
variable {X : Cx} {st : Stmt} {rest : List Stmt} {t u : TS} {e : Expr} {te : TE} {pos : Pos}
noncomputable def tNext : TS := fun D σ H => D.nx σ H
noncomputable def tSeq (t u : TS) : TS := fun D σ H => t { D with nx := u D } σ H
theorem pss_nil : PSs X [] tNext := fun _ _ σ H _ I h => wpAny_execs_nil ⟨σ, H, I, h⟩
theorem pss_cons (h1 : PS X st t) (h2 : PSs X rest u) : PSs X (st :: rest) (tSeq t u) := by
  intro pins s σ H D I h
  refine wpAny_execs_cons (thn (h1 pins s σ H { D with nx := u D } I h) fun f s1 q => ?_)
  cases f with
  | next =>
    obtain ⟨σ', H', I', q⟩ := q
    exact h2 pins s1 σ' H' D I' q
  | ret v => exact q
  | brk => exact q
  | cont => exact q
theorem pss_one (h1 : PS X st t) : PSs X [st] t := by
  intro pins s σ H D I h
  refine wpAny_execs_cons (thn (h1 pins s σ H D I h) fun f s1 q => ?_)
  cases f with
  | next => exact wpAny_execs_nil q
  | ret v => exact q
  | brk => exact q
  | cont => exact q
theorem Inv.quiet {pins : List (Addr × Obj)} {σ : St} {H : Hp} {s : Shared} (I : Inv X pins σ H s) : interactive X.env = false := by simp [interactive, I.ok.kind]
noncomputable def tDrop (te : TE) : TS := fun D σ H => te σ H fun _ H1 => D.nx σ H1
theorem ps_expr (he : PE X e te) (hs : swapsWith e none pos.line X.env = pure false := by rfl) : PS X (.Expr e pos) (tDrop te) := by
  intro pins s σ H D I h
  exact wpAny_Expr_any (thn (he pins s σ H _ I h) fun v s1 ⟨x, H1, I1, r1, q1⟩ => ⟨σ, H1, I1, q1⟩) I.quiet hs
noncomputable def tRet (te : TE) : TS := fun D σ H => te σ H D.rt
theorem ps_ret (he : PE X e te) : PS X (.Return (some e) pos) (tRet te) := by
  intro pins s σ H D I h
  exact wpAny_Return_some (thn (he pins s σ H _ I h) fun v s1 ⟨x, H1, I1, r1, q1⟩ => ⟨x, σ, H1, I1, r1, q1⟩)
noncomputable def tIfS (c : TT) (t u : TS) : TS := fun D σ H => c σ H fun b H1 => if b = true then t D σ H1 else u D σ H1
theorem ps_if {c : Expr} {a b : List Stmt} {tc : TT} (hc : PT X c tc) (ha : PSs X a t) (hb : PSs X b u) : PS X (.If c a b pos) (tIfS tc t u) := by
  intro pins s σ H D I h
  refine wpAny_If (thn (hc pins s σ H _ I h) fun d s1 hpt9 => ?_)
  obtain ⟨H1, I1, q1⟩ := hpt9
  cases d with
  | true => exact ha pins s1 σ H1 D I1 q1
  | false => exact hb pins s1 σ H1 D I1 q1
noncomputable def tNever : TS := fun _ _ _ => False
theorem pss_never {sts : List Stmt} : PSs X sts tNever := fun _ _ _ _ _ _ h => h.elim
end
noncomputable abbrev TG := V → St → Hp → (St → Hp → Prop) → Prop
noncomputable abbrev TGs := List V → St → Hp → (St → Hp → Prop) → Prop
noncomputable def PG (X : Cx) (target : Expr) (t : TG) : Prop :=
  ∀ (pins : List (Addr × Obj)) (s : Shared) (σ : St) (H : Hp) (v : V) (u : Value) (Q : St → Hp → Prop), Inv X pins σ H s → RelV v u → t v σ H Q →
    wpAny (model X.prog X.w) X.A (assign target X.env u) (fun _ s' => ∃ σ' H', Inv X pins σ' H' s' ∧ Q σ' H') X.xe s
noncomputable def PGs (X : Cx) (ts : List Expr) (t : TGs) : Prop :=
  ∀ (pins : List (Addr × Obj)) (s : Shared) (σ : St) (H : Hp) (vs : List V) (us : List Value) (Q : St → Hp → Prop), Inv X pins σ H s → Vals vs us → t vs σ H Q →
    wpAny (model X.prog X.w) X.A (assignInOrder ((assignEach ts X.env).map (·.2)) us) (fun _ s' => ∃ σ' H', Inv X pins σ' H' s' ∧ Q σ' H') X.xe s
noncomputable abbrev TSet := V → V → V → Hp → (Hp → Prop) → Prop
noncomputable def PSet (X : Cx) (t : TSet) : Prop :=
  ∀ (pins : List (Addr × Obj)) (s : Shared) (σ : St) (H : Hp) (o i v : V) (ov iv u : Value) (Q : Hp → Prop), Inv X pins σ H s → RelV o ov → RelV i iv → RelV v u → t o i v H Q →
    wpAny (model X.prog X.w) X.A (setItem ov iv u) (fun _ s' => ∃ H', Inv X pins σ H' s' ∧ Q H') X.xe s
noncomputable abbrev TIp := V → V → Hp → VK → Prop
noncomputable def PIp (X : Cx) (op : Operator) (t : TIp) : Prop :=
  ∀ (pins : List (Addr × Obj)) (s : Shared) (σ : St) (H : Hp) (x y : V) (v u : Value) (Q : VK), Inv X pins σ H s → RelV x v → RelV y u → t x y H Q →
    wpAny (model X.prog X.w) X.A (inplaceOp op v u) (EP X pins σ Q) X.xe s
section
variable {X : Cx} {pos : Pos}
noncomputable def gName (i : Nat) : TG := fun v σ H Q => Q (σ.set i (some v)) H
theorem pg_name {i : Nat} {x : Str} (hN : X.N.Nodup) (hi : X.N[i]? = some x) (hx : Loc X.env.scope x) (hf : X.fn x = true ∨ X.env.scope.names.lookup x = some .local := by first | exact .inl rfl | exact .inr rfl | assumption) : PG X (.Name x pos) (gName i) := by
  intro pins s σ H v u Q I r h
  exact wpAny_assign_Name (store_ok I hN hi hx r (fun s' I' => ⟨_, H, I', h⟩) hf)
noncomputable def gNil : TGs := fun vs σ H Q => vs = [] ∧ Q σ H
noncomputable def gCons (t : TG) (u : TGs) : TGs := fun vs σ H Q => ∃ v r, vs = v :: r ∧ t v σ H fun σ' H' => u r σ' H' Q
theorem pgs_nil : PGs X [] gNil := by
  intro pins s σ H vs us Q I r h
  obtain ⟨e, h⟩ := h
  subst e
  cases r
  exact assignInOrder_nil ⟨σ, H, I, h⟩
theorem pgs_cons {e : Expr} {es : List Expr} {t : TG} {u : TGs} (h1 : PG X e t) (h2 : PGs X es u)
    (hs : (assignEach (e :: es) X.env).map (·.2) = assign e X.env :: (assignEach es X.env).map (·.2) := by rfl) : PGs X (e :: es) (gCons t u) := by
  intro pins s σ H vs us Q I r h
  obtain ⟨v, vr, e1, h⟩ := h
  subst e1
  cases r with
  | cons r rr =>
    rw [hs]
    refine assignInOrder_cons (thn (h1 pins s σ H _ _ _ I r h) fun _ s1 hpt9 => ?_)
    obtain ⟨σ1, H1, I1, q1⟩ := hpt9
    exact h2 pins s1 σ1 H1 _ _ Q I1 rr q1
noncomputable def gTup (K : PySem.W.Frag) (n : Nat) (t : TGs) : TG := fun v σ H Q => ∃ a xs, v = .ref a ∧ SqT K H a xs ∧ xs.length = n ∧ t xs σ H Q
theorem pg_tup {es : List Expr} {k : Nat} {t : TGs} {n : Nat} (hc : X.calm = true) (h : PGs X es t)
    (hn : (assignEach es X.env).length = n := by rfl) (hst : (assignEach es X.env).findIdx? (·.1) = none := by rfl) : PG X (.Tuple es k pos) (gTup X.K n t) := by
  intro pins s σ H v u Q I r hw
  obtain ⟨a, xs, e1, hq, hl, hw⟩ := hw
  subst e1
  cases r
  obtain ⟨its, rv, ht, hz⟩ := I.tuple hq
  refine assign_Tuple_tuple (I.ok.hd hc) ht (by simp [hn, ← hl, rv.length]) hst fun h' hx => ?_
  have I1 : Inv X pins σ H { s with heap := h' } := I.kept (t' := s.toks) fun b o e => hx b o (Nat.ne_of_lt (Heap.lt_size e)) e
  exact h pins _ σ H xs _ Q I1 (by simpa using rv) hw
noncomputable def gSub (to ti : TE) (t : TSet) : TG := fun v σ H Q => to σ H fun o H1 => ti σ H1 fun i H2 => t o i v H2 fun H3 => Q σ H3
theorem pg_sub {o i : Expr} {to ti : TE} {t : TSet} (ho : PE X o to) (hi : PE X i ti) (hs : PSet X t)
    (ha : ∀ v, assign (.Subscript o i pos) X.env v = (do
      let ov ← holding [v] (eval o X.env)
      let iv ← holding [v, ov] (eval i X.env)
      standAt pos
      holding [v, ov, iv] (setItem ov iv v)
      release [v, ov, iv] []) := by intro _; rfl) : PG X (.Subscript o i pos) (gSub to ti t) := by
  intro pins s σ H v u Q I r h
  rw [ha]
  refine wpAny_bind (wpAny_holding (thn (ho pins s σ H _ I h) fun ov s1 hpt9 => ?_))
  obtain ⟨x, H1, I1, r1, q1⟩ := hpt9
  refine wpAny_bind (wpAny_holding (thn (hi pins s1 σ H1 _ I1 q1) fun iv s2 hpt9 => ?_))
  obtain ⟨y, H2, I2, r2, q2⟩ := hpt9
  refine wpAny_bind (wpAny_standAt (wpAny_bind (wpAny_holding (thn (hs pins s2 σ H2 x y v ov iv u _ I2 r1 r2 r q2) fun _ s3 hpt9 => ?_))))
  obtain ⟨H3, I3, q3⟩ := hpt9
  exact wpAny_release ⟨σ, H3, I3, q3⟩
noncomputable def tAsg (te : TE) (g : TG) : TS := fun D σ H => te σ H fun x H1 => g x σ H1 D.nx
theorem ps_asg {tg e : Expr} {te : TE} {g : TG} (he : PE X e te) (hg : PG X tg g) (hs : swapsWithSole [tg] e pos.line X.env = pure false := by rfl) (hw : swappedStores [tg] e X.env = pure none := by rfl)
    (h1 : (assignEach [tg] X.env).map (·.2) = [assign tg X.env] := by rfl) : PS X (.Assign [tg] e pos) (tAsg te g) := by
  intro pins s σ H D I h
  refine wpAny_Assign_stores (thn (he pins s σ H _ I h) fun v s1 hpt9 => ?_) hs hw
  obtain ⟨x, H1, I1, r1, q1⟩ := hpt9
  rw [h1]
  exact thn (hg pins s1 σ H1 x v _ I1 r1 q1) fun _ s2 q => q
theorem ps_set {i : Nat} {x : Str} {e : Expr} {te : TE} {pos' : Pos} (hN : X.N.Nodup) (hi : X.N[i]? = some x) (hx : Loc X.env.scope x) (he : PE X e te) (hs : swapsWith e (some (.Name x pos')) pos.line X.env = pure false := by rfl) (hf : X.fn x = true ∨ X.env.scope.names.lookup x = some .local := by first | exact .inl rfl | exact .inr rfl | assumption) :
    PS X (.Assign [.Name x pos'] e pos) (tAsg te (gName i)) := by
  intro pins s σ H D I h
  refine wpAny_Assign_Name (thn (he pins s σ H _ I h) fun v s1 hpt9 => ?_) hs
  obtain ⟨y, H1, I1, r1, q1⟩ := hpt9
  exact store_ok I1 hN hi hx r1 (fun s2 I2 => ⟨_, H1, I2, q1⟩) hf
noncomputable def tAug (i : Nat) (te : TE) (ti : TIp) : TS := fun D σ H => ∃ x, σ[i]? = some (some x) ∧ te σ H fun y H1 => ti x y H1 fun z H2 => D.nx (σ.set i (some z)) H2
theorem ps_aug {i : Nat} {x : Str} {e : Expr} {te : TE} {op : Operator} {ti : TIp} {pos' : Pos} (hN : X.N.Nodup) (hi : X.N[i]? = some x) (hx : Loc X.env.scope x) (he : PE X e te) (ho : PIp X op ti) (hf : X.fn x = true ∨ X.env.scope.names.lookup x = some .local := by first | exact .inl rfl | exact .inr rfl | assumption) :
    PS X (.AugAssign (.Name x pos') op e pos) (tAug i te ti) := by
  intro pins s σ H D I h
  obtain ⟨v, e1, h⟩ := h
  obtain ⟨m, hn, hl⟩ := I.loc
  have vis : Vis X.env.scope x := by rcases hx with k | k; exact .inl k; exact .inr (.inl k)
  obtain ⟨u, r, l⟩ := hl i x v hi e1 vis
  refine wpAny_AugAssign_Name ?_
  have go : wpAny (model X.prog X.w) X.A (eval e X.env) (fun w s₂ => wpAny (model X.prog X.w) X.A (inplaceOp op u w) (fun r s₃ => wpAny (model X.prog X.w) X.A (storeName X.env x r) (fun _ => SP X pins D .next) X.xe s₃) X.xe s₂) X.xe s := by
    refine thn (he pins s σ H _ I h) fun w s1 hpt9 => ?_
    obtain ⟨y, H1, I1, r1, q1⟩ := hpt9
    refine thn (ho pins s1 σ H1 v y u w _ I1 r r1 q1) fun z s2 hpt9 => ?_
    obtain ⟨zv, H2, I2, r2, q2⟩ := hpt9
    exact store_ok I2 hN hi hx r2 (fun s3 I3 => ⟨_, H2, I3, q2⟩) hf
  rcases l with ⟨hk, hm⟩ | ⟨hk, c, hc, hcell⟩
  · exact wpAny_loadName_local I.ok.kind hk hn hm go
  · rcases hk with hk | hk
    · exact wpAny_loadName_cell I.ok.kind hk hc hcell go
    · rcases hx with k | k
      · have : X.env.scope.names.lookup x = some .free := hk
        rw [k] at this; cases this
      · have : X.env.scope.names.lookup x = some .free := hk
        rw [k] at this; cases this
noncomputable def ipI (f : Int → Int → Int) : TIp := fun x y H Q => ∃ i j, x = .int i ∧ y = .int j ∧ Q (.int (f i j)) H
theorem ip_add : PIp X .Add (ipI fun i j => i + j) := by
  intro pins s σ H x y v u Q I r1 r2 h
  obtain ⟨i, j, e1, e2, q⟩ := h
  subst e1; subst e2
  obtain ⟨t, rfl⟩ := r1
  obtain ⟨t', rfl⟩ := r2
  exact iadd_int ⟨.int _, H, I.tok _, ⟨_, rfl⟩, q⟩
end
section
variable {X : Cx} {pos : Pos}
noncomputable def tWhile (c : TT) (tb : TS) : TS := fun D σ H => ∃ W : Nat → St → Hp → Prop, (∃ m, W m σ H) ∧ ∀ m σ H, W m σ H →
  c σ H fun b H1 => if b = true then ∃ N : St → Hp → Prop, (∀ σ' H', N σ' H' → ∃ m', m' < m ∧ W m' σ' H') ∧ tb { D with nx := N, ct := N, bk := D.nx } σ H1 else D.nx σ H1
theorem ps_while {c : Expr} {body : List Stmt} {tc : TT} {tb : TS} (hp : PassesOwn (model X.prog X.w) X.A X.env X.xe) (hc : PT X c tc) (hb : PSs X body tb) : PS X (.While c body [] pos) (tWhile tc tb) := by
  intro pins s σ H D I h
  obtain ⟨W, ⟨m0, w0⟩, turn⟩ := h
  refine wpAny_While (codeAny_whileLoop (fun n s' => ∃ σ' H', Inv X pins σ' H' s' ∧ W n σ' H') ?_ m0 ⟨σ, H, I, w0⟩)
  rintro n s1 ⟨σ1, H1, I1, w1⟩
  refine wpAny_passesOwn hp (thn (hc pins s1 σ1 H1 _ I1 (turn n σ1 H1 w1)) fun b s2 hpt9 => ?_)
  obtain ⟨H2, I2, q2⟩ := hpt9
  cases b with
  | true =>
    obtain ⟨N, hN, q2⟩ := q2
    rw [if_pos rfl]
    refine wpAny_passesOwn hp (thn (hb pins s2 σ1 H2 _ I2 q2) fun f s3 q3 => ?_)
    cases f with
    | next =>
      obtain ⟨σ3, H3, I3, n3⟩ := q3
      obtain ⟨m', hm, w3⟩ := hN σ3 H3 n3
      exact ⟨m', hm, σ3, H3, I3, w3⟩
    | cont =>
      obtain ⟨σ3, H3, I3, n3⟩ := q3
      obtain ⟨m', hm, w3⟩ := hN σ3 H3 n3
      exact ⟨m', hm, σ3, H3, I3, w3⟩
    | brk => exact q3
    | ret v => exact q3
  | false =>
    rw [if_neg Bool.false_ne_true]
    exact wpAny_execs_nil ⟨σ1, H2, I2, q2⟩
end
structure It where
  go : Nat → Hp → Prop
  yld : Nat → Hp → V → Hp → Prop
  stop : Nat → Hp → Prop
noncomputable def FpOk (X : Cx) (pins : List (Addr × Obj)) (H : Hp) (b : Addr) : Prop :=
  H b = none ∧ b ≠ X.env.locals ∧ b ∉ X.fs ∧ (b ∈ X.ex ∨ X.s₀.heap.objs.size ≤ b) ∧ (∀ x c, X.env.cells.lookup x = some c → c ≠ b) ∧ ∀ p ∈ X.pn ++ pins, p.1 ≠ b
theorem Inv.fpOk {X : Cx} {pins : List (Addr × Obj)} {σ : St} {H H' : Hp} {s : Shared} {b : Addr} (I : Inv X pins σ H s) (hb : s.heap.objs.size ≤ b) (hn : H' b = none) : FpOk X pins H' b := by
  refine ⟨hn, Nat.ne_of_gt (Nat.lt_of_lt_of_le I.lt hb), I.nofs hb, .inr (Nat.le_trans I.sz hb), fun x c e z => ?_, fun p hp z => ?_⟩
  · obtain ⟨v, q⟩ := I.cell x c e
    exact absurd (Nat.lt_of_lt_of_le q.lt (by rw [z]; exact hb)) (Nat.lt_irrefl _)
  · exact absurd (Nat.lt_of_lt_of_le (Heap.lt_size (I.pin p hp).1) (by rw [z]; exact hb)) (Nat.lt_irrefl _)
structure Turn (P : Program) (w : World) (K : PySem.W.Frag) (tg : Expr) (J : It) (fp : List Addr) (it : Addr) (tn : Nat → Heap → Prop) : Prop where
  mem : it ∈ fp
  obj : ∀ i h, tn i h → ∀ b ∈ fp, ∃ o, h.get? b = some o ∧ ∀ v, o.data ≠ .cell v
  keep : ∀ i h h', tn i h → (∀ b ∈ fp, ∀ o, h.get? b = some o → h'.get? b = some o) → tn i h'
  item : ∀ (X : Cx), X.prog = P → X.w = w → X.K = K → X.calm = true → ∀ (i : Nat) (pins : List (Addr × Obj)) (s : Shared) (σ : St) (H : Hp) (E : Value → Shared → Prop), Inv X pins σ H s → (∀ b ∈ fp, FpOk X pins H b) → tn i s.heap → J.go i H →
    wpAny (model P w) X.A (pyNext (.ref it)) (fun r s1 => ∃ u, r = some u ∧
      wpAny (model P w) X.A (letOwnedTupleGo tg (.ref it) u) (fun _ s2 => ∃ x H', Inv X pins σ H' s2 ∧ RelV x u ∧ J.yld i H x H' ∧ tn (i + 1) s2.heap ∧ ∀ b ∈ fp, H' b = none) E s1) E s
  done : ∀ (X : Cx), X.prog = P → X.w = w → X.K = K → X.calm = true → ∀ (i : Nat) (pins : List (Addr × Obj)) (s : Shared) (σ : St) (H : Hp) (E : Value → Shared → Prop), Inv X pins σ H s → (∀ b ∈ fp, FpOk X pins H b) → tn i s.heap → J.stop i H →
    wpAny (model P w) X.A (pyNext (.ref it)) (fun r s1 => r = none ∧ Inv X pins σ H s1) E s
  self : ∀ (A : Around) (i : Nat) (s : Shared) (Q : Value → Shared → Prop) (E : Value → Shared → Prop), tn i s.heap → Q (.ref it) s → wpAny (model P w) A (pyIter (.ref it)) Q E s
noncomputable abbrev TI := St → Hp → (It → Hp → Prop) → Prop
noncomputable def PIE (X : Cx) (pins : List (Addr × Obj)) (σ : St) (tg : Expr) (R : It → Hp → Prop) (itv : Value) (s2 : Shared) : Prop :=
  ∃ (it : Addr) (fp : List Addr) (tn : Nat → Heap → Prop) (J : It) (H' : Hp), itv = .ref it ∧ Inv X pins σ H' s2 ∧ Turn X.prog X.w X.K tg J fp it tn ∧ tn 0 s2.heap ∧ (∀ b ∈ fp, FpOk X pins H' b) ∧ R J H'
noncomputable def PI (X : Cx) (tg iter : Expr) (wi : TI) : Prop :=
  ∀ (pins : List (Addr × Obj)) (s : Shared) (σ : St) (H : Hp) (R : It → Hp → Prop), Inv X pins σ H s → wi σ H R →
    wpAny (model X.prog X.w) X.A (eval iter X.env) (fun v s1 => wpAny (model X.prog X.w) X.A (pyIter v) (PIE X pins σ tg R) X.xe s1) X.xe s
theorem go_of {M : Model} {A : Around} {E : Value → Shared → Prop} {s : Shared} {tg : Expr} {it : Addr} {u : Value} {o : Obj} {n : String} {vs : Array Value} {Q : Unit → Shared → Prop} (ho : s.heap.get? it = some o) (hc : o.cls = .type n) (hd : o.data = .fields vs)
    (hn : ["enumerate", "zip", "dict_itemiterator", "dict_reverseitemiterator", "odict_iterator", "itertools.zip_longest", "itertools.pairwise"].contains n = false) (hQ : Q () s) : wpAny M A (letOwnedTupleGo tg (.ref it) u) Q E s := by
  unfold letOwnedTupleGo
  cases tg <;> first
    | exact wpAny_pure hQ
    | (cases u <;> first
        | exact wpAny_pure hQ
        | (refine wpAny_bind (wpAny_load ho ?_)
           rw [hc, hd]
           show wpAny M A (if (["enumerate", "zip", "dict_itemiterator", "dict_reverseitemiterator", "odict_iterator", "itertools.zip_longest", "itertools.pairwise"].contains n && vs[0]? == some (rawInt _)) = true then _ else _) Q E s
           rw [if_neg (by intro h; rw [hn, Bool.false_and] at h; cases h)]
           exact wpAny_pure hQ))
noncomputable def Itl (K : PySem.W.Frag) (a : Addr) : It :=
  ⟨fun i H => ∃ xs x, SqL K H a xs ∧ xs[i]? = some x, fun i H x H' => H' = H ∧ ∀ xs, SqL K H a xs → xs[i]? = some x, fun i H => ∃ xs, SqL K H a xs ∧ xs.length ≤ i⟩
noncomputable def Itt (K : PySem.W.Frag) (a : Addr) : It :=
  ⟨fun i H => ∃ xs x, SqT K H a xs ∧ xs[i]? = some x, fun i H x H' => H' = H ∧ ∀ xs, SqT K H a xs → xs[i]? = some x, fun i H => ∃ xs, SqT K H a xs ∧ xs.length ≤ i⟩
theorem turn_list {P : Program} {w : World} {K : PySem.W.Frag} {tg : Expr} (a it : Addr) : Turn P w K tg (Itl K a) [it] it (fun i h => h.IsListIter it a i) where
  mem := by simp
  obj := fun i h st b hb => by
    have e : b = it := by simpa using hb
    subst e
    obtain ⟨o, e, c, d⟩ := st
    exact ⟨o, e, fun v z => by rw [d] at z; cases z⟩
  keep := fun i h h' st k => st.at fun o e => k it (by simp) o e
  item := by
    intro X hP hw hK hc i pins s σ H E I hf st hg
    subst hP hw hK
    obtain ⟨xs, x, hq, hx⟩ := hg
    obtain ⟨its, rv, p, hz⟩ := I.list hq
    obtain ⟨u, hu, ru⟩ := rv.get hx
    obtain ⟨f0, f1, f2, f3, f4, f5⟩ := hf it (by simp)
    refine wpAny_pyNext_list_item st p.isList (x := u) (by simpa using hu) fun h' st' sb => ?_
    have I1 : Inv X pins σ H { s with heap := h' } := I.turned (t' := s.toks) (fun b o hb e => (sb.2 b hb).trans e) f0 f1 f3 f4 f5
    obtain ⟨o, e, c, d⟩ := id st'
    exact ⟨u, rfl, go_of (s := { s with heap := h' }) e c d (by decide) ⟨x, H, I1, ru, ⟨rfl, fun ys hy => by rw [I.list_inj hy hq]; exact hx⟩, st', fun b hb => (hf b hb).1⟩⟩
  done := by
    intro X hP hw hK hc i pins s σ H E I hf st hg
    subst hP hw hK
    obtain ⟨xs, hq, hx⟩ := hg
    obtain ⟨its, rv, p, hz⟩ := I.list hq
    obtain ⟨f0, f1, f2, f3, f4, f5⟩ := hf it (by simp)
    have hl := rv.length
    exact wpAny_pyNext_list_end (I.ok.hd hc) st p.isList (by simp; lia) fun h' eb => ⟨rfl, I.turned (t' := s.toks) (fun b o hb e => eb b o hb e) f0 f1 f3 f4 f5⟩
  self := fun _ _ _ _ _ st h => wpAny_pyIter_listiter st h
theorem turn_tuple {P : Program} {w : World} {K : PySem.W.Frag} {tg : Expr} (a it : Addr) : Turn P w K tg (Itt K a) [it] it (fun i h => h.IsTupleIter it a i) where
  mem := by simp
  obj := fun i h st b hb => by
    have e : b = it := by simpa using hb
    subst e
    obtain ⟨o, e, c, d⟩ := st
    exact ⟨o, e, fun v z => by rw [d] at z; cases z⟩
  keep := fun i h h' st k => st.at fun o e => k it (by simp) o e
  item := by
    intro X hP hw hK hc i pins s σ H E I hf st hg
    subst hP hw hK
    obtain ⟨xs, x, hq, hx⟩ := hg
    obtain ⟨its, rv, p, hz⟩ := I.tuple hq
    obtain ⟨u, hu, ru⟩ := rv.get hx
    obtain ⟨f0, f1, f2, f3, f4, f5⟩ := hf it (by simp)
    refine wpAny_pyNext_tuple_item st (show s.heap.IsTuple a its.toArray from p) (x := u) (by simpa using hu) fun h' st' sb => ?_
    have I1 : Inv X pins σ H { s with heap := h' } := I.turned (t' := s.toks) (fun b o hb e => (sb.2 b hb).trans e) f0 f1 f3 f4 f5
    obtain ⟨o, e, c, d⟩ := id st'
    exact ⟨u, rfl, go_of (s := { s with heap := h' }) e c d (by decide) ⟨x, H, I1, ru, ⟨rfl, fun ys hy => by rw [I.tuple_inj hy hq]; exact hx⟩, st', fun b hb => (hf b hb).1⟩⟩
  done := by
    intro X hP hw hK hc i pins s σ H E I hf st hg
    subst hP hw hK
    obtain ⟨xs, hq, hx⟩ := hg
    obtain ⟨its, rv, p, hz⟩ := I.tuple hq
    obtain ⟨f0, f1, f2, f3, f4, f5⟩ := hf it (by simp)
    have hl := rv.length
    exact wpAny_pyNext_tuple_end (I.ok.hd hc) st (show s.heap.IsTuple a its.toArray from p) (by simp; lia) fun h' eb => ⟨rfl, I.turned (t' := s.toks) (fun b o hb e => eb b o hb e) f0 f1 f3 f4 f5⟩
  self := fun _ _ _ _ _ st h => wpAny_pyIter_tupleiter st h
end L2
namespace L2
open PySem PySem.Spec PyProof.Rows
section
variable {X : Cx} {tg : Expr}
noncomputable def tFor (wi : TI) (g : TG) (tb : TS) : TS := fun D σ H => wi σ H fun J H1 => ∃ W : Nat → Nat → St → Hp → Prop, (∃ m, W 0 m σ H1) ∧ ∀ i m σ H, W i m σ H →
  (J.stop i H ∧ D.nx σ H) ∨ (J.go i H ∧ ∃ N : St → Hp → Prop, (∀ σ' H', N σ' H' → ∃ m', m' < m ∧ W (i + 1) m' σ' H') ∧ ∀ x H', J.yld i H x H' → g x σ H' fun σ2 H2 => tb { D with nx := N, ct := N, bk := D.nx } σ2 H2)
noncomputable def pinsAt (fp : List Addr) (h : Heap) : List (Addr × Obj) := fp.filterMap fun b => (h.get? b).map fun o => (b, o)
theorem mem_pinsAt {fp : List Addr} {h : Heap} {b : Addr} {o : Obj} (hb : b ∈ fp) (e : h.get? b = some o) : (b, o) ∈ pinsAt fp h := List.mem_filterMap.mpr ⟨b, hb, by rw [e]; rfl⟩
theorem of_pinsAt {fp : List Addr} {h : Heap} {p : Addr × Obj} (hp : p ∈ pinsAt fp h) : p.1 ∈ fp ∧ h.get? p.1 = some p.2 := by
  obtain ⟨b, hb, e⟩ := List.mem_filterMap.mp hp
  cases q : h.get? b with
  | none => rw [q] at e; cases e
  | some o =>
    rw [q] at e
    have e' : (b, o) = p := Option.some.inj e
    subst e'
    exact ⟨hb, q⟩
theorem Inv.pinned {pins : List (Addr × Obj)} {σ : St} {H : Hp} {s : Shared} {fp : List Addr} (I : Inv X pins σ H s) (hf : ∀ b ∈ fp, FpOk X pins H b) (ho : ∀ b ∈ fp, ∃ o, s.heap.get? b = some o ∧ ∀ v, o.data ≠ .cell v) : Inv X (pins ++ pinsAt fp s.heap) σ H s :=
  I.pins_of fun p hp => (List.mem_append.mp hp).elim (fun z => I.pin p (List.mem_append_right _ z)) fun z => by
    obtain ⟨hb, e⟩ := of_pinsAt z
    obtain ⟨f0, f1, f2, _⟩ := hf p.1 hb
    obtain ⟨o, e', d⟩ := ho p.1 hb
    rw [e] at e'; cases e'
    exact ⟨e, f0, f1, f2, d⟩
theorem Inv.unpinned {pins pl : List (Addr × Obj)} {σ : St} {H : Hp} {s : Shared} (I : Inv X (pins ++ pl) σ H s) : Inv X pins σ H s := I.pins_of fun p hp => I.pin p (List.mem_append_right _ (List.mem_append_left _ hp))
theorem ps_for {iter : Expr} {body : List Stmt} {wi : TI} {g : TG} {tb : TS} {pos : Pos} (hp : PassesOwn (model X.prog X.w) X.A X.env X.xe) (hc : X.calm = true) (hi : PI X tg iter wi) (hg : PG X tg g) (hb : PSs X body tb)
    (hs : ∀ x, foldedSetIterable iter X.env x = pure x := by intro _; rfl) : PS X (.For tg iter body [] pos) (tFor wi g tb) := by
  intro pins s σ H D I h
  refine wpAny_For (thn (hi pins s σ H _ I h) fun v s1 h1 => thn h1 fun itv s2 h2 => ?_) hs
  obtain ⟨it, fp, tn, J, H2, e, I2, T, st2, f2, W, ⟨m0, w0⟩, turn⟩ := h2
  subst e
  -- what stays true of the iterator's objects through the loop
  have stat : ∀ {H' : Hp}, (∀ b ∈ fp, H' b = none) → ∀ b ∈ fp, FpOk X pins H' b := fun hn b hb => ⟨hn b hb, (f2 b hb).2⟩
  refine codeAny_forLoop_any (fun n s' => ∃ i σ' H', Inv X pins σ' H' s' ∧ tn i s'.heap ∧ (∀ b ∈ fp, H' b = none) ∧ W i n σ' H') ?_ m0 ⟨0, σ, H2, I2, st2, fun b hb => (f2 b hb).1, w0⟩
  rintro n s3 ⟨i, σ3, H3, I3, st3, fr3, w3⟩
  rcases turn i n σ3 H3 w3 with ⟨stop, qn⟩ | ⟨go, N, hN, step⟩
  · refine wpAny_passesOwn hp (thn (T.done X rfl rfl rfl hc i pins s3 σ3 H3 X.xe I3 (stat fr3) st3 stop) fun r s4 ⟨hr, I4⟩ => ?_)
    subst hr
    exact wpAny_execs_nil ⟨σ3, H3, I4, qn⟩
  · refine wpAny_passesOwn hp (thn (T.item X rfl rfl rfl hc i pins s3 σ3 H3 X.xe I3 (stat fr3) st3 go) fun r s4 ⟨u, hr, h4⟩ => ?_)
    subst hr
    refine wpAny_passesOwn hp (thn h4 fun _ s5 hpt9 => ?_)
    obtain ⟨x, H5, I5, r5, y5, st5, fr5⟩ := hpt9
    have I5' := I5.pinned (stat fr5) (T.obj _ _ st5)
    refine wpAny_passesOwn hp (thn (hg _ s5 σ3 H5 x u _ I5' r5 (step x H5 y5)) fun _ s6 hpt9 => ?_)
    obtain ⟨σ6, H6, I6, q6⟩ := hpt9
    refine wpAny_passesOwn hp (thn (hb _ s6 σ6 H6 _ I6 q6) fun f s7 q7 => ?_)
    have again : ∀ {σ7 : St} {H7 : Hp}, Inv X (pins ++ pinsAt fp s5.heap) σ7 H7 s7 → N σ7 H7 → ∃ m, m < n ∧ ∃ i σ' H', Inv X pins σ' H' s7 ∧ tn i s7.heap ∧ (∀ b ∈ fp, H' b = none) ∧ W i m σ' H' := fun {σ7 H7} I7 n7 => by
      obtain ⟨m', hm, w7⟩ := hN σ7 H7 n7
      refine ⟨m', hm, i + 1, σ7, H7, I7.unpinned, T.keep _ _ _ st5 fun b hb o e => (I7.pin (b, o) (List.mem_append_right _ (List.mem_append_right _ (mem_pinsAt hb e)))).1, fun b hb => ?_, w7⟩
      obtain ⟨o, e, d⟩ := T.obj _ _ st5 b hb
      exact (I7.pin (b, o) (List.mem_append_right _ (List.mem_append_right _ (mem_pinsAt hb e)))).2.1
    cases f with
    | next => obtain ⟨σ7, H7, I7, n7⟩ := q7; exact again I7 n7
    | cont => obtain ⟨σ7, H7, I7, n7⟩ := q7; exact again I7 n7
    | brk => obtain ⟨σ7, H7, I7, q7⟩ := q7; exact ⟨σ7, H7, I7.unpinned, q7⟩
    | ret v => obtain ⟨x7, σ7, H7, I7, r7, q7⟩ := q7; exact ⟨x7, σ7, H7, I7.unpinned, r7, q7⟩
end
end L2
namespace L2
open PySem PySem.Spec PyProof.Rows
noncomputable abbrev R2 := V → V → Hp → VK → Prop
noncomputable def OpR (X : Cx) (f : Value → Value → Sem Value) (r : R2) : Prop :=
  ∀ (pins : List (Addr × Obj)) (s : Shared) (σ : St) (H : Hp) (x y : V) (v u : Value) (Q : VK), Inv X pins σ H s → RelV x v → RelV y u → r x y H Q →
    wpAny (model X.prog X.w) X.A (f v u) (EP X pins σ Q) X.xe s
noncomputable def UnR (X : Cx) (f : Value → Sem Value) (r : V → Hp → VK → Prop) : Prop :=
  ∀ (pins : List (Addr × Obj)) (s : Shared) (σ : St) (H : Hp) (x : V) (v : Value) (Q : VK), Inv X pins σ H s → RelV x v → r x H Q →
    wpAny (model X.prog X.w) X.A (f v) (EP X pins σ Q) X.xe s
noncomputable def CallR (X : Cx) (f : Value) (r : List V → Hp → VK → Prop) : Prop :=
  ∀ (pins : List (Addr × Obj)) (s : Shared) (σ : St) (H : Hp) (xs : List V) (us : List Value) (Q : VK), Inv X pins σ H s → Vals xs us → r xs H Q →
    wpAny (model X.prog X.w) X.A (call f us) (EP X pins σ Q) X.xe s
noncomputable def TruR (X : Cx) (r : V → Hp → (Bool → Hp → Prop) → Prop) : Prop :=
  ∀ (pins : List (Addr × Obj)) (s : Shared) (σ : St) (H : Hp) (x : V) (v : Value) (Q : Bool → Hp → Prop), Inv X pins σ H s → RelV x v → r x H Q →
    wpAny (model X.prog X.w) X.A (truthy v) (TP X pins σ Q) X.xe s
noncomputable def tOp (r : R2) (ta tb : TE) : TE := fun σ H Q => ta σ H fun x H1 => tb σ H1 fun y H2 => r x y H2 Q
noncomputable def tUn (r : V → Hp → VK → Prop) (ta : TE) : TE := fun σ H Q => ta σ H fun x H1 => r x H1 Q
noncomputable def rI (C : Int → Int → Prop) (g : Int → Int → V) : R2 := fun x y H Q => ∃ i j, x = .int i ∧ y = .int j ∧ C i j ∧ Q (g i j) H
noncomputable def rI0 (g : Int → Int → V) : R2 := fun x y H Q => ∃ i j, x = .int i ∧ y = .int j ∧ Q (g i j) H
noncomputable def rU (g : Int → V) : V → Hp → VK → Prop := fun x H Q => ∃ i, x = .int i ∧ Q (g i) H
section
variable {X : Cx} {a b c : Expr} {ta tb tc : TE} {pos : Pos}
theorem binT (ha : PE X a ta) (hb : PE X b tb) {pins : List (Addr × Obj)} {s : Shared} {σ : St} {H : Hp} {R : V → V → Hp → Prop} (I : Inv X pins σ H s)
    (h : ta σ H fun x H1 => tb σ H1 fun y H2 => R x y H2) {Q : Value → Shared → Prop} {f : Value → Value → Sem Value}
    (hf : ∀ v u s2 x y H2, Inv X pins σ H2 s2 → RelV x v → RelV y u → R x y H2 → wpAny (model X.prog X.w) X.A (f v u) Q X.xe s2) :
    wpAny (model X.prog X.w) X.A (eval a X.env) (fun v s₁ => wpAny (model X.prog X.w) X.A (eval b X.env) (fun u s₂ => wpAny (model X.prog X.w) X.A (f v u) Q X.xe s₂) X.xe s₁) X.xe s := by
  refine thn (ha pins s σ H _ I h) fun v s1 hpt9 => ?_
  obtain ⟨x, H1, I1, r1, q1⟩ := hpt9
  refine thn (hb pins s1 σ H1 _ I1 q1) fun u s2 hpt9 => ?_
  obtain ⟨y, H2, I2, r2, q2⟩ := hpt9
  exact hf v u s2 x y H2 I2 r1 r2 q2
theorem pe_op {op : Operator} {r : R2} (ho : OpR X (binaryOp op) r) (ha : PE X a ta) (hb : PE X b tb) : PE X (.BinOp a op b pos) (tOp r ta tb) := by
  intro pins s σ H Q I h
  exact wpAny_BinOp (binT ha hb I h fun v u s2 x y H2 I2 rx ry q => ho pins s2 σ H2 x y v u Q I2 rx ry q)
theorem pe_un {op : UnaryOp} {r : V → Hp → VK → Prop} (ho : UnR X (unaryOp op) r) (ha : PE X a ta) : PE X (.UnaryOp op a pos) (tUn r ta) := by
  intro pins s σ H Q I h
  exact UnaryOp_ (thn (ha pins s σ H _ I h) fun v s1 ⟨x, H1, I1, r1, q1⟩ => ho pins s1 σ H1 x v Q I1 r1 q1)
theorem opI {f : Value → Value → Sem Value} {C : Int → Int → Prop} {g : Int → Int → Int}
    (rule : ∀ (i j : Int) (t u : Tok) (s : Shared) (Q : Value → Shared → Prop) (E : Value → Shared → Prop), C i j → Q (.int (g i j) s.toks) { s with toks := s.toks + 1 } → wpAny (model X.prog X.w) X.A (f (.int i t) (.int j u)) Q E s) :
    OpR X f (rI C fun i j => .int (g i j)) := by
  intro pins s σ H x y v u Q I rx ry h
  obtain ⟨i, j, rfl, rfl, hc, q⟩ := h
  obtain ⟨t, rfl⟩ := rx
  obtain ⟨t', rfl⟩ := ry
  exact rule i j t t' s _ _ hc ⟨.int (g i j), H, I.tok _, ⟨_, rfl⟩, q⟩
theorem opI0 {f : Value → Value → Sem Value} {g : Int → Int → Int}
    (rule : ∀ (i j : Int) (t u : Tok) (s : Shared) (Q : Value → Shared → Prop) (E : Value → Shared → Prop), Q (.int (g i j) s.toks) { s with toks := s.toks + 1 } → wpAny (model X.prog X.w) X.A (f (.int i t) (.int j u)) Q E s) :
    OpR X f (rI0 fun i j => .int (g i j)) := by
  intro pins s σ H x y v u Q I rx ry h
  obtain ⟨i, j, rfl, rfl, q⟩ := h
  obtain ⟨t, rfl⟩ := rx
  obtain ⟨t', rfl⟩ := ry
  exact rule i j t t' s _ _ ⟨.int (g i j), H, I.tok _, ⟨_, rfl⟩, q⟩
theorem opB0 {f : Value → Value → Sem Value} {g : Int → Int → Bool}
    (rule : ∀ (i j : Int) (t u : Tok) (s : Shared) (Q : Value → Shared → Prop) (E : Value → Shared → Prop), Q (.bool (g i j)) s → wpAny (model X.prog X.w) X.A (f (.int i t) (.int j u)) Q E s) :
    OpR X f (rI0 fun i j => .bl (g i j)) := by
  intro pins s σ H x y v u Q I rx ry h
  obtain ⟨i, j, rfl, rfl, q⟩ := h
  obtain ⟨t, rfl⟩ := rx
  obtain ⟨t', rfl⟩ := ry
  exact rule i j t t' s _ _ ⟨.bl (g i j), H, I, rfl, q⟩
noncomputable def CDiv (i j : Int) : Prop := 0 < j ∧ j < 1073741824
noncomputable def CPow (i j : Int) : Prop := 0 ≤ j ∧ j ≤ 1000000 ∧ i.natAbs < 2 ^ 64
noncomputable def CMul (i j : Int) : Prop := (-(2 ^ 64) < i ∧ i < 2 ^ 64) ∨ (-(2 ^ 64) < j ∧ j < 2 ^ 64)
theorem CMul.ok {i j : Int} (h : CMul i j) : IntMulOk i j := by
  rcases h with ⟨h1, h2⟩ | ⟨h1, h2⟩
  · exact .of_left (intBits_le_64 h1 h2)
  · exact .of_right (intBits_le_64 h1 h2)
theorem op_add : OpR X (binaryOp .Add) (rI0 fun i j => .int (i + j)) := opI0 fun _ _ _ _ _ _ _ q => add_int q
theorem op_sub : OpR X (binaryOp .Sub) (rI0 fun i j => .int (i - j)) := opI0 fun _ _ _ _ _ _ _ q => sub_int q
theorem op_mul : OpR X (binaryOp .Mult) (rI CMul fun i j => .int (i * j)) := opI fun _ _ _ _ _ _ _ hc q => mul_int q hc.ok
theorem op_fdiv : OpR X (binaryOp .FloorDiv) (rI CDiv fun i j => .int (i / j)) := opI fun i j _ _ _ _ _ hc q => by
  have h1 : (0 : Int) < j := hc.1
  have h2 : j < 1073741824 := hc.2
  exact floordiv_int (by lia) (by rw [Int.fdiv_eq_ediv_of_nonneg i (by lia)]; exact q) (.inl (PyProof.noPylong_small (by lia)))
theorem op_mod : OpR X (binaryOp .Mod) (rI (fun _ j => 0 < j) fun i j => .int (i % j)) := opI fun i j _ _ _ _ _ hc q => by
  have h1 : (0 : Int) < j := hc
  exact mod_int' (by lia) (by rw [Int.fmod_eq_emod_of_nonneg i (by lia)]; exact q)
theorem op_pow : OpR X (binaryOp .Pow) (rI CPow fun i j => .int (i ^ j.toNat)) := opI fun _ _ _ _ _ _ _ hc q => pow_int_small hc.1 hc.2.1 hc.2.2 q
theorem unI {f : Value → Sem Value} {g : Int → Int}
    (rule : ∀ (i : Int) (t : Tok) (s : Shared) (Q : Value → Shared → Prop) (E : Value → Shared → Prop), Q (.int (g i) s.toks) { s with toks := s.toks + 1 } → wpAny (model X.prog X.w) X.A (f (.int i t)) Q E s) :
    UnR X f (rU fun i => .int (g i)) := by
  intro pins s σ H x v Q I rx h
  obtain ⟨i, rfl, q⟩ := h
  obtain ⟨t, rfl⟩ := rx
  exact rule i t s _ _ ⟨.int (g i), H, I.tok _, ⟨_, rfl⟩, q⟩
theorem un_neg : UnR X (unaryOp .USub) (rU fun i => .int (-i)) := unI fun _ _ _ _ _ q => neg_int q
end
section
variable {X : Cx} {a b c : Expr} {ta tb tc : TE} {pos : Pos}
theorem op_lt : OpR X (compareOp .Lt) (rI0 fun i j => .bl (decide (i < j))) := opB0 fun _ _ _ _ _ _ _ q => lt_int q
theorem op_le : OpR X (compareOp .LtE) (rI0 fun i j => .bl (decide (i ≤ j))) := opB0 fun _ _ _ _ _ _ _ q => le_int q
theorem OpR.or {f : Value → Value → Sem Value} {r r' : R2} (h : OpR X f r) (h' : OpR X f r') : OpR X f (fun x y H Q => r x y H Q ∨ r' x y H Q) := by
  intro pins s σ H x y v u Q I rx ry q
  rcases q with q | q
  · exact h pins s σ H x y v u Q I rx ry q
  · exact h' pins s σ H x y v u Q I rx ry q
theorem nomark (b : Expr) {op : CmpOp} (h : op ≠ .In := by decide) (h2 : op ≠ .NotIn := by decide) : behindInMarks op b = false := by
  have e1 : (op == CmpOp.In) = false := by cases op <;> first | rfl | exact absurd rfl h
  have e2 : (op == CmpOp.NotIn) = false := by cases op <;> first | rfl | exact absurd rfl h2
  cases b <;> simp [behindInMarks, e1, e2]
theorem pe_cmpR {op : CmpOp} {r : R2} (ho : OpR X (compareOp op) r) (ha : PE X a ta) (hb : PE X b tb) (hm : behindInMarks op b = false) : PE X (.Compare a [op] [b] pos) (tOp r ta tb) := by
  intro pins s σ H Q I h
  exact wpAny_Compare1 (binT ha hb I h fun v u s2 x y H2 I2 rx ry q => ho pins s2 σ H2 x y v u Q I2 rx ry q) hm
noncomputable def tTest (t : TE) : TT := fun σ H Q => t σ H fun x H' => ∃ k, x = .bl k ∧ Q k H'
theorem pt_cmpR {op : CmpOp} {r : R2} (ho : OpR X (compareOp op) r) (ha : PE X a ta) (hb : PE X b tb) (hm : behindInMarks op b = false) : PT X (.Compare a [op] [b] pos) (tTest (tOp r ta tb)) := by
  intro pins s σ H Q I h
  refine wpAny_isTrue_Compare1 (thn (ha pins s σ H _ I h) fun v s1 ⟨x, H1, I1, r1, q1⟩ => thn (hb pins s1 σ H1 _ I1 q1) fun u s2 ⟨y, H2, I2, r2, q2⟩ =>
    thn (ho pins s2 σ H2 x y v u _ I2 r1 r2 q2) fun c s3 ⟨z, H3, I3, r3, k, e, q3⟩ => ?_) hm
  subst e
  cases r3
  exact wpAny_truthy_bool ⟨H3, I3, q3⟩
noncomputable def TruV (K : PySem.W.Frag) (x : V) (H : Hp) (k : Bool) : Prop :=
  match x with
  | .non => k = false
  | .bl b => k = b
  | .int i => k = (i != 0)
  | .str y => y.length ≤ sizeLine ∧ k = ((y.length : Int) != 0)
  | .byt y => y.size ≤ sizeLine ∧ k = ((y.size : Int) != 0)
  | .ref p => (∃ xs, SqL K H p xs ∧ k = !xs.isEmpty) ∨ (∃ xs, SqT K H p xs ∧ k = !xs.isEmpty) ∨ ∃ kvs, H p = some (.dK kvs) ∧ k = !kvs.isEmpty
  | _ => False
theorem isEmpty_kv {κ : Type} {kvs : List (κ × V)} {vs : List (κ × Value)} (r : KV kvs vs) : (!vs.isEmpty) = !kvs.isEmpty := by
  cases r <;> rfl
theorem isEmpty_of {xs : List V} {its : List Value} (r : Vals xs its) : (!its.toArray.isEmpty) = !xs.isEmpty := by
  cases r <;> simp
theorem line63 : (sizeLine : Nat) < 2 ^ 63 := by rw [sizeLine_eq]; decide
theorem tru_ok : TruR X (fun x H Q => ∃ k, TruV X.K x H k ∧ Q k H) := by
  intro pins s σ H x v Q I rx h
  obtain ⟨k, e, q⟩ := h
  have hl := line63
  have hs : sizeLine = 16777216 := sizeLine_eq
  cases x with
  | non =>
    cases rx
    have e' : k = false := e
    subst e'
    exact truthy_none ⟨H, I, q⟩
  | bl b =>
    cases rx
    have e' : k = b := e
    subst e'
    exact wpAny_truthy_bool ⟨H, I, q⟩
  | int i =>
    obtain ⟨t, rfl⟩ := rx
    have e' : k = (i != 0) := e
    subst e'
    exact PySem.P.truthy_int ⟨H, I, q⟩
  | str y =>
    obtain ⟨t, rfl⟩ := rx
    obtain ⟨hy, e'⟩ : y.length ≤ sizeLine ∧ k = ((y.length : Int) != 0) := e
    subst e'
    exact PySem.P.truthy_str (by lia) ⟨H, I.tok _, q⟩
  | byt y =>
    obtain ⟨t, rfl⟩ := rx
    obtain ⟨hy, e'⟩ : y.size ≤ sizeLine ∧ k = ((y.size : Int) != 0) := e
    subst e'
    exact PySem.W.truthy_bytes (by lia) ⟨H, I.tok _, q⟩
  | ref p =>
    cases rx
    have e' : (∃ xs, SqL X.K H p xs ∧ k = !xs.isEmpty) ∨ (∃ xs, SqT X.K H p xs ∧ k = !xs.isEmpty) ∨ ∃ kvs, H p = some (.dK kvs) ∧ k = !kvs.isEmpty := e
    rcases e' with ⟨xs, hx, e'⟩ | ⟨xs, hx, e'⟩ | ⟨kvs, hx, e'⟩
    · subst e'
      obtain ⟨its, r, pl, hz⟩ := I.list hx
      have hlen := r.length
      exact wpAny_truthy_list pl.isList (by simp only [List.size_toArray]; lia) ⟨H, I.tok _, by rw [isEmpty_of r]; exact q⟩
    · subst e'
      obtain ⟨its, r, pl, hz⟩ := I.tuple hx
      have hlen := r.length
      exact truthy_tuple pl (by simp only [List.size_toArray]; lia) ⟨H, I.tok _, by rw [isEmpty_of r]; exact q⟩
    · subst e'
      obtain ⟨hz, hS, vs, r, m⟩ : kvs.length ≤ sizeLine ∧ (p == sysModules) = false ∧ ∃ vs, KV kvs vs ∧ s.heap.DictOf (mixKind X.prog X.w) p vs := I.hok p _ hx
      have hlen : kvs.length = vs.length := Paired.length r
      exact wpAny_truthy_dict hS m (by lia) ⟨H, I.tok _, by rw [isEmpty_kv r]; exact q⟩
  | _ => exact (show False from e).elim
theorem pt_truth (ha : PE X a ta) (he : ∀ whole, isTrue a X.env whole = (do let v ← whole; standAt a.pos; holding [v] (truthy v))) :
    PT X a (fun σ H Q => ta σ H fun x H' => ∃ k, TruV X.K x H' k ∧ Q k H') := by
  intro pins s σ H Q I h
  exact isTrue_plain (thn (ha pins s σ H _ I h) fun v s1 ⟨x, H1, I1, r1, q1⟩ => tru_ok pins s1 σ H1 x v Q I1 r1 q1) (he _)
theorem op_add_str : OpR X (binaryOp .Add) (fun x y H Q => ∃ i j, x = .str i ∧ y = .str j ∧ i.length + j.length ≤ sizeLine ∧ Q (.str (i ++ j)) H) := by
  intro pins s σ H x y v u Q I rx ry h
  obtain ⟨i, j, rfl, rfl, hz, q⟩ := h
  obtain ⟨t, rfl⟩ := rx
  obtain ⟨t', rfl⟩ := ry
  exact add_str (fun t' tk => ⟨.str (i ++ j), H, I.tok _, ⟨_, rfl⟩, q⟩) hz
theorem vals1 {x : V} {us : List Value} (r : Vals [x] us) : ∃ u, us = [u] ∧ RelV x u := by
  cases r with
  | cons r1 r2 => cases r2; exact ⟨_, rfl, r1⟩
theorem vals2 {x y : V} {us : List Value} (r : Vals [x, y] us) : ∃ u w', us = [u, w'] ∧ RelV x u ∧ RelV y w' := by
  cases r with
  | cons r1 r2 =>
    cases r2 with
    | cons r3 r4 => cases r4; exact ⟨_, _, rfl, r1, r3⟩
theorem call_abs : CallR X (.builtin "abs") (fun xs H Q => ∃ i, xs = [.int i] ∧ Q (.int (if i < 0 then -i else i)) H) := by
  intro pins s σ H xs us Q I r h
  obtain ⟨i, rfl, q⟩ := h
  obtain ⟨u, rfl, t, rfl⟩ := vals1 r
  exact call_abs_int fun u tk => ⟨.int (if i < 0 then -i else i), H, I.tok _, ⟨_, rfl⟩, q⟩
theorem call_max2 (hc : X.calm = true) : CallR X (.builtin "max") (fun xs H Q => ∃ i j, xs = [.int i, .int j] ∧ Q (.int (if j > i then j else i)) H) := by
  intro pins s σ H xs us Q I r h
  obtain ⟨i, j, rfl, q⟩ := h
  obtain ⟨u, w', rfl, ⟨t, rfl⟩, ⟨t', rfl⟩⟩ := vals2 r
  refine max_two_ints (I.ok.hd hc) fun h' tk k => ⟨_, H, I.kept k, ?_, q⟩
  by_cases hj : j > i
  · rw [if_pos hj, if_pos hj]; exact ⟨_, rfl⟩
  · rw [if_neg hj, if_neg hj]; exact ⟨_, rfl⟩
theorem call_min2 (hc : X.calm = true) : CallR X (.builtin "min") (fun xs H Q => ∃ i j, xs = [.int i, .int j] ∧ Q (.int (if j < i then j else i)) H) := by
  intro pins s σ H xs us Q I r h
  obtain ⟨i, j, rfl, q⟩ := h
  obtain ⟨u, w', rfl, ⟨t, rfl⟩, ⟨t', rfl⟩⟩ := vals2 r
  refine min_two_ints (I.ok.hd hc) fun h' tk k => ⟨_, H, I.kept k, ?_, q⟩
  by_cases hj : j < i
  · rw [if_pos hj, if_pos hj]; exact ⟨_, rfl⟩
  · rw [if_neg hj, if_neg hj]; exact ⟨_, rfl⟩
end
end L2
namespace L2
open PySem PySem.Spec PyProof.Rows
structure ObjM (h : Heap) (x dx C : Addr) (mA : Str → Option Value) : Prop where
  obj : h.get? x = some (PySem.W.instObj C dx)
  ns : h.Ns1 dx mA
  ne : dx ≠ x
theorem lookIn_ns {h : Heap} {dx : Addr} {mA : Str → Option Value} (n : h.Ns1 dx mA) : ∃ od, h.get? dx = some od ∧ ∀ name, PySem.W.lookIn name od = some (mA name) := by
  obtain ⟨o, es, ep, ho, hd, hk, _, hm⟩ := n
  refine ⟨o, ho, fun name => ?_⟩
  have e := hm name
  unfold nsFind findBy at e
  rw [← Array.find?_toList] at e
  unfold PySem.W.lookIn
  rw [hd]
  dsimp only
  split
  · rename_i y q
    rw [q] at e
    exact congrArg some e
  · rename_i q
    rw [q] at e
    have a : es.toList.any (·.refKey) = false := by
      rw [List.any_eq_false]
      intro y hy
      obtain ⟨z, t, hkey⟩ := hk y (Array.mem_toList_iff.mp hy)
      simp [DictEntry.refKey, hkey]
    have a' : ¬ es.toList.any (·.refKey) = true := by rw [a]; exact Bool.false_ne_true
    rw [if_neg a']
    exact congrArg some e
theorem ObjM.look {h : Heap} {x dx C : Addr} {mA : Str → Option Value} (I : ObjM h x dx C mA) : ∃ od, PySem.W.InstAt h x (PySem.W.instObj C dx) C (some od) ∧ ∀ name, PySem.W.lookIn name od = some (mA name) :=
  let ⟨od, ho, hl⟩ := lookIn_ns I.ns
  ⟨od, ⟨I.obj, rfl, rfl, ho⟩, hl⟩
section
variable {prog : Program} {w : World} {A : Around} {E : Value → Shared → Prop} {s : Shared} {K : PySem.W.Frag} {x dx C f : Addr} {mA : Str → Option Value} {name : Str} {v : Value}
theorem get_map {expr : Bool} {Q : Value → Shared → Prop} (X : K.In s.heap) (I : ObjM s.heap x dx C mA) (hg : PySem.W.plainGet K C name = true) (hh : PySem.W.hasDictIn K C = true)
    (ha : PySem.W.findIn K (.ref C) name = some none) (hv : mA name = some v) (hv' : PySem.W.handedIn v = true) (h : Q v { s with toks := s.toks + 1 }) :
    wpAny (model prog w) A (getAttr (.ref x) name expr) Q E s := by
  obtain ⟨od, J, hl⟩ := I.look
  exact PySem.W.get_value X J (PySem.W.plainGet_of hg).1 (PySem.W.findObj_own hh ha rfl (by rw [hl, hv])) hv' h
theorem get_meth {pl : Sem Bool} {Q : Value × List Value → Shared → Prop} (X : K.In s.heap) (I : ObjM s.heap x dx C mA) (hg : PySem.W.plainGet K C name = true)
    (hf : PySem.W.findIn K (.ref C) name = some (some (.ref f))) (ht : PySem.W.isFn K (.ref f) = true) (hv : mA name = none) (h : Q (.ref f, [.ref x]) s) :
    wpAny (model prog w) A (getMethod (.ref x) name pl) Q E s := by
  obtain ⟨od, J, hl⟩ := I.look
  exact PySem.W.method_fn X J (PySem.W.plainGet_of hg).1 (PySem.W.plainGet_of hg).2 hf (beq_iff_eq.mp ht) (by show (PySem.W.lookIn name od).map (·.isSome) = some false; rw [hl, hv]; rfl) h
theorem set_map {ns : List Str} {Q : Unit → Shared → Prop} (X : K.In s.heap) (I : ObjM s.heap x dx C mA)
    (hs : PySem.W.findIn K (.ref C) "__setattr__" = some (some (.builtin "object.__setattr__"))) (hp : PySem.W.plainOver K C = true) (ht : PySem.W.takerIn K C name = some none) (hh : PySem.W.hasDictIn K C = true)
    (hw : PySem.Within mA ns) (hsz : ns.length ≤ sizeLine)
    (h : ∀ h', ObjM h' x dx C (fun y => if y = name then some v else mA y) → Heap.SameBut dx s.heap h' → Q () { s with heap := h', toks := s.toks + 2 }) :
    wpAny (model prog w) A (setAttr (.ref x) name v) Q E s := by
  obtain ⟨od, J, hl⟩ := I.look
  refine PySem.W.set_plain X J hs (PySem.W.osa_open (s := { s with toks := s.toks + 1 }) (r := none) X J hp ht fun b => ?_)
  obtain ⟨cd, hc, hd'⟩ := PySem.W.any_some hh
  have hx : s.heap.get? x = some ⟨.ref C, some dx, .plain, #[]⟩ := I.obj
  refine wpAny_bind (wpAny_pure (wpAny_bind (wpAny_bind (wpAny_loadPart hx (wpAny_bind (PySem.W.Looks.here (s := { s with toks := s.toks + 1 }) (PySem.W.looks_clsIn X hc) ?_))))))
  rw [hd']
  refine wpAny_pure (a := some dx) (wpAny_bind (wpAny_pure (wpAny_bind ?_)))
  refine wpAny_nsSet1 (s := { s with toks := s.toks + 1 }) I.ns fun h' hn2 hs2 => ?_
  obtain ⟨oD, esD, epD, hoD, hdD, hcD⟩ := hn2.count (PySem.Within.cons name v hw)
  refine wpAny_bind (wpAny_lookBehind hoD (by rw [hdD]; exact pastItsLine_dict (Nat.le_trans hcD (by rw [List.length_cons]; lia))) ?_)
  exact wpAny_pure (h _ ⟨(hs2.2 _ (Ne.symm I.ne)).trans I.obj, hn2, I.ne⟩ hs2)
theorem make_map {R : Result → Shared → Prop} {vs : List Value} {kw : List (Str × Value)} (X : K.In s.heap) (hm : PySem.W.makesIn K C = true)
    (hi : PySem.W.findIn K (.ref C) "__init__" = some (some (.ref f))) (hf : PySem.W.typeIn K (.ref f) = some (.type "function"))
    (h : codeAny (model prog w) (A.under (.builtin "type.__call__" ⟨.ref C :: vs, kw⟩)) (.call (.ref f) ⟨.ref (s.heap.objs.size + 1) :: vs, kw⟩) (PySem.W.InitBack (s.heap.objs.size + 1) R)
      { s with heap := (s.heap.push PySem.W.emptyDict).push (PySem.W.instObj C s.heap.objs.size) }) :
    codeAny (model prog w) A (.call (.ref C) ⟨vs, kw⟩) R s := by
  obtain ⟨hh, g, d, t, os⟩ := s
  exact PySem.W.make_core (PySem.W.makes_of X hm) (PySem.W.looks_findIn X hi) (fun self => PySem.W.bind_fn X self hf) (.inl rfl) h
end
noncomputable def putF (f : Str) (v : V) : List (Str × V) → List (Str × V)
  | [] => [(f, v)]
  | (g, x) :: r => if g = f then (g, v) :: r else (g, x) :: putF f v r
theorem lookup_putF (f g : Str) (v : V) : ∀ fs : List (Str × V), (putF f v fs).lookup g = if g = f then some v else fs.lookup g
  | [] => by
    show List.lookup g [(f, v)] = _
    by_cases h : g = f
    · have hb : (g == f) = true := beq_iff_eq.mpr h
      simp only [List.lookup, hb, if_pos h]
    · have hb : (g == f) = false := beq_eq_false_iff_ne.mpr h
      simp only [List.lookup, hb, if_neg h]
  | (k, x) :: r => by
    have ih := lookup_putF f g v r
    rw [show putF f v ((k, x) :: r) = (if k = f then (k, v) :: r else (k, x) :: putF f v r) from rfl]
    by_cases hk : k = f
    · rw [if_pos hk]
      by_cases h : g = k
      · have hb : (g == k) = true := beq_iff_eq.mpr h
        simp only [List.lookup, hb, if_pos (h.trans hk)]
      · have hb : (g == k) = false := beq_eq_false_iff_ne.mpr h
        simp only [List.lookup, hb, if_neg (fun e : g = f => h (e.trans hk.symm))]
    · rw [if_neg hk]
      by_cases h : g = k
      · have hb : (g == k) = true := beq_iff_eq.mpr h
        simp only [List.lookup, hb, if_neg (fun e : g = f => hk (h.symm.trans e))]
      · have hb : (g == k) = false := beq_eq_false_iff_ne.mpr h
        simp only [List.lookup, hb]
        exact ih
theorem keys_putF (f : Str) (v : V) : ∀ fs : List (Str × V), f ∈ (putF f v fs).map (·.1) ∧ ∀ g, g ∈ fs.map (·.1) → g ∈ (putF f v fs).map (·.1)
  | [] => ⟨by simp [putF], fun g h => by simp at h⟩
  | (k, x) :: r => by
    obtain ⟨i1, i2⟩ := keys_putF f v r
    rw [show putF f v ((k, x) :: r) = (if k = f then (k, v) :: r else (k, x) :: putF f v r) from rfl]
    by_cases hk : k = f
    · rw [if_pos hk]
      subst hk
      exact ⟨by simp, fun g h => by simpa using h⟩
    · rw [if_neg hk]
      refine ⟨?_, fun g h => ?_⟩
      · rw [List.map_cons]
        exact List.mem_cons_of_mem _ i1
      · rw [List.map_cons] at h ⊢
        rcases List.mem_cons.mp h with e | e
        · exact List.mem_cons.mpr (.inl e)
        · exact List.mem_cons_of_mem _ (i2 g e)
theorem length_putF (f : Str) (v : V) : ∀ fs : List (Str × V), (putF f v fs).length ≤ fs.length + 1
  | [] => by simp [putF]
  | (k, x) :: r => by
    have ih := length_putF f v r
    rw [show putF f v ((k, x) :: r) = (if k = f then (k, v) :: r else (k, x) :: putF f v r) from rfl]
    by_cases hk : k = f
    · rw [if_pos hk, List.length_cons, List.length_cons]; lia
    · rw [if_neg hk, List.length_cons, List.length_cons]; lia
theorem RelO.some_of {v : V} {o : Option Value} (r : RelO (some v) o) : ∃ u, o = some u ∧ RelV v u := by
  cases o with
  | none => exact (show False from r).elim
  | some u => exact ⟨u, rfl, r⟩
theorem RelO.none_of {o : Option Value} (r : RelO none o) : o = none := by
  cases o with
  | none => rfl
  | some u => exact (show False from r).elim
theorem handed_of {v : V} {u : Value} (r : RelV v u) : PySem.W.handedIn u = true := by
  cases v with
  | non => cases (show u = Value.none from r); rfl
  | bl b => cases (show u = Value.bool b from r); rfl
  | int i => obtain ⟨t, e⟩ := (show ∃ t, u = Value.int i t from r); cases e; rfl
  | str x => obtain ⟨t, e⟩ := (show ∃ t, u = Value.str x t from r); cases e; rfl
  | byt b => obtain ⟨t, e⟩ := (show ∃ t, u = Value.bytes b t from r); cases e; rfl
  | flt b => obtain ⟨t, e⟩ := (show ∃ t, u = Value.float b t from r); cases e; rfl
  | ref a => cases (show u = Value.ref a from r); rfl
  | ty n => cases (show u = Value.type n from r); rfl
section
variable {P : Program} {w : World} {H H' : Hp} {h h' : Heap} {a C dx : Addr} {fs fs' : List (Str × V)}
theorem ins_get (hok : HOk P w H h) (e : H a = some (.ins C dx fs)) : ∃ mA, ObjM h a dx C mA ∧ (∀ f, RelO (fs.lookup f) (mA f)) ∧ PySem.Within mA (fs.map (·.1)) ∧ fs.length ≤ 1000 ∧ H dx = some (.own a) := by
  obtain ⟨d, z, ne, ob, mA, n, r, q⟩ := (show ObjOk P w H h a (.ins C dx fs) from hok a _ e)
  exact ⟨mA, ⟨ob, n, ne⟩, r, q, z, d⟩
end
structure Cls (K : PySem.W.Frag) (C : Addr) : Prop where
  pg : PySem.W.plainGet K C Str.empty = true
  hd : PySem.W.hasDictIn K C = true
  po : PySem.W.plainOver K C = true
  sa : PySem.W.findIn K (.ref C) "__setattr__" = some (some (.builtin "object.__setattr__"))
theorem Cls.get {K : PySem.W.Frag} {C : Addr} (c : Cls K C) (f : Str) : PySem.W.plainGet K C f = true := c.pg
noncomputable def NoAttr (K : PySem.W.Frag) (C : Addr) (f : Str) : Prop := PySem.W.findIn K (.ref C) f = some none
theorem NoAttr.taker {K : PySem.W.Frag} {C : Addr} {f : Str} (n : NoAttr K C f) : PySem.W.takerIn K C f = some none := by
  unfold PySem.W.takerIn
  rw [show PySem.W.findIn K (.ref C) f = some none from n]
  rfl
structure Con (K : PySem.W.Frag) (C : Addr) (f : Str) (v : V) (u : Value) : Prop where
  at_ : PySem.W.findIn K (.ref C) f = some (some u)
  rel : RelV v u
  get : PySem.W.specialIn K u "__get__" = some none
  cp : PySem.W.copiedNames.contains f = false
structure Meth (K : PySem.W.Frag) (C : Addr) (m : Str) (f : Addr) : Prop where
  at_ : PySem.W.findIn K (.ref C) m = some (some (.ref f))
  fn : PySem.W.isFn K (.ref f) = true
  kp : PySem.W.keepIn K (.ref f) = true
section
variable {X : Cx} {pins : List (Addr × Obj)} {σ : St} {H : Hp} {s : Shared} {a C dx : Addr} {fs : List (Str × V)} {f : Str} {v : V} {A : Around} {E : Value → Shared → Prop}
theorem getattr_ok {b : Bool} {Q : Value → Shared → Prop} (I : Inv X pins σ H s) (e : H a = some (.ins C dx fs)) (c : Cls X.K C) (n : NoAttr X.K C f) (l : fs.lookup f = some v)
    (h : ∀ u s', Inv X pins σ H s' → RelV v u → Q u s') : wpAny (model X.prog X.w) A (getAttr (.ref a) f b) Q E s := by
  obtain ⟨mA, O, r, _, _, _⟩ := ins_get I.hok e
  obtain ⟨u, hu, ru⟩ := RelO.some_of (v := v) (o := mA f) (by rw [← l]; exact r f)
  exact get_map I.kIn O (c.get f) c.hd n hu (handed_of ru) (h u _ (I.tok _) ru)
theorem getmeth_ok {m : Str} {g : Addr} {pl : Sem Bool} {Q : Value × List Value → Shared → Prop} (I : Inv X pins σ H s) (e : H a = some (.ins C dx fs)) (c : Cls X.K C) (k : Meth X.K C m g) (l : fs.lookup m = none)
    (h : Q (.ref g, [.ref a]) s) : wpAny (model X.prog X.w) A (getMethod (.ref a) m pl) Q E s := by
  obtain ⟨mA, O, r, _, _, _⟩ := ins_get I.hok e
  have hn : mA m = none := RelO.none_of (by rw [← l]; exact r m)
  exact get_meth I.kIn O (c.get m) k.at_ k.fn hn h
theorem setattr_ok {y : V} {u : Value} {Q : Unit → Shared → Prop} (I : Inv X pins σ H s) (e : H a = some (.ins C dx fs)) (c : Cls X.K C) (n : NoAttr X.K C f) (hl : fs.length < 1000) (ry : RelV y u)
    (h : ∀ s', Inv X pins σ (upd H a (.ins C dx (putF f y fs))) s' → Q () s') : wpAny (model X.prog X.w) A (setAttr (.ref a) f u) Q E s := by
  obtain ⟨mA, O, r, wi, _, ho⟩ := ins_get I.hok e
  have hz : (fs.map (·.1)).length ≤ sizeLine := by rw [List.length_map, sizeLine_eq]; lia
  refine set_map I.kIn O c.sa c.po n.taker c.hd wi hz fun h' O' sb => h _ ?_
  have hd : ∃ o, h'.get? dx = some o := let ⟨o, _, _, e', _⟩ := O'.ns; ⟨o, e'⟩
  refine I.write (x := a) (e := dx) (by rw [e]; exact True.intro) (.inr ho) (fun b q hb z => (sb.2 b hb).trans z) hd ?_
  refine ⟨by rw [upd_ne O.ne]; exact ho, ?_, O.ne, O'.obj, _, O'.ns, fun g => ?_, fun g hg => ?_⟩
  · have := length_putF f y fs; lia
  · show RelO ((putF f y fs).lookup g) (if g = f then some u else mA g)
    rw [lookup_putF]
    by_cases q : g = f
    · rw [if_pos q, if_pos q]; exact ry
    · rw [if_neg q, if_neg q]; exact r g
  · by_cases q : g = f
    · rw [q]; exact (keys_putF f y fs).1
    · refine (keys_putF f y fs).2 g (wi g fun z => hg ?_)
      show (if g = f then some u else mA g) = none
      rw [if_neg q]; exact z
theorem Inv.made (I : Inv X pins σ H s) : Inv X pins σ (upd (upd H s.heap.objs.size (.own (s.heap.objs.size + 1))) (s.heap.objs.size + 1) (.ins C s.heap.objs.size []))
    { s with heap := (s.heap.push PySem.W.emptyDict).push (PySem.W.instObj C s.heap.objs.size) } := by
  have e1 : (s.heap.push PySem.W.emptyDict).get? s.heap.objs.size = some PySem.W.emptyDict := Heap.get?_push_size s.heap rfl
  have e2 : ((s.heap.push PySem.W.emptyDict).push (PySem.W.instObj C s.heap.objs.size)).get? (s.heap.objs.size + 1) = some (PySem.W.instObj C s.heap.objs.size) := by
    have := Heap.get?_push_size (s.heap.push PySem.W.emptyDict) (o := PySem.W.instObj C s.heap.objs.size) rfl
    rwa [Heap.size_push] at this
  have e3 : (s.heap.push PySem.W.emptyDict).Ns s.heap.objs.size (fun _ => none) := ⟨PySem.W.emptyDict, #[], _, e1, rfl, (fun e he => absurd he (by simp)), fun _ => rfl⟩
  have I1 := I.laid (a := s.heap.objs.size) (o := .own (s.heap.objs.size + 1)) (h' := s.heap.push PySem.W.emptyDict) (t' := s.toks) (fun b u q => Heap.get?_push_of_some _ q) (Nat.le_refl _) ⟨_, e1⟩
  refine I1.laid (a := s.heap.objs.size + 1) (o := .ins C s.heap.objs.size []) (t' := s.toks) (fun b u q => Heap.get?_push_of_some _ q) (Nat.le_of_eq (Heap.size_push _ _)) ?_
  have ne : s.heap.objs.size ≠ s.heap.objs.size + 1 := Nat.ne_of_lt (Nat.lt_succ_self _)
  refine ⟨by rw [upd_ne ne, upd_same], Nat.zero_le _, ne, e2, fun _ => none, (Heap.Ns1.of_empty e3).at fun o q => Heap.get?_push_of_some _ q, fun _ => True.intro, fun y hy => absurd rfl hy⟩
theorem attr_of {prog : Program} {w : World} {env : Env} {e : Expr} {f : Str} {pos : Pos} {s : Shared} {Q : Value → Shared → Prop} (hb : attributeBase e f env (eval e env) = eval e env)
    (h : wpAny (model prog w) A (eval e env) (fun o s₁ => wpAny (model prog w) A (getAttr o f true) Q E s₁) E s) : wpAny (model prog w) A (eval (.Attribute e f pos) env) Q E s :=
  Attribute_any_ h (by rw [arm_eval_Attribute, hb])
end
noncomputable def sFld (K : PySem.W.Frag) (ta tv : TE) (f : Str) : TS := fun D σ H => tv σ H fun y H1 => ta σ H1 fun x H2 => ∃ a C dx fs, x = .ref a ∧ H2 a = some (.ins C dx fs) ∧ Cls K C ∧ NoAttr K C f ∧ fs.length < 1000 ∧
  D.nx σ (upd H2 a (.ins C dx (putF f y fs)))
section
variable {X : Cx} {o e value : Expr} {f : Str} {pos pos' tpos : Pos} {ta tv : TE}
theorem ps_fld (ha : PE X o ta) (hv : PE X value tv) (hs : swapsWith value (some (.Attribute o f pos')) pos.line X.env = pure false) : PS X (.Assign [.Attribute o f pos'] value pos) (sFld X.K ta tv f) := by
  intro pins s σ H D I h
  refine plainObj_wpAny_Assign_Attribute (thn (hv pins s σ H _ I h) fun u s1 ⟨y, H1, I1, ry, q⟩ => thn (ha pins s1 σ H1 _ I1 q) fun ov s2 hpt9 => ?_) hs
  obtain ⟨x, H2, I2, rx, a, C, dx, fs, ex, ea, c, n, l, q2⟩ := hpt9
  subst ex
  obtain rfl : ov = Value.ref a := rx
  exact setattr_ok I2 ea c n l ry fun s3 I3 => ⟨σ, _, I3, q2⟩
end
section
variable {X : Cx} {pins : List (Addr × Obj)} {σ : St} {H : Hp} {s : Shared} {A : Around} {E : Value → Shared → Prop} {Q : Value → Shared → Prop} {c : Value} {b : Bool}
inductive TyOf (K : PySem.W.Frag) (H : Hp) : V → Value → Prop where
  | non : TyOf K H .non (.type "NoneType")
  | bl (x : Bool) : TyOf K H (.bl x) (.type "bool")
  | int (i : Int) : TyOf K H (.int i) (.type "int")
  | str (x : Str) : TyOf K H (.str x) (.type "str")
  | flt (x : UInt64) : TyOf K H (.flt x) (.type "float")
  | lst {a : Addr} {xs : List V} (e : H a = some (.lst xs)) : TyOf K H (.ref a) (.type "list")
  | frz {a : Addr} {o : Obj} {xs : List V} (e : H a = some (.frz o (.lst xs))) : TyOf K H (.ref a) (.type "list")
  | tup {a : Addr} {xs : List V} (e : H a = some (.tup xs)) : TyOf K H (.ref a) (.type "tuple")
  | dK {a : Addr} {kvs : List (Key × V)} (e : H a = some (.dK kvs)) : TyOf K H (.ref a) (.type "dict")
  | dT {a : Addr} {kvs : List (List Key × V)} (e : H a = some (.dT kvs)) : TyOf K H (.ref a) (.type "dict")
  | ins {a C dx : Addr} {fs : List (Str × V)} (e : H a = some (.ins C dx fs)) (cl : Cls K C) (ha : PySem.W.findIn K (.ref C) "__class__" = some (some (.builtin "object.__class__")))
      (hn : PySem.W.specialIn K (.builtin "object.__class__") "__get__" = some (some (.builtin "getset_descriptor.__get__"))) (htk : PySem.W.takesIn K (.builtin "object.__class__") = some true)
      (hm : PySem.W.mroIn K C (.type "object") = some true) : TyOf K H (.ref a) (.ref C)
end
end L2
namespace L2
open PySem PySem.Spec PyProof.Rows
structure Room (k : Nat) (A : Around) : Prop where
  hd : A.handled = none
  dp : A.depth + 3 * k + 5 < recursionLimit
  un : A.units + 16 * k + 200 < cLine
theorem Room.mono {j k : Nat} {A : Around} (r : Room k A) (h : j ≤ k) : Room j A := ⟨r.hd, by have := r.dp; lia, by have := r.un; lia⟩
theorem Room.deeper {k : Nat} {A : Around} (r : Room (k + 1) A) (env : Env) : Room k (A.deeper env) :=
  ⟨r.hd, by have := r.dp; show A.depth + 1 + 3 * k + 5 < _; lia, by have := r.un; show A.units + 3 + 16 * k + 200 < _; lia⟩
theorem make_depth {A : Around} {C : Addr} {us : List Value} {kw : List (Str × Value)} : (A.under (.builtin "type.__call__" ⟨.ref C :: us, kw⟩)).depth = A.depth + 1 := by
  first | rfl | simp [Around.under, Code.weight, Code.isCreation, Code.isGuard, Code.isCaller, Code.frames, Code.isFrame, guardIds]
theorem make_units {A : Around} {C : Addr} {us : List Value} {kw : List (Str × Value)} : (A.under (.builtin "type.__call__" ⟨.ref C :: us, kw⟩)).units = A.units + 1 := by
  first | rfl | simp [Around.under, Code.cUnits, Code.frames, Code.isFrame]
theorem Room.make {k : Nat} {A : Around} (r : Room (k + 1) A) (C : Addr) (us : List Value) (kw : List (Str × Value)) : Room k (A.under (.builtin "type.__call__" ⟨.ref C :: us, kw⟩)) :=
  ⟨r.hd, by have := r.dp; rw [make_depth]; lia, by have := r.un; rw [make_units]; lia⟩
theorem Room.depth {k : Nat} {A : Around} (r : Room k A) : A.depth < recursionLimit := by have := r.dp; lia
theorem Room.units {k : Nat} {A : Around} (r : Room k A) : A.units + 64 < cLine := by have := r.un; lia
noncomputable def tNil : TA := fun _ H Q => Q [] H
noncomputable def tCons (ta : TE) (tr : TA) : TA := fun σ H Q => ta σ H fun x H1 => tr σ H1 fun xs H2 => Q (x :: xs) H2
section
variable {X : Cx} {e : Expr} {es : List Expr} {te : TE} {t : TA} {pos : Pos}
theorem pa_nil : PA X [] tNil := fun _ _ _ _ H Q I h => Calls.spliced_nil ⟨[], H, I, .nil, h⟩
theorem pa_cons (ha : PE X e te) (hr : PA X es t) (hs : starEach (e :: es) X.env = (false, eval e X.env) :: starEach es X.env := by rfl) : PA X (e :: es) (tCons te t) := by
  intro pos pins s σ H Q I h
  rw [hs]
  show wpAny _ _ (spliced ((false, eval e X.env) :: backTo pos (starEach es X.env))) _ _ s
  refine Calls.spliced_cons (thn (ha pins s σ H _ I h) fun u s1 hpt9 => ?_)
  obtain ⟨x, H1, I1, r1, q1⟩ := hpt9
  exact thn (hr pos pins s1 σ H1 _ I1 q1) fun us s2 ⟨xs, H2, I2, r2, q2⟩ => ⟨x :: xs, H2, I2, .cons r1 r2, q2⟩
noncomputable def tTup (t : TA) : TE := fun σ H Q => t σ H fun xs H1 => xs.length ≤ sizeLine ∧ ∀ p, H1 p = none → Q (.ref p) (upd H1 p (.tup xs))
noncomputable def tLst (t : TA) : TE := fun σ H Q => t σ H fun xs H1 => xs.length ≤ sizeLine ∧ ∀ p, H1 p = none → Q (.ref p) (upd H1 p (.lst xs))
theorem pe_tup {x1} (h : PA X es t) : PE X (.Tuple es x1 pos) (tTup t) := by
  intro pins s σ H Q I hq
  refine wpAny_Tuple_spliced (thn (h pos pins s σ H _ I hq) fun us s1 ⟨xs, H1, I1, r, z, q⟩ => ⟨by rw [← r.length]; exact z, ?_⟩)
  have hf : H1 s1.heap.objs.size = none := I1.hok.fresh (Nat.le_refl _)
  refine ⟨.ref s1.heap.objs.size, upd H1 s1.heap.objs.size (.tup xs), I1.laid (t' := s1.toks) (fun b u e => Heap.get?_push_of_some _ e) (Nat.le_refl _) ?_, rfl, q _ hf⟩
  exact ⟨z, us, r, ⟨_, Heap.get?_push_size _ rfl, rfl, _, rfl⟩⟩
theorem pe_lst (h : PA X es t) : PE X (.List es pos) (tLst t) := by
  intro pins s σ H Q I hq
  refine wpAny_List_spliced (thn (h pos pins s σ H _ I hq) fun us s1 ⟨xs, H1, I1, r, z, q⟩ => ⟨by rw [← r.length]; exact z, ?_⟩)
  have hf : H1 s1.heap.objs.size = none := I1.hok.fresh (Nat.le_refl _)
  refine ⟨.ref s1.heap.objs.size, upd H1 s1.heap.objs.size (.lst xs), I1.laid (t' := s1.toks) (fun b u e => Heap.get?_push_of_some _ e) (Nat.le_refl _) ?_, rfl, q _ hf⟩
  exact ⟨z, us, 0, r, Heap.get?_push_size _ rfl⟩
end
noncomputable abbrev Sp := List V → Hp → VK → XK → Prop
noncomputable abbrev CXT := List Env → Hp → Shared → XK → Value → Shared → Prop
structure Env0 (P : Program) (w : World) (K : PySem.W.Frag) (mg : Str → Option Value) (base : Heap) (A : Around) (outer : List Env) (s : Shared) (H : Hp) : Prop where
  frames : A.frames = some outer
  mod : Mod K mg base
  bs : ∀ b o, base.get? b = some o → s.heap.get? b = some o ∧ H b = none
  bsz : base.objs.size ≤ s.heap.objs.size
  funs : s.heap.FunFrames base outer
  frf : ∀ b ∈ frs outer, H b = none
  hok : HOk P w H s.heap
  bare : AllBare s.gens
noncomputable def CE (outer : List Env) (P : Program) (w : World) (H : Hp) (s : Shared) (Q : VK) (u : Value) (s' : Shared) : Prop :=
  ∃ v H', s'.os = s.os ∧ AllBare s'.gens ∧ Un (frs outer) [] H H' s.heap s'.heap ∧ HOk P w H' s'.heap ∧ RelV v u ∧ Q v H'
noncomputable def CR (CX : CXT) (outer : List Env) (P : Program) (w : World) (H : Hp) (s : Shared) (Q : VK) (E : XK) (r : Result) (s' : Shared) : Prop :=
  match r with
  | .ok (.ret u) => CE outer P w H s Q u s'
  | .ok _ => False
  | .error e => CX outer H s E e s'
structure FnOk (P : Program) (w : World) (K : PySem.W.Frag) (mg : Str → Option Value) (base : Heap) (CX : CXT) (k : Nat) (f : Addr) (fd : FuncData) (ps : List Str) (sp : Sp) : Prop where
  len : ∀ vs H Q E, sp vs H Q E → vs.length = ps.length
  run : ∀ (A : Around) (outer : List Env) (s : Shared) (H : Hp) (args : Args) (us : List Value) (vs : List V) (Q : VK) (E : XK), Room k A → Env0 P w K mg base A outer s H → BindsTo s fd args (ps.zip us) → Vals vs us → sp vs H Q E →
    codeAny (model P w) A (.call (.ref f) args) (CR CX outer P w H s Q E) s
theorem Env0.make {P : Program} {w : World} {K : PySem.W.Frag} {mg : Str → Option Value} {base : Heap} {A : Around} {outer : List Env} {s : Shared} {H : Hp} (e : Env0 P w K mg base A outer s H) (C : Addr) (us : List Value) (kw : List (Str × Value)) :
    Env0 P w K mg base (A.under (.builtin "type.__call__" ⟨.ref C :: us, kw⟩)) outer s H := ⟨by first | exact e.frames | (simpa [Around.under, Code.envs, Code.isFrame, pushEnvs] using e.frames), e.mod, e.bs, e.bsz, e.funs, e.frf, e.hok, e.bare⟩
section
variable {X : Cx} {pins : List (Addr × Obj)} {σ : St} {H : Hp} {s s' : Shared}
theorem Inv.env0 (I : Inv X pins σ H s) : Env0 X.prog X.w X.K X.mg X.base X.A X.stack s H :=
  ⟨I.ok.frames, I.ok.mod, I.bs, Nat.le_trans I.ok.bsz I.sz, I.stack, I.stkFree, I.hok, I.bare⟩
theorem Inv.after {Q : VK} {u : Value} (I : Inv X pins σ H s) (h : CE X.stack X.prog X.w H s Q u s') : EP X pins σ Q u s' := by
  obtain ⟨v, H', os, bare, un, hok, r, q⟩ := h
  obtain ⟨hh, g, d, t, os'⟩ := s'
  obtain rfl : os' = s.os := os
  exact ⟨v, H', I.call (h' := hh) (g' := g) (d' := d) (t' := t) (ch := []) un hok bare (fun b z => absurd z (by simp)), r, q⟩
end
noncomputable def tCall (sp : Sp) (dvs : List V) (E : XK) (t : TA) : TE := fun σ H Q => t σ H fun vs H1 => sp (vs ++ dvs) H1 Q E
noncomputable def tMake (C : Addr) (sp : Sp) (dvs : List V) (E : XK) (t : TA) : TE := fun σ H Q => t σ H fun vs H1 => ∀ x dx, H1 x = none → H1 dx = none → dx ≠ x →
  sp (.ref x :: (vs ++ dvs)) (upd (upd H1 dx (.own x)) x (.ins C dx [])) (fun v H2 => v = .non ∧ Q (.ref x) H2) E
noncomputable def Binds (K : PySem.W.Frag) (fd : FuncData) (ps : List Str) (ds : List Value) : Prop :=
  ∀ (s : Shared) (us : List Value), K.In s.heap → (us ++ ds).length = ps.length → BindsTo s fd ⟨us, []⟩ (ps.zip (us ++ ds))
theorem Binds.all {K : PySem.W.Frag} {fd : FuncData} {ps : List Str} (h : ∀ us : List Value, us.length = ps.length → bindArgs fd ⟨us, []⟩ = pure (ps.zip us)) : Binds K fd ps [] := fun s us _ hl => by
  rw [List.append_nil] at hl ⊢
  exact .of_eq (h us hl)
noncomputable def Passes (CX : CXT) (X : Cx) (E : XK) : Prop := ∀ (pins : List (Addr × Obj)) (σ : St) (H : Hp) (s : Shared) (e : Value) (s' : Shared), Inv X pins σ H s → CX X.stack H s E e s' → X.xe e s'
section
variable {X : Cx} {CX : CXT} {k : Nat} {f C : Addr} {fd : FuncData} {ps : List Str} {sp : Sp} {dvs : List V} {ds : List Value} {E : XK} {x m : Str} {p pos apos : Pos} {e o : Expr} {es : List Expr} {ta : TE} {t : TA}
theorem run_fn {pins : List (Addr × Obj)} {σ : St} {H : Hp} {s : Shared} {Q : VK} {us : List Value} {vs : List V} (F : FnOk X.prog X.w X.K X.mg X.base CX k f fd ps sp) (hr : Room k X.A) (hb : Binds X.K fd ps ds) (hd : Vals dvs ds) (hx : Passes CX X E)
    (I : Inv X pins σ H s) (r : Vals vs us) (h : sp (vs ++ dvs) H Q E) : wpAny (model X.prog X.w) X.A (call (.ref f) us) (EP X pins σ Q) X.xe s := by
  have r2 : Vals (vs ++ dvs) (us ++ ds) := r.append hd
  have hl : (us ++ ds).length = ps.length := by rw [← r2.length]; exact F.len _ _ _ _ h
  refine wpAny_call (codeAny_mono (F.run X.A X.stack s H ⟨us, []⟩ (us ++ ds) (vs ++ dvs) Q E hr I.env0 (hb s us I.kIn hl) r2 h) fun r s' hq => ?_)
  cases r with
  | error e => exact hx pins σ H s e s' I hq
  | ok fl =>
    cases fl with
    | ret u => exact I.after hq
    | next => exact False.elim hq
    | brk => exact False.elim hq
    | cont => exact False.elim hq
theorem pe_call (F : FnOk X.prog X.w X.K X.mg X.base CX k f fd ps sp) (hr : Room k X.A) (hg : Gl X x) (hm : X.mg x = some (.ref f)) (hk : PySem.W.keepIn X.K (.ref f) = true) (hb : Binds X.K fd ps ds) (hd : Vals dvs ds) (hx : Passes CX X E)
    (ha : PA X (e :: es) t) (hdb : (x == ("__debug__" : Str)) = false := by decide) (he : starEach (e :: es) X.env = (false, eval e X.env) :: starEach es X.env := by rfl) (hpl : (backTo pos (starEach es X.env)).any (·.1) = false := by rfl) :
    PE X (.Call (.Name x p) (e :: es) [] pos) (tCall sp dvs E t) := by
  intro pins s σ H Q I h
  refine wpAny_Call_Name_kw (ld_glob I hg hm ?_ hdb)
  refine PySem.W.callWith_K (h₀ := X.base) I.ok.mod.kin hk (thn (ha pos pins s σ H _ I h) fun us s1 ⟨vs, H1, I1, r, q⟩ => ⟨I1.kIn, ?_⟩) he hpl
  exact run_fn F hr hb hd hx I1 r q
structure Mk (K : PySem.W.Frag) (C f : Addr) : Prop where
  makes : PySem.W.makesIn K C = true
  init : PySem.W.findIn K (.ref C) "__init__" = some (some (.ref f))
  fn : PySem.W.isFn K (.ref f) = true
  kp : PySem.W.keepIn K (.ref C) = true
theorem run_make {pins : List (Addr × Obj)} {σ : St} {H : Hp} {s : Shared} {Q : VK} {us : List Value} {vs : List V} (M : Mk X.K C f) (F : FnOk X.prog X.w X.K X.mg X.base CX k f fd ps sp) (hr : Room (k + 1) X.A) (hb : Binds X.K fd ps ds) (hd : Vals dvs ds)
    (hx : Passes CX X E) (I : Inv X pins σ H s) (r : Vals vs us)
    (h : ∀ x dx, H x = none → H dx = none → dx ≠ x → sp (.ref x :: (vs ++ dvs)) (upd (upd H dx (.own x)) x (.ins C dx [])) (fun v H2 => v = .non ∧ Q (.ref x) H2) E) :
    wpAny (model X.prog X.w) X.A (call (.ref C) us) (EP X pins σ Q) X.xe s := by
  have hq := h (s.heap.objs.size + 1) s.heap.objs.size (I.hok.fresh (Nat.le_succ _)) (I.hok.fresh (Nat.le_refl _)) (Nat.ne_of_lt (Nat.lt_succ_self _))
  have I2 := Inv.made (C := C) I
  have r2 : Vals (V.ref (s.heap.objs.size + 1) :: (vs ++ dvs)) (Value.ref (s.heap.objs.size + 1) :: (us ++ ds)) := .cons rfl (r.append hd)
  have hl : (Value.ref (s.heap.objs.size + 1) :: us ++ ds).length = ps.length := by
    have e := r2.length
    rw [F.len _ _ _ _ hq] at e
    exact e.symm
  refine wpAny_call (make_map (f := f) I.kIn M.makes M.init (beq_iff_eq.mp M.fn) (codeAny_mono (F.run _ X.stack _ _ ⟨Value.ref (s.heap.objs.size + 1) :: us, []⟩ (Value.ref (s.heap.objs.size + 1) :: (us ++ ds)) _ _ E (hr.make C us [])
    (I2.env0.make C us []) (hb _ (Value.ref (s.heap.objs.size + 1) :: us) I2.kIn hl) r2 hq) fun r s' hq' => ?_))
  cases r with
  | error e => exact hx pins σ _ _ e s' I2 hq'
  | ok fl =>
    cases fl with
    | ret u =>
      obtain ⟨v, H', I3, rv, ev, q3⟩ := I2.after hq'
      subst ev
      exact ⟨rv, ⟨V.ref (s.heap.objs.size + 1), H', I3, rfl, q3⟩⟩
    | next => exact False.elim hq'
    | brk => exact False.elim hq'
    | cont => exact False.elim hq'
theorem pe_make (M : Mk X.K C f) (F : FnOk X.prog X.w X.K X.mg X.base CX k f fd ps sp) (hr : Room (k + 1) X.A) (hg : Gl X x) (hm : X.mg x = some (.ref C)) (hb : Binds X.K fd ps ds) (hd : Vals dvs ds) (hx : Passes CX X E)
    (ha : PA X (e :: es) t) (hdb : (x == ("__debug__" : Str)) = false := by decide) (he : starEach (e :: es) X.env = (false, eval e X.env) :: starEach es X.env := by rfl) (hpl : (backTo pos (starEach es X.env)).any (·.1) = false := by rfl) :
    PE X (.Call (.Name x p) (e :: es) [] pos) (tMake C sp dvs E t) := by
  intro pins s σ H Q I h
  refine wpAny_Call_Name_kw (ld_glob I hg hm ?_ hdb)
  refine PySem.W.callWith_K (h₀ := X.base) I.ok.mod.kin M.kp (thn (ha pos pins s σ H _ I h) fun us s1 ⟨vs, H1, I1, r, q⟩ => ⟨I1.kIn, ?_⟩) he hpl
  exact run_make M F hr hb hd hx I1 r q
end
section
variable {X : Cx} {CX : CXT} {k : Nat} {f C : Addr} {fd : FuncData} {ps ks : List Str} {sp : Sp} {E : XK} {x m : Str} {p pos apos kpos : Pos} {e o : Expr} {es : List Expr} {kws : List Keyword} {te ta : TE} {t tk : TA} {nm : Option Str}
structure KBinds (K : PySem.W.Frag) (fd : FuncData) (ps ks : List Str) (g : List Value → List Value → List Value) (gV : List V → List V → List V) : Prop where
  to : ∀ (s : Shared) (us ws : List Value), K.In s.heap → (g us ws).length = ps.length → BindsTo s fd ⟨us, ks.zip ws⟩ (ps.zip (g us ws))
  rel : ∀ {vs : List V} {us : List Value} {zs : List V} {ws : List Value}, Vals vs us → Vals zs ws → Vals (gV vs zs) (g us ws)
variable {g : List Value → List Value → List Value} {gV : List V → List V → List V}
end
structure FnScope (N P : List Str) (sc : Scope) : Prop where
  kind : sc.kind = .function
  co : sc.isCoroutine = false
  gen : sc.isGenerator = false
  nd : N.Nodup
  pre : N.take P.length = P
  par : ∀ x ∈ P, sc.names.lookup x = some .local ∨ sc.names.lookup x = some .cell
  nofree : ∀ y ∈ sc.names, y.2 ≠ .free
theorem bindL_out {kindOf : Str → Option NameKind} {x : Str} : ∀ {binds : List (Str × Value)} {m : Str → Option Value}, (∀ v, (x, v) ∉ binds) → bindL kindOf binds m x = m x
  | [], _, _ => rfl
  | (n, v) :: r, m, h => by
    unfold bindL
    rw [bindL_out fun w hw => h w (List.mem_cons_of_mem _ hw)]
    split
    · have : x ≠ n := by rintro rfl; exact h v List.mem_cons_self
      simp [this]
    · rfl
theorem bindC_out {kindOf : Str → Option NameKind} {x : Str} : ∀ {binds : List (Str × Value)} {m : Str → Option Value}, (∀ v, (x, v) ∉ binds) → bindC kindOf binds m x = m x
  | [], _, _ => rfl
  | (n, v) :: r, m, h => by
    unfold bindC
    rw [bindC_out fun w hw => h w (List.mem_cons_of_mem _ hw)]
    split
    · rfl
    · have : x ≠ n := by rintro rfl; exact h v List.mem_cons_self
      simp [this]
theorem bindL_get {kindOf : Str → Option NameKind} {x : Str} {v : Value} : ∀ {P : List Str} {vs : List Value} {i : Nat} {m : Str → Option Value}, P.Nodup → P[i]? = some x → vs[i]? = some v → kindOf x = some .local →
    bindL kindOf (P.zip vs) m x = some v
  | [], _, _, _, _, h, _, _ => by simp at h
  | _ :: _, [], _, _, _, _, h, _ => by simp at h
  | p :: P, w :: vs, 0, m, nd, h1, h2, hk => by
    simp at h1 h2; subst h1; subst h2
    show bindL kindOf ((p, w) :: P.zip vs) m p = _
    unfold bindL
    rw [bindL_out fun v hv => (List.nodup_cons.mp nd).1 (List.of_mem_zip hv).1, if_pos hk]
    simp
  | p :: P, w :: vs, i + 1, m, nd, h1, h2, hk => by
    show bindL kindOf ((p, w) :: P.zip vs) m x = _
    unfold bindL
    exact bindL_get (i := i) (List.nodup_cons.mp nd).2 (by simpa using h1) (by simpa using h2) hk
theorem bindC_get {kindOf : Str → Option NameKind} {x : Str} {v : Value} : ∀ {P : List Str} {vs : List Value} {i : Nat} {m : Str → Option Value}, P.Nodup → P[i]? = some x → vs[i]? = some v → kindOf x ≠ some .local →
    bindC kindOf (P.zip vs) m x = some v
  | [], _, _, _, _, h, _, _ => by simp at h
  | _ :: _, [], _, _, _, _, h, _ => by simp at h
  | p :: P, w :: vs, 0, m, nd, h1, h2, hk => by
    simp at h1 h2; subst h1; subst h2
    show bindC kindOf ((p, w) :: P.zip vs) m p = _
    unfold bindC
    rw [bindC_out fun v hv => (List.nodup_cons.mp nd).1 (List.of_mem_zip hv).1, if_neg hk]
    simp
  | p :: P, w :: vs, i + 1, m, nd, h1, h2, hk => by
    show bindC kindOf ((p, w) :: P.zip vs) m x = _
    unfold bindC
    exact bindC_get (i := i) (List.nodup_cons.mp nd).2 (by simpa using h1) (by simpa using h2) hk
noncomputable def start (N : List Str) (vs : List V) : St := vs.map some ++ List.replicate (N.length - vs.length) none
noncomputable def cxOf (CX : CXT) (P : Program) (w : World) (K : PySem.W.Frag) (mg : Str → Option Value) (base : Heap) (N : List Str) (qual : Str) (scope : Scope) (f : Addr) (cd : Value) (A : Around) (outer : List Env) (s : Shared) (H : Hp) (E : XK) : Cx where
  prog := P
  w := w
  K := K
  mg := mg
  base := base
  A := A.deeper (envOfC qual scope s.heap.objs.size f cd)
  N := N
  s₀ := s
  H₀ := H
  env := envOfC qual scope s.heap.objs.size f cd
  outer := outer
  stack := envOfC qual scope s.heap.objs.size f cd :: outer
  ex := []
  calm := true
  fn := fun _ => true
  pn := []
  xe := fun e s' => wpAny (model P w) (A.deeper (envOfC qual scope s.heap.objs.size f cd)) (leaving (envOfC qual scope s.heap.objs.size f cd) e) (fun _ s'' => CX outer H s E e s'') (fun e' s'' => CX outer H s E e' s'') s'
theorem cell_has {sc : Scope} {n : Nat} {x : Str} (h : sc.names.lookup x = some .cell) : ∃ c, (cellsFrom n sc.names []).lookup x = some c := by
  have q := PySem.W.cellsFrom_some sc.names n [] (.inl h)
  exact Option.isSome_iff_exists.mp q
theorem inv_start {CX : CXT} {P : Program} {w : World} {K : PySem.W.Frag} {mg : Str → Option Value} {base : Heap} {N ps : List Str} {qual : Str} {scope : Scope} {f : Addr} {cd : Value} {A : Around} {outer : List Env} {s s1 : Shared} {H : Hp} {E : XK} {us : List Value} {vs : List V}
    (S : FnScope N ps scope) (hd : A.handled = none) (e0 : Env0 P w K mg base A outer s H) (hl : vs.length = ps.length) (r : Vals vs us)
    (x : InCallC s s.heap.objs.size (bindL (envOfC qual scope s.heap.objs.size f cd).kindOf (ps.zip us) fun _ => none) (cellsFrom (s.heap.objs.size + 1) scope.names []) (bindC (envOfC qual scope s.heap.objs.size f cd).kindOf (ps.zip us) fun _ => none) s1) :
    Inv (cxOf CX P w K mg base N qual scope f cd A outer s H E) [] (start N vs) H s1 := by
  have hpl : ps.length ≤ N.length := by have := congrArg List.length S.pre; rw [List.length_take] at this; lia
  obtain ⟨h1, tk, rfl, hk⟩ := x.done
  have noA : ∀ b : Addr, b ∉ (cxOf CX P w K mg base N qual scope f cd A outer s H E).ex := fun b z => absurd (show b ∈ ([] : List Addr) from z) (by simp)
  refine ⟨⟨e0.mod, S.kind, rfl, rfl, Nat.le_refl _, fun y z c h1 h2 => ?_, fun y hy => ?_, fun y c _ h => ?_, fun _ => hd, Around.frames_deeper e0.frames, .inr ⟨rfl, rfl⟩, fun b z => absurd z (noA b), e0.bs, e0.bsz, fun b _ _ => noA b, fun b z => absurd z (noA b), e0.funs, e0.frf⟩,
    rfl, e0.bare, Un.kept hk, ⟨_, x.toInCall.ns, fun i y v h1 h2 h3 => ?_⟩, fun y c h => ⟨_, x.cell y c h⟩, e0.hok.fresh (Nat.le_refl _), fun y c h => ?_, fun p hp => absurd (show p ∈ ([] : List (Addr × Obj)) from hp) (by simp), e0.hok.kept hk, ?_⟩
  · exact name_of_addr x.apart (PySem.mem_of_lookup h1) (PySem.mem_of_lookup h2)
  · have hy : scope.names.lookup y = some .cell ∨ scope.names.lookup y = some .free := hy
    rcases hy with hy | hy
    · exact cell_has hy
    · exact absurd rfl (S.nofree _ (PySem.mem_of_lookup hy))
  · exact Nat.le_of_lt (x.above y c (PySem.mem_of_lookup h))
  · have hi : i < vs.length := by
      unfold start at h2
      by_cases hi : i < vs.length
      · exact hi
      · rw [List.getElem?_append_right (by simpa using hi)] at h2
        rw [List.getElem?_replicate] at h2
        split at h2 <;> cases h2
    have ha : vs[i]? = some v := by
      unfold start at h2
      rw [List.getElem?_append_left (by simpa using hi), List.getElem?_map] at h2
      cases e : vs[i]? with
      | none => rw [e] at h2; cases h2
      | some a => rw [e] at h2; cases h2; rfl
    obtain ⟨u, hu, rv⟩ := r.get ha
    have hp : ps[i]? = some y := by
      rw [← S.pre, List.getElem?_take_of_lt (by lia)]; exact h1
    have ndP : ps.Nodup := by rw [← S.pre]; exact S.nd.sublist (List.take_sublist _ _)
    refine ⟨u, rv, ?_⟩
    rcases S.par y (List.mem_of_getElem? hp) with k | k
    · exact .inl ⟨k, bindL_get ndP hp hu k⟩
    · obtain ⟨c, e⟩ := cell_has (n := s.heap.objs.size + 1) k
      refine .inr ⟨.inl k, c, e, ?_⟩
      have q := x.cell y c e
      rw [bindC_get ndP hp hu (by show scope.names.lookup y ≠ _; rw [k]; decide)] at q
      exact q
  · exact e0.hok.fresh (Nat.le_of_lt (x.above y c (PySem.mem_of_lookup h)))
  · unfold start
    show _ = N.length
    rw [List.length_append, List.length_map, List.length_replicate]
    lia
theorem fn_of {CX : CXT} {P : Program} {w : World} {K : PySem.W.Frag} {mg : Str → Option Value} {base : Heap} {k : Nat} {f : Addr} {name qual : Str} {params : Arguments} {body : List Stmt} {scope : Scope} {dV kV doc pm cdv ct oc : Value} {an od : Option Addr}
    {osl : Array (Option Value)} {N ps : List Str} {sp : Sp} (lk : K.lookup f = some ⟨oc, od, .func (PySem.W.fnOf name qual params body scope dV kV doc pm an cdv ct), osl⟩) (hcd : PySem.W.codeIn K cdv qual = true) (S : FnScope N ps scope)
    (len : ∀ vs H Q E, sp vs H Q E → vs.length = ps.length)
    (hbody : ∀ (A : Around) (outer : List Env) (s : Shared) (H : Hp) (vs : List V) (Q : VK) (E : XK), Room k (A.deeper (envOfC qual scope s.heap.objs.size f cdv)) → sp vs H Q E →
      ∃ t, PSs (cxOf CX P w K mg base N qual scope f cdv A outer s H E) body t ∧ t { nx := fun _ H' => Q .non H', rt := Q } (start N vs) H) :
    FnOk P w K mg base CX (k + 1) f (PySem.W.fnOf name qual params body scope dV kV doc pm an cdv ct) ps sp := by
  refine ⟨len, fun A outer s H args us vs Q E hr e0 hb r hsp => ?_⟩
  have hl := len _ _ _ _ hsp
  have KX : K.In s.heap := e0.mod.kin.keeps fun b o e => (e0.bs b o e).1
  have lim : s.heap.NoLimit := e0.mod.nolimit.keeps fun b o e => (e0.bs b o e).1
  have hkind : ∀ y ∈ ps.zip us, scope.names.lookup y.1 = some .local ∨ (scope.names.lookup y.1 = some .cell ∧ ((cellsFrom (s.heap.objs.size + 1) scope.names []).lookup y.1).isSome = true) := fun hpt0 hy => by
    obtain ⟨n, v⟩ := hpt0
    rcases S.par n (List.of_mem_zip hy).1 with q | q
    · exact .inl q
    · exact .inr ⟨q, PySem.W.cellsFrom_some _ _ _ (.inl q)⟩
  refine codeAny_call_function hr.depth (KX _ _ lk) rfl S.co S.gen rfl (PySem.W.codeRec_of KX hcd) (hb _ _ _ _ ?_)
  refine wpAny_newFunctionEnv_cells S.kind hkind fun env he s1 x => ?_
  subst he
  refine ⟨lim.keeps x.toInCall.keep, codeAny_func ?_⟩
  obtain ⟨t, ht, hq⟩ := hbody A outer s H vs Q E (hr.deeper _) hsp
  have I : Inv (cxOf CX P w K mg base N qual scope f cdv A outer s H E) [] (start N vs) H s1 := inv_start S hr.hd e0 hl r x
  refine wpAny_mono (ht [] s1 (start N vs) H _ I hq) (fun fl s' hs => ?_) fun e s' hs => hs
  have fin : ∀ {σ' : St} {H' : Hp} {v : V} {u : Value}, Inv (cxOf CX P w K mg base N qual scope f cdv A outer s H E) [] σ' H' s' → RelV v u → Q v H' → CE outer P w H s Q u s' :=
    fun {σ' H' v u} J rv q => ⟨v, H', J.os, J.bare, J.base, J.hok, rv, q⟩
  cases fl with
  | ret u =>
    obtain ⟨v, σ', H', J, rv, q⟩ := hs
    exact fin J rv q
  | next =>
    obtain ⟨σ', H', J, q⟩ := hs
    exact fin (v := V.non) (u := Value.none) J rfl q
  | brk =>
    obtain ⟨_, _, _, q⟩ := hs
    exact False.elim q
  | cont =>
    obtain ⟨_, _, _, q⟩ := hs
    exact False.elim q
end L2
namespace L2
open PySem PySem.Spec PyProof.Rows
section
variable {X : Cx} {x : Str} {p pos : Pos} {e : Expr} {es : List Expr} {t : TA} {id T : String} {r : List V → Hp → VK → Prop}
noncomputable def tCB (r : List V → Hp → VK → Prop) (t : TA) : TE := fun σ H Q => t σ H fun vs H1 => r vs H1 Q
theorem pe_callB (hc : CallR X (.builtin id) r) (hg : Gl X x) (hm : X.mg x = none) (hv : bootBuiltins x = some (.builtin id)) (ha : PA X (e :: es) t) (hn : x ≠ "__name__" := by decide) (hdb : (x == ("__debug__" : Str)) = false := by decide)
    (he : starEach (e :: es) X.env = (false, eval e X.env) :: starEach es X.env := by rfl) (hpl : (backTo pos (starEach es X.env)).any (·.1) = false := by rfl) : PE X (.Call (.Name x p) (e :: es) [] pos) (tCB r t) := by
  intro pins s σ H Q I h
  refine wpAny_Call_Name_kw (ld_blt I hg hm hv ?_ hn hdb)
  exact PyProof.Rows.callWith_builtin1 (thn (ha pos pins s σ H _ I h) fun us s1 ⟨vs, H1, I1, r1, q1⟩ => hc pins s1 σ H1 vs us Q I1 r1 q1) he hpl
theorem pe_callTy (hc : CallR X (.type T) r) (hg : Gl X x) (hm : X.mg x = none) (hv : bootBuiltins x = some (.type T)) (ha : PA X (e :: es) t) (hn : x ≠ "__name__" := by decide) (hdb : (x == ("__debug__" : Str)) = false := by decide)
    (he : starEach (e :: es) X.env = (false, eval e X.env) :: starEach es X.env := by rfl) (hpl : (backTo pos (starEach es X.env)).any (·.1) = false := by rfl) : PE X (.Call (.Name x p) (e :: es) [] pos) (tCB r t) := by
  intro pins s σ H Q I h
  refine wpAny_Call_Name_kw (ld_blt I hg hm hv ?_ hn hdb)
  exact PyProof.Rows.callWith_type1 (thn (ha pos pins s σ H _ I h) fun us s1 ⟨vs, H1, I1, r1, q1⟩ => hc pins s1 σ H1 vs us Q I1 r1 q1) he hpl
end
end L2
namespace HT
open PySem PyProof.Rows
noncomputable def lexLt : List Int → List Int → Bool
  | [], [] => false
  | [], _ :: _ => true
  | _ :: _, [] => false
  | x :: xs, y :: ys => if x = y then lexLt xs ys else decide (x < y)
theorem lexLt_cons (x y : Int) (xs ys : List Int) : lexLt (x :: xs) (y :: ys) = if x = y then lexLt xs ys else decide (x < y) := rfl
section
open PySem.SeqAt
open PySem.AutoSeq1 (wpAny_loadPart')
open PySem.MeetsSeq PySem.MeetsSeq2 PySem.MeetsSeq3
end
section
variable {prog : Program} {w : World} {A : Around} {E : Value → Shared → Prop} {s : Shared}
theorem cat_tup {t b : Addr} {vs ws : List Value} {Q : Value → Shared → Prop} (ht : IsTup s.heap t vs.toArray) (hb : IsTup s.heap b ws.toArray) (hv : vs ≠ [])
    (h1 : ws = [] → Q (.ref t) s) (h2 : ws ≠ [] → Q (.ref s.heap.objs.size) { s with heap := s.heap.push { cls := .type "tuple", data := .seq (vs ++ ws).toArray } })
    (hsz : vs.length + ws.length ≤ sizeLine) : wpAny (model prog w) A (binaryOp .Add (.ref t) (.ref b)) Q E s := by
  obtain ⟨⟨cls, dd, data, sl⟩, ho, hc, n, hd⟩ := id ht
  obtain ⟨⟨cls2, dd2, data2, sl2⟩, ho2, hc2, n2, hd2⟩ := id hb
  simp only at hc hd hc2 hd2
  subst hc hd hc2 hd2
  have e : vs.toArray ++ ws.toArray = (vs ++ ws).toArray := by simp
  by_cases hw : ws = []
  · exact concat_meets ⟨_, ho, rfl⟩ ⟨_, ho2, rfl⟩ noFill_tuple_add seq_tuple_add PySem.F.slot_tuple_add PySem.F.entry_tuple_add (PySem.F.args_tuple_add_2 _ _)
      (tuple_addW1 t b vs.toArray ws.toArray n n2 dd dd2 sl sl2 (by simpa using hv) (by simp [hw])) ⟨ho, ho2, h1 hw⟩
  · refine concat_meets ⟨_, ho, rfl⟩ ⟨_, ho2, rfl⟩ noFill_tuple_add seq_tuple_add PySem.F.slot_tuple_add PySem.F.entry_tuple_add (PySem.F.args_tuple_add_2 _ _)
      (tuple_addW2 t b vs.toArray ws.toArray n n2 dd dd2 sl sl2 (by simpa using hv) (by simpa using hw) (by rw [List.size_toArray, List.size_toArray]; exact hsz)) ⟨ho, ho2, ?_⟩
    rw [e]
    exact h2 hw
noncomputable def sIx (n d : Nat) : Option Int → Nat
  | none => d
  | some v => if v < 0 then (v + (n : Int)).toNat else min v.toNat n
theorem sIx_le (n d : Nat) (hd : d ≤ n) (o : Option Int) : sIx n d o ≤ n := by
  cases o with
  | none => exact hd
  | some v =>
    show (if v < 0 then (v + (n : Int)).toNat else min v.toNat n) ≤ n
    by_cases hv : v < 0
    · rw [if_pos hv]; lia
    · rw [if_neg hv]; exact Nat.min_le_right _ _
theorem clip_eq (v : Int) (n d : Nat) : (if v < 0 then max (v + (n : Int)) 0 else min v (n : Int)) = ((sIx n d (some v) : Nat) : Int) := by
  show (if v < 0 then max (v + (n : Int)) 0 else min v (n : Int)) = (((if v < 0 then (v + (n : Int)).toNat else min v.toNat n) : Nat) : Int)
  by_cases hv : v < 0
  · simp only [if_pos hv]; lia
  · simp only [if_neg hv]; lia
theorem adjust_gen (lo hi : Option Int) (n : Nat) : Builtin.Slice.sliceAdjust lo hi 1 (n : Int) = (((sIx n 0 lo : Nat) : Int), ((sIx n n hi : Nat) : Int)) := by
  have h1 : ¬ ((1 : Int) < 0) := by lia
  unfold Builtin.Slice.sliceAdjust
  simp only [h1, if_false]
  refine Prod.ext ?_ ?_
  · cases lo with
    | none => rfl
    | some v => exact clip_eq v n 0
  · cases hi with
    | none => rfl
    | some v => exact clip_eq v n n
theorem places_gen (i j : Nat) : Builtin.Slice.slicePlaces (i : Int) (j : Int) 1 = j - i := by
  unfold Builtin.Slice.slicePlaces
  have h1 : (1 : Int) > 0 := by lia
  simp only [h1, if_true, Int.ediv_one]
  split <;> lia
theorem slicePart_ {v : Value} {o : Option Int} {Q : Option Int → Shared → Prop} (p : IsPart v o) (h : Q o s) : wpAny (model prog w) A (Builtin.Slice.slicePartIndex v) Q E s := by
  cases p with
  | none => exact slicePart_none h
  | int i t => exact slicePart_int h
theorem sliceApplied_gen {sl : Addr} {vl vu : Value} {lo hi : Option Int} {n : Nat} {Q : Int × Int × Nat → Shared → Prop} (hs : s.heap.IsSliceOf sl vl vu .none) (pl : IsPart vl lo) (pu : IsPart vu hi)
    (h : Q (((sIx n 0 lo : Nat) : Int), 1, sIx n n hi - sIx n 0 lo) s) : wpAny (model prog w) A (Builtin.Slice.sliceApplied (.ref sl) (pure (n : Int))) Q E s := by
  obtain ⟨os, hos, hcs, hds⟩ := id hs
  unfold Builtin.Slice.sliceApplied Builtin.Slice.sliceFields
  refine wpAny_bind (wpAny_bind (wpAny_field hos hds (x := vl) rfl (wpAny_bind (wpAny_field hos hds (x := vu) rfl (wpAny_bind (wpAny_field hos hds (x := .none) rfl (wpAny_pure ?_)))))))
  refine wpAny_bind (slicePart_none ?_)
  show wpAny _ _ (if ((1 : Int) == 0) = true then _ else _) _ _ s
  rw [if_neg (by decide)]
  refine wpAny_bind (slicePart_ pl (wpAny_bind (slicePart_ pu (wpAny_bind (wpAny_pure ?_)))))
  show wpAny _ _ (match Builtin.Slice.sliceAdjust lo hi 1 (n : Int) with | (lo, hi) => pure (lo, (1 : Int), Builtin.Slice.slicePlaces lo hi 1)) _ _ s
  rw [adjust_gen lo hi n]
  show wpAny _ _ (pure (((sIx n 0 lo : Nat) : Int), (1 : Int), Builtin.Slice.slicePlaces ((sIx n 0 lo : Nat) : Int) ((sIx n n hi : Nat) : Int) 1)) _ _ s
  rw [places_gen]
  exact wpAny_pure h
theorem pick_gen (xs : Array Value) (i k : Nat) : ((List.range k).filterMap fun (m : Nat) => xs[((i : Int) + (m : Int) * 1).toNat]?).toArray = ((xs.toList.drop i).take k).toArray := by
  have e : (fun (m : Nat) => xs[((i : Int) + (m : Int) * 1).toNat]?) = fun m => xs[i + m]? := by
    funext m
    have : ((i : Int) + (m : Int) * 1).toNat = i + m := by lia
    rw [this]
  rw [e]
  have := pick_run xs i k
  rw [List.filterMap_map] at this
  have e2 : ((fun x => xs[x]?) ∘ fun x => i + x) = fun m => xs[i + m]? := rfl
  rw [e2] at this
  rw [this]
theorem getItem_tuple_cut {t sl : Addr} {items : Array Value} {vl vu : Value} {lo hi : Option Int} {Q : Value → Shared → Prop} (ht : IsTup s.heap t items) (hs : s.heap.IsSliceOf sl vl vu .none) (pl : IsPart vl lo) (pu : IsPart vu hi)
    (hw : ¬ (sIx items.size 0 lo = 0 ∧ sIx items.size items.size hi = items.size))
    (h : Q (.ref s.heap.objs.size) { s with heap := s.heap.push { cls := .type "tuple", data := .seq ((items.toList.drop (sIx items.size 0 lo)).take (sIx items.size items.size hi - sIx items.size 0 lo)).toArray } })
    (hsz : items.size ≤ sizeLine) : wpAny (model prog w) A (getItem (.ref t) (.ref sl)) Q E s := by
  have htake : sizeOk (.seq ((items.toList.drop (sIx items.size 0 lo)).take (sIx items.size items.size hi - sIx items.size 0 lo)).toArray) := by
    show ((items.toList.drop (sIx items.size 0 lo)).take (sIx items.size items.size hi - sIx items.size 0 lo)).toArray.size ≤ sizeLine
    rw [List.size_toArray, List.length_take, List.length_drop, Array.length_toList]
    omega
  have hj : sIx items.size items.size hi ≤ items.size := sIx_le _ _ (Nat.le_refl _) hi
  obtain ⟨os, hos, hcs, hds⟩ := id hs
  have hTs : s.TypeIs (.ref sl) "slice" := ⟨os, hos, hcs⟩
  unfold getItem
  try with_reducible refine wpAny_holding ?_
  first | refine wpAny_bind (wpAny_pure ?_) | skip
  refine wpAny_bind (wpAny_sequenceKey ht.typeIs (by decide) ?_)
  refine wpAny_bind (wpAny_callSpecial?_slot (name := Str.ofString "__getitem__") ht.typeIs PyProof.Rows.slot_tuple_getitem
    (wpAny_call_entry PyProof.Rows.slot_tuple_getitem ht.typeIs entry_tuple_getitem ?_ (args_tuple_getitem _ _)))
  show wpAny _ _ (Builtin.Tuple.tupleItemsOf (.ref t) >>= _) _ _ s
  refine wpAny_bind (tupleItemsOf_ ht ?_)
  refine wpAny_bind (wpAny_typeOf hTs ?_)
  rw [if_pos (by decide)]
  refine wpAny_bind (sliceApplied_gen hs pl pu ?_)
  have hno : ¬ ((((sIx items.size 0 lo : Nat) : Int) == 0 && (1 : Int) == 1 && (sIx items.size items.size hi - sIx items.size 0 lo) == items.size) = true) := by
    intro q
    rw [Bool.and_eq_true, Bool.and_eq_true] at q
    have q1 : ((sIx items.size 0 lo : Nat) : Int) = 0 := eq_of_beq q.1.1
    have q2 : sIx items.size items.size hi - sIx items.size 0 lo = items.size := eq_of_beq q.2
    exact hw ⟨by omega, by omega⟩
  show wpAny _ _ (if (((sIx items.size 0 lo : Nat) : Int) == 0 && (1 : Int) == 1 && (sIx items.size items.size hi - sIx items.size 0 lo) == items.size) = true then _ else _) _ _ s
  rw [if_neg hno, pick_gen]
  first
    | exact wpAny_bind (m := Builtin.Tuple.tupleExact _) (wpAny_newObj_type (wpAny_pure ⟨_, rfl, wpAny_pure h⟩) htake)
    | exact wpAny_bind (m := Builtin.Tuple.tupleExact _) (wpAny_newObj_type (wpAny_bind (wpAny_pure (wpAny_pure ⟨_, rfl, wpAny_pure h⟩))) htake)
    | exact wpAny_bind (wpAny_bind (m := Builtin.Tuple.tupleExact _) (wpAny_newObj_type (wpAny_pure (wpAny_pure ⟨_, rfl, wpAny_pure h⟩)) htake))
    | exact wpAny_bind (wpAny_bind (m := Builtin.Tuple.tupleExact _) (wpAny_newObj_type (wpAny_pure ⟨_, rfl, wpAny_pure h⟩) htake))
end
end HT
namespace L2
open PySem PySem.Spec PyProof.Rows
noncomputable abbrev TO := St → Hp → (Option Int → Hp → Prop) → Prop
noncomputable def PO (X : Cx) (e : Option Expr) (t : TO) : Prop :=
  ∀ (pins : List (Addr × Obj)) (s : Shared) (σ : St) (H : Hp) (Q : Option Int → Hp → Prop), Inv X pins σ H s → t σ H Q →
    wpAny (model X.prog X.w) X.A (evalPart e X.env) (fun u s' => ∃ o H', Inv X pins σ H' s' ∧ IsPart u o ∧ Q o H') X.xe s
noncomputable def tNoPart : TO := fun _ H Q => Q none H
noncomputable def tPart (t : TE) : TO := fun σ H Q => t σ H fun x H1 => ∃ i, x = .int i ∧ Q (some i) H1
theorem intsAre_of {ns : List Int} : ∀ {us : List Value}, Vals (ns.map V.int) us → IntsAre us ns := by
  induction ns with
  | nil => intro us r; rw [List.map_nil] at r; cases r; exact .nil
  | cons n ns ih =>
    intro us r
    rw [List.map_cons] at r
    cases r with
    | cons r1 r2 =>
      obtain ⟨t, e⟩ := r1
      subst e
      exact .cons n t (ih r2)
section
variable {X : Cx} {e : Expr} {te : TE} {lo hi : Option Expr} {tl th : TO} {pos p2 : Pos}
theorem po_none : PO X none tNoPart := by
  intro pins s σ H Q I h
  rw [evalPart_none]
  exact wpAny_pure ⟨none, H, I, .none, h⟩
theorem po_some (h : PE X e te) : PO X (some e) (tPart te) := by
  intro pins s σ H Q I hw
  rw [evalPart_some]
  refine thn (h pins s σ H _ I hw) fun u s1 hpt9 => ?_
  obtain ⟨x, H1, I1, r1, q1⟩ := hpt9
  obtain ⟨i, rfl, q⟩ := q1
  obtain ⟨t, rfl⟩ := r1
  exact ⟨some i, H1, I1, .int i t, q⟩
noncomputable def SlR (X : Cx) (r : V → Option Int → Option Int → Hp → VK → Prop) : Prop :=
  ∀ (pins : List (Addr × Obj)) (s : Shared) (σ : St) (H : Hp) (x : V) (v vl vu : Value) (lo hi : Option Int) (sl : Addr) (Q : VK), Inv X pins σ H s → RelV x v → s.heap.IsSliceOf sl vl vu .none → IsPart vl lo → IsPart vu hi → r x lo hi H Q →
    ∃ T id, typeLookup (.type T) "__getitem__" = pure (some (.builtin id)) ∧ s.TypeIs v T ∧ wpAny (model X.prog X.w) X.A (getItem v (.ref sl)) (EP X pins σ Q) X.xe s
theorem SlR.or {r r' : V → Option Int → Option Int → Hp → VK → Prop} (h : SlR X r) (h' : SlR X r') : SlR X (fun x lo hi H Q => r x lo hi H Q ∨ r' x lo hi H Q) := by
  intro pins s σ H x v vl vu lo hi sl Q I rx hs pl pu q
  rcases q with q | q
  · exact h pins s σ H x v vl vu lo hi sl Q I rx hs pl pu q
  · exact h' pins s σ H x v vl vu lo hi sl Q I rx hs pl pu q
noncomputable def tSl (r : V → Option Int → Option Int → Hp → VK → Prop) (te : TE) (tl th : TO) : TE := fun σ H Q => te σ H fun x H1 => tl σ H1 fun l H2 => th σ H2 fun u H3 => r x l u H3 Q
theorem pe_slice {r : V → Option Int → Option Int → Hp → VK → Prop} (hr : SlR X r) (he : PE X e te) (hl : PO X lo tl) (hu : PO X hi th) : PE X (.Subscript e (.Slice lo hi none p2) pos) (tSl r te tl th) := by
  intro pins s σ H Q I h
  refine Subscript_ (thn (he pins s σ H _ I h) fun v s1 hpt9 => ?_)
  obtain ⟨x, H1, I1, r1, q1⟩ := hpt9
  refine wpAny_Slice (thn (hl pins s1 σ H1 _ I1 q1) fun vl s2 ⟨l, H2, I2, pl, q2⟩ => thn (hu pins s2 σ H2 _ I2 q2) fun vu s3 hpt9 => ?_)
  obtain ⟨u, H3, I3, pu, q3⟩ := hpt9
  rw [evalPart_none]
  refine wpAny_pure ?_
  have I4 : Inv X pins σ H3 { s3 with heap := s3.heap.push { cls := .type "slice", data := .fields #[vl, vu, .none] } } := I3.kept (t' := s3.toks) fun b ob q => Heap.get?_push_of_some _ q
  obtain ⟨T, id, hT, ht, hg⟩ := hr pins { s3 with heap := s3.heap.push { cls := .type "slice", data := .fields #[vl, vu, .none] } } σ H3 x v vl vu l u s3.heap.objs.size Q I4 r1 (Heap.IsSliceOf.new ..) pl pu q3
  show wpAny (model X.prog X.w) X.A (subscriptTail e (.Slice lo hi none p2) v (.ref s3.heap.objs.size)) (EP X pins σ Q) X.xe { s3 with heap := s3.heap.push { cls := .type "slice", data := .fields #[vl, vu, .none] } }
  exact tail_any (ops := [.ref s3.heap.objs.size, v]) ht hT hg (by with_unfolding_all rfl)
noncomputable def cutV (xs : List V) (lo hi : Option Int) : List V := (xs.drop (HT.sIx xs.length 0 lo)).take (HT.sIx xs.length xs.length hi - HT.sIx xs.length 0 lo)
theorem cutV_length (xs : List V) (lo hi : Option Int) : (cutV xs lo hi).length ≤ xs.length := by
  unfold cutV
  rw [List.length_take, List.length_drop]
  lia
noncomputable def rSlT (K : PySem.W.Frag) : V → Option Int → Option Int → Hp → VK → Prop := fun x lo hi H Q => ∃ a xs, x = .ref a ∧ SqT K H a xs ∧
  ¬ (HT.sIx xs.length 0 lo = 0 ∧ HT.sIx xs.length xs.length hi = xs.length) ∧ ∀ p, H p = none → Q (.ref p) (upd H p (.tup (cutV xs lo hi)))
theorem sl_tup : SlR X (rSlT X.K) := by
  intro pins s σ H x v vl vu lo hi sl Q I rx hs pl pu h
  obtain ⟨a, xs, rfl, hx, hw, q⟩ := h
  cases rx
  obtain ⟨its, r, ht, hz⟩ := I.tuple hx
  have hlen : its.toArray.size = xs.length := by rw [List.size_toArray]; exact r.length.symm
  refine ⟨"tuple", _, PyProof.Rows.slot_tuple_getitem.lookup, ht.typeIs, ?_⟩
  refine HT.getItem_tuple_cut ht hs pl pu (by rw [hlen]; exact hw) ?_ (by rw [hlen]; exact hz)
  rw [hlen]
  refine ⟨.ref s.heap.objs.size, _, I.laid (t' := s.toks) (o := .tup (cutV xs lo hi)) (fun b ob q => Heap.get?_push_of_some _ q) (Nat.le_refl _) ?_, rfl, q _ (I.hok.fresh (Nat.le_refl _))⟩
  exact ⟨Nat.le_trans (cutV_length xs lo hi) hz, _, (r.drop (HT.sIx xs.length 0 lo)).take (HT.sIx xs.length xs.length hi - HT.sIx xs.length 0 lo), IsTup.new _ _⟩
theorem Vals.nil_iff {xs : List V} {us : List Value} (r : Vals xs us) : us = [] ↔ xs = [] := by
  cases r with
  | nil => simp
  | cons _ _ => simp
end
end L2
namespace L2
open PySem PySem.Spec PyProof.Rows
noncomputable def ixN (n : Nat) (i : Int) : Option Nat := if 0 ≤ i then (if i < n then some i.toNat else none) else if -(n : Int) ≤ i then some (i + n).toNat else none
noncomputable def atI {α : Type} (xs : List α) (i : Int) : Option α := (ixN xs.length i).bind fun j => xs[j]?
theorem ixN_seq {n : Nat} {i : Int} {j : Nat} (h : ixN n i = some j) : seqIndex? i n = some j ∧ j < n ∧ -(n : Int) ≤ i ∧ i < n := by
  unfold ixN at h
  by_cases h0 : 0 ≤ i
  · rw [if_pos h0] at h
    by_cases h1 : i < n
    · rw [if_pos h1] at h
      have e : i.toNat = j := Option.some.inj h
      exact ⟨by rw [seqIndex_of h0 h1, e], by lia, by lia, h1⟩
    · rw [if_neg h1] at h; cases h
  · rw [if_neg h0] at h
    by_cases h1 : -(n : Int) ≤ i
    · rw [if_pos h1] at h
      have e : (i + n).toNat = j := Option.some.inj h
      exact ⟨by rw [seqIndex_neg (by lia) h1, e], by lia, h1, by lia⟩
    · rw [if_neg h1] at h; cases h
theorem atI_get {α : Type} {xs : List α} {i : Int} {v : α} (h : atI xs i = some v) : ∃ j, seqIndex? i xs.length = some j ∧ xs[j]? = some v ∧ j < xs.length ∧ -(xs.length : Int) ≤ i ∧ i < xs.length := by
  unfold atI at h
  cases e : ixN xs.length i with
  | none => rw [e] at h; cases h
  | some j =>
    rw [e] at h
    obtain ⟨h1, h2, h3, h4⟩ := ixN_seq e
    exact ⟨j, h1, h, h2, h3, h4⟩
noncomputable def PlainIx (b : Expr) : Prop := ∀ o i, subscripted b false o i = operate [o, i] (getItem o i)
noncomputable def IxR (X : Cx) (r : R2) : Prop :=
  ∀ (value slice : Expr) (pins : List (Addr × Obj)) (s : Shared) (σ : St) (H : Hp) (x y : V) (v u : Value) (Q : VK), Inv X pins σ H s → RelV x v → RelV y u → r x y H Q →
    subscripted slice false v u = operate [v, u] (getItem v u) → wpAny (model X.prog X.w) X.A (subscriptTail value slice v u) (EP X pins σ Q) X.xe s
noncomputable def MtR (X : Cx) (id : String) (r : V → List V → Hp → VK → Prop) : Prop :=
  ∀ (pins : List (Addr × Obj)) (s : Shared) (σ : St) (H : Hp) (x : V) (xs : List V) (v : Value) (us : List Value) (Q : VK), Inv X pins σ H s → RelV x v → Vals xs us → r x xs H Q →
    wpAny (model X.prog X.w) X.A (call (.builtin id) (v :: us)) (EP X pins σ Q) X.xe s
section
variable {X : Cx} {a b : Expr} {ta tb : TE} {pos : Pos}
theorem IxR.or {r r' : R2} (h : IxR X r) (h' : IxR X r') : IxR X (fun x y H Q => r x y H Q ∨ r' x y H Q) := by
  intro value slice pins s σ H x y v u Q I rx ry q hs
  rcases q with q | q
  · exact h value slice pins s σ H x y v u Q I rx ry q hs
  · exact h' value slice pins s σ H x y v u Q I rx ry q hs
theorem pe_ix {r : R2} (hr : IxR X r) (ha : PE X a ta) (hb : PE X b tb) (hs : PlainIx b) : PE X (.Subscript a b pos) (tOp r ta tb) := by
  intro pins s σ H Q I h
  exact Subscript_ (binT ha hb I h fun v u s2 x y H2 I2 rx ry q => hr a b pins s2 σ H2 x y v u Q I2 rx ry q (hs _ _))
noncomputable def rIxL (K : PySem.W.Frag) : R2 := fun x y H Q => ∃ p xs i v, x = .ref p ∧ y = .int i ∧ SqL K H p xs ∧ atI xs i = some v ∧ Q v H
noncomputable def rIxT (K : PySem.W.Frag) : R2 := fun x y H Q => ∃ p xs i v, x = .ref p ∧ y = .int i ∧ SqT K H p xs ∧ atI xs i = some v ∧ Q v H
noncomputable def rIxS : R2 := fun x y H Q => ∃ z i c, x = .str z ∧ y = .int i ∧ z.length ≤ sizeLine ∧ atI z.cps.toList i = some c ∧ Q (.str ⟨#[c]⟩) H
theorem ix_list : IxR X (rIxL X.K) := by
  intro value slice pins s σ H x y v u Q I rx ry h hs
  obtain ⟨p, xs, i, z, rfl, rfl, hq, he, q⟩ := h
  cases rx
  obtain ⟨t, rfl⟩ := ry
  obtain ⟨its, r, pl, hz⟩ := I.list hq
  obtain ⟨j, h1, h2, h3, h4, h5⟩ := atI_get he
  obtain ⟨w, ew, rw'⟩ := r.get h2
  have hl := r.length
  have hn := line63
  have fin : EP X pins σ Q w s := ⟨z, H, I, rw', q⟩
  by_cases h0 : 0 ≤ i
  · have hj : i.toNat = j := by
      rw [seqIndex_of h0 h5] at h1
      exact Option.some.inj h1
    exact item_listR pl.isList h0 (by lia) (by rw [hj]; simpa using ew) fin hs
  · have hj : (i + (its.toArray.size : Int)).toNat = j := by
      rw [seqIndex_neg (by lia) h4] at h1
      rw [List.size_toArray, ← hl]
      exact Option.some.inj h1
    exact subscriptTail_builtinR (x := w) pl.isList.typeIs slot_list_getitem.lookup
      (wpAny_getItem_list_neg (Q := fun r s' => r = w ∧ EP X pins σ Q r s') pl.isList (by lia) (by rw [List.size_toArray] <;> lia) (by lia) (by rw [hj]; simpa using ew) ⟨rfl, fin⟩) hs
theorem ix_tup : IxR X (rIxT X.K) := by
  intro value slice pins s σ H x y v u Q I rx ry h hs
  obtain ⟨p, xs, i, z, rfl, rfl, hq, he, q⟩ := h
  cases rx
  obtain ⟨t, rfl⟩ := ry
  obtain ⟨its, r, pl, hz⟩ := I.tuple hq
  obtain ⟨j, h1, h2, h3, h4, h5⟩ := atI_get he
  obtain ⟨w, ew, rw'⟩ := r.get h2
  have hl := r.length
  have hn := line63
  have fin : EP X pins σ Q w s := ⟨z, H, I, rw', q⟩
  exact subscriptTail_builtinR (x := w) pl.typeIs slot_tuple_getitem.lookup
    (getItem_tuple (j := j) (Q := fun r s' => r = w ∧ EP X pins σ Q r s') pl (by lia) (by lia) (by rw [List.size_toArray, ← hl]; exact h1) (by simpa using ew) ⟨rfl, fin⟩) hs
theorem ix_str : IxR X rIxS := by
  intro value slice pins s σ H x y v u Q I rx ry h hs
  obtain ⟨z, i, c, rfl, rfl, hz, he, q⟩ := h
  obtain ⟨t, rfl⟩ := rx
  obtain ⟨t', rfl⟩ := ry
  obtain ⟨j, h1, h2, h3, h4, h5⟩ := atI_get he
  have hl : z.cps.toList.length = z.length := by simp [Str.length]
  rw [hl] at h1 h4 h5
  have hn := line63
  exact tail_any (typeIs_str s z t) slot_str_getitem.lookup (getItem_str (c := c) (by
    have e1 : decide (i < -(2 ^ 63 : Int)) = false := decide_eq_false (by lia)
    have e2 : decide (i ≥ 2 ^ 63) = false := decide_eq_false (by lia)
    rw [e1, e2, Bool.or_false]) (by rw [h1]; simpa using h2) ⟨.str ⟨#[c]⟩, H, I.tok _, ⟨_, rfl⟩, q⟩) hs
noncomputable def rIx (K : PySem.W.Frag) : R2 := fun x y H Q => rIxL K x y H Q ∨ rIxT K x y H Q ∨ rIxS x y H Q
theorem ix_seq : IxR X (rIx X.K) := ix_list.or (ix_tup.or ix_str)
theorem mapSeq_set (its : List Value) (n j : Nat) (u : Value) : Obj.mapSeq (·.setIfInBounds j u) { cls := .type "list", data := .seq its.toArray n } = { cls := .type "list", data := .seq (its.set j u).toArray n } := by
  simp [Obj.mapSeq]
theorem Inv.lst {pins : List (Addr × Obj)} {σ : St} {H : Hp} {s : Shared} {p : Addr} {xs : List V} (I : Inv X pins σ H s) (h : H p = some (.lst xs)) :
    ∃ (its : List Value) (n : Nat), Vals xs its ∧ s.heap.get? p = some { cls := .type "list", data := .seq its.toArray n } ∧ xs.length ≤ sizeLine := by
  obtain ⟨z, its, n, r, e⟩ := I.hok p _ h
  exact ⟨its, n, r, e, z⟩
theorem Inv.lstUpd {pins : List (Addr × Obj)} {σ : St} {H : Hp} {s : Shared} {p : Addr} {xs ys : List V} {its its' : List Value} {n n' : Nat} {f : Obj → Obj} (I : Inv X pins σ H s) (h : H p = some (.lst xs))
    (ho : s.heap.get? p = some { cls := .type "list", data := .seq its.toArray n }) (hf : f { cls := .type "list", data := .seq its.toArray n } = { cls := .type "list", data := .seq its'.toArray n' }) (r : Vals ys its') (hz : ys.length ≤ sizeLine) (t : Nat) :
    Inv X pins σ (upd H p (.lst ys)) { s with heap := s.heap.update p f, toks := t } := by
  have e : (s.heap.update p f).get? p = some { cls := .type "list", data := .seq its'.toArray n' } := by
    rw [Heap.get?_update_self f ho (by rw [hf] <;> rfl), hf]
  refine I.write (x := p) (e := p) (by rw [h]; trivial) (.inl rfl) (fun b u hb q => (Heap.get?_update_other _ _ (Ne.symm hb)).trans q) ⟨_, e⟩ ?_
  exact ⟨hz, its', n', r, e⟩
noncomputable def rSetL : V → V → V → Hp → (Hp → Prop) → Prop := fun o i v H Q => ∃ p xs k j, o = .ref p ∧ i = .int k ∧ H p = some (.lst xs) ∧ ixN xs.length k = some j ∧ Q (upd H p (.lst (xs.set j v)))
theorem set_list : PSet X rSetL := by
  intro pins s σ H o i v ov iv u Q I ro ri rv h
  obtain ⟨p, xs, k, j, rfl, rfl, hp, hj, q⟩ := h
  cases ro
  obtain ⟨t, rfl⟩ := ri
  obtain ⟨its, n, r, ho, hz⟩ := I.lst hp
  obtain ⟨h1, h2, h3, h4⟩ := ixN_seq hj
  have hl := r.length
  have hn := line63
  have I' : Inv X pins σ (upd H p (.lst (xs.set j v))) { s with heap := s.heap.update p (Obj.mapSeq (·.setIfInBounds j u)) } :=
    I.lstUpd hp ho (mapSeq_set its n j u) (r.set rv j) (by rw [List.length_set]; exact hz) s.toks
  by_cases h0 : 0 ≤ k
  · have hk : k.toNat = j := by
      rw [seqIndex_of h0 h4] at h1
      exact Option.some.inj h1
    exact PySem.W.ki_setAt ho h0 (by lia) (by rw [List.size_toArray, ← hl]; exact h4) (by rw [hk]; exact ⟨_, I', q⟩)
  · have hk : (k + (its.toArray.size : Int)).toNat = j := by
      rw [seqIndex_neg (by lia) h3] at h1
      rw [List.size_toArray, ← hl]
      exact Option.some.inj h1
    exact PySem.W.ki_setBack ho (by lia) (by rw [List.size_toArray, ← hl]; exact h3) (by lia) (by rw [hk]; exact ⟨_, I', q⟩)
theorem slice_bounds (lo hi : Option Int) (n : Nat) : (sliceBounds lo hi none n).1 = ((HT.sIx n 0 lo : Nat) : Int) ∧ (sliceBounds lo hi none n).2.1 = ((HT.sIx n n hi : Nat) : Int) ∧ (sliceBounds lo hi none n).2.2 = 1 := by
  refine ⟨?_, ?_, rfl⟩
  · cases lo with
    | none => simp [sliceBounds, HT.sIx]
    | some i =>
      simp only [sliceBounds, HT.sIx, Option.getD_none, show (1 : Int) > 0 by decide, if_true]
      by_cases h : i < 0
      · simp only [h, if_true] <;> lia
      · simp only [h, if_false] <;> lia
  · cases hi with
    | none => simp [sliceBounds, HT.sIx]
    | some i =>
      simp only [sliceBounds, HT.sIx, Option.getD_none, show (1 : Int) > 0 by decide, if_true]
      by_cases h : i < 0
      · simp only [h, if_true] <;> lia
      · simp only [h, if_false] <;> lia
theorem slicePick_cut (its : List Value) (lo hi : Option Int) : slicePick its.toArray lo hi none = ((its.drop (HT.sIx its.length 0 lo)).take (HT.sIx its.length its.length hi - HT.sIx its.length 0 lo)).toArray := by
  obtain ⟨h1, h2, h3⟩ := slice_bounds lo hi its.toArray.size
  unfold slicePick
  rw [h1, h2, h3]
  simp only [sliceRange_one, pick_run, List.size_toArray] <;> rfl
noncomputable def rSlL (K : PySem.W.Frag) : V → Option Int → Option Int → Hp → VK → Prop := fun x lo hi H Q => ∃ a xs, x = .ref a ∧ SqL K H a xs ∧ ∀ p, H p = none → Q (.ref p) (upd H p (.lst (cutV xs lo hi)))
theorem sl_list : SlR X (rSlL X.K) := by
  intro pins s σ H x v vl vu lo hi sl Q I rx hs pl pu h
  obtain ⟨a, xs, rfl, hx, q⟩ := h
  cases rx
  obtain ⟨its, r, ht, hz⟩ := I.list hx
  have hlen := r.length
  refine ⟨"list", _, slot_list_getitem.lookup, ht.isList.typeIs, ?_⟩
  refine wpAny_getItem_list_slice ht.isList hs pl pu .none (by simp) ?_ (by rw [List.size_toArray] <;> lia)
  rw [slicePick_cut, ← hlen]
  refine ⟨.ref s.heap.objs.size, _, I.laid (t' := s.toks) (o := .lst (cutV xs lo hi)) (fun b ob q => Heap.get?_push_of_some _ q) (Nat.le_refl _) ?_, rfl, q _ (I.hok.fresh (Nat.le_refl _))⟩
  exact ⟨Nat.le_trans (cutV_length xs lo hi) hz, _, 0, (r.drop (HT.sIx xs.length 0 lo)).take (HT.sIx xs.length xs.length hi - HT.sIx xs.length 0 lo), Heap.get?_push_size _ rfl⟩
theorem CallR.or {f : Value} {r r' : List V → Hp → VK → Prop} (h : CallR X f r) (h' : CallR X f r') : CallR X f (fun xs H Q => r xs H Q ∨ r' xs H Q) := by
  intro pins s σ H xs us Q I rs q
  rcases q with q | q
  · exact h pins s σ H xs us Q I rs q
  · exact h' pins s σ H xs us Q I rs q
theorem call_tuple_of : CallR X (.type "tuple") (fun xs H Q => ∃ p ys, xs = [.ref p] ∧ ((SqL X.K H p ys ∧ ∀ l, H l = none → Q (.ref l) (upd H l (.tup ys))) ∨ (SqT X.K H p ys ∧ Q (.ref p) H))) := by
  intro pins s σ H xs us Q I r h
  obtain ⟨p, ys, rfl, h⟩ := h
  obtain ⟨u, rfl, rx⟩ := vals1 r
  cases rx
  rcases h with ⟨hq, q⟩ | ⟨hq, q⟩
  · obtain ⟨its, r', pl, hz⟩ := I.list hq
    have hlen := r'.length
    refine call_tuple_list pl.isList (fun h' kp => ?_) (by simp only [List.size_toArray] <;> lia)
    have I1 : Inv X pins σ H { s with heap := h' } := I.kept (t' := s.toks) kp
    have I2 : Inv X pins σ (upd H h'.objs.size (.tup ys)) { s with heap := h'.push { cls := .type "tuple", data := .seq its.toArray } } :=
      I1.laid (t' := s.toks) (fun b o e => Heap.get?_push_of_some _ e) (Nat.le_refl _) (show ObjOk X.prog X.w _ _ _ (.tup ys) from ⟨hz, its, r', IsTup.new _ _⟩)
    exact ⟨.ref h'.objs.size, _, I2, rfl, q _ (I1.hok.fresh (Nat.le_refl _))⟩
  · obtain ⟨its, r', pl, hz⟩ := I.tuple hq
    exact call_tuple_same pl ⟨.ref p, H, I, rfl, q⟩
noncomputable def tyV (K : PySem.W.Frag) (T : String) (x : V) (H : Hp) : Prop := match x with
  | .str _ => T = "str"
  | .int _ => T = "int"
  | .ref p => (T = "list" ∧ ∃ xs, SqL K H p xs) ∨ (T = "tuple" ∧ ∃ o, K.lookup p = some o ∧ o.cls = .type "tuple" ∧ o.dict = none) ∨
      (T = "dict" ∧ ((∃ kvs, H p = some (.dK kvs)) ∨ ∃ kvs, H p = some (.dT kvs))) ∨ (T = "set" ∧ ∃ S n, H p = some (.set S n))
  | _ => False
theorem tyV_is {pins : List (Addr × Obj)} {σ : St} {H : Hp} {s : Shared} {T : String} {x : V} {v : Value} (I : Inv X pins σ H s) (r : RelV x v) (ty : tyV X.K T x H) :
    s.TypeIs v T ∧ ∀ a, v = .ref a → ∃ ob, s.heap.get? a = some ob ∧ ob.dict = none := by
  cases x with
  | str z =>
    obtain ⟨t, rfl⟩ := r
    cases (show T = "str" from ty)
    exact ⟨typeIs_str s z t, fun _ e => nomatch e⟩
  | int i =>
    obtain ⟨t, rfl⟩ := r
    cases (show T = "int" from ty)
    exact ⟨typeIs_int s i t, fun _ e => nomatch e⟩
  | ref p =>
    cases r
    rcases ty with ⟨rfl, xs, hq⟩ | ⟨rfl, o, hk, hc, hd⟩ | ⟨rfl, hk⟩ | ⟨rfl, S, n, hk⟩
    · obtain ⟨its, _, pl, _⟩ := I.list hq
      refine ⟨pl.isList.typeIs, fun a e => ?_⟩
      cases e
      obtain ⟨o, n, e, c, hd, _⟩ := pl
      exact ⟨o, e, hd⟩
    · refine ⟨⟨o, I.kIn p o hk, hc⟩, fun a e => ?_⟩
      cases e
      exact ⟨o, I.kIn _ o hk, hd⟩
    · have z : ∃ o, s.heap.get? p = some o ∧ o.ExactDict := by
        rcases hk with ⟨kvs, hk⟩ | ⟨kvs, hk⟩
        · obtain ⟨_, _, _, _, o, _, _, e, ex, _⟩ := I.hok p _ hk
          exact ⟨o, e, ex⟩
        · obtain ⟨_, _, _, _, o, _, _, e, ex, _⟩ := I.hok p _ hk
          exact ⟨o, e, ex⟩
      obtain ⟨o, e, ex⟩ := z
      refine ⟨⟨o, e, ex.1⟩, fun a e2 => ?_⟩
      cases e2
      exact ⟨o, e, ex.2.1⟩
    · obtain ⟨o, _, _, _, e, ex, _⟩ := I.hok p _ hk
      refine ⟨⟨o, e, ex.1⟩, fun a e2 => ?_⟩
      cases e2
      exact ⟨o, e, ex.2.1⟩
  | _ => exact False.elim ty
noncomputable def tBM (K : PySem.W.Frag) (T : String) (r : V → List V → Hp → VK → Prop) (to : TE) (t : TA) : TE := fun σ H Q => to σ H fun x H1 => tyV K T x H1 ∧ t σ H1 fun xs H2 => r x xs H2 Q
variable {o e : Expr} {es : List Expr} {to : TE} {t : TA} {name : Str} {apos cpos : Pos} {T id : String} {r : V → List V → Hp → VK → Prop}
theorem pe_bm (pa : PlainAttrs T) (slot : Slot T name id) (hty : typeOf (.builtin id) = pure (.type "method_descriptor")) (hm : MtR X id r) (ho : PE X o to) (ha : PA X (e :: es) t)
    (hbase : attributeBase o name X.env (eval o X.env) = eval o X.env := by rfl)
    (hfew : ((backTo cpos (starEach (e :: es) X.env)).all (fun x => !x.1) && (backToKw cpos (keywordEach [] X.env)).all (fun x => x.1.isSome)
      && decide ((e :: es).length + ([] : List Keyword).length + (if ([] : List Keyword).isEmpty then 0 else 1) < 30)) = true := by rfl)
    (hline : (apos.endLine == cpos.line) = true := by rfl) (hs : starEach (e :: es) X.env = (false, eval e X.env) :: starEach es X.env := by rfl) (hplain : (backTo cpos (starEach es X.env)).any (·.1) = false := by rfl) :
    PE X (.Call (.Attribute o name apos) (e :: es) [] cpos) (tBM X.K T r to t) := by
  intro pins s σ H Q I h
  refine wpAny_Call_method_late hbase hfew hline rfl (thn (ho pins s σ H _ I h) fun v s1 hpt9 => ?_)
  obtain ⟨x, H1, I1, r1, ty, q1⟩ := hpt9
  obtain ⟨h1, h2⟩ := tyV_is I1 r1 ty
  refine ⟨T, id, pa, slot, hty, h1, h2, ?_⟩
  have hA := ha cpos pins s1 σ H1 _ I1 q1
  rw [hs] at hA ⊢
  refine Calls.callWith_builtin (by show (false || (backTo cpos (starEach es X.env)).any (·.1)) = false; rw [hplain] <;> rfl) (Calls.evalArgs_plain ?_)
  exact thn hA fun us s2 ⟨vs, H2, I2, r2, q2⟩ => hm pins s2 σ H2 x vs v us Q I2 r1 r2 q2
end
end L2
namespace L2
open PySem PySem.Spec PyProof.Rows
noncomputable def MtM (X : Cx) (id : String) (r : V → List V → Hp → VK → Prop) : Prop :=
  ∀ (pins : List (Addr × Obj)) (s : Shared) (σ : St) (H : Hp) (x : V) (xs : List V) (v : Value) (us : List Value) (Q : VK), Inv X pins σ H s → RelV x v → Vals xs us → r x xs H Q →
    wpAny (model X.prog X.w) X.A (call (.builtin id) (v :: us)) (EP X pins σ Q) X.xe s
theorem Vals.one {x : V} {us : List Value} (h : Vals [x] us) : ∃ u, us = [u] ∧ RelV x u := by
  cases h with
  | cons r t => cases t; exact ⟨_, rfl, r⟩
theorem Vals.two {x y : V} {us : List Value} (h : Vals [x, y] us) : ∃ u v, us = [u, v] ∧ RelV x u ∧ RelV y v := by
  cases h with
  | cons r t =>
    cases t with
    | cons q t => cases t; exact ⟨_, _, rfl, r, q⟩
section
variable {X : Cx} {pins : List (Addr × Obj)} {σ : St} {H : Hp} {s : Shared} {l b : Addr} {xs ys zs : List V}
theorem Inv.lset {its its' : List Value} {n : Nat} {f : Array Value → Array Value} {t' : Nat} (I : Inv X pins σ H s) (hH : H l = some (.lst xs))
    (e : s.heap.get? l = some { cls := .type "list", data := .seq its.toArray n }) (hf : f its.toArray = its'.toArray) (hv : Vals ys its') (hz : ys.length ≤ sizeLine) :
    Inv X pins σ (upd H l (.lst ys)) { s with heap := s.heap.update l (Obj.mapSeq f), toks := t' } := by
  have q := PySem.IsL.update e f
  rw [hf] at q
  refine I.write (x := l) (e := l) (by rw [hH]; exact trivial) (.inl rfl) (fun b' u hb hu => (Heap.get?_update_other s.heap (Obj.mapSeq f) (Ne.symm hb)).trans hu) ⟨_, q⟩ ?_
  exact ⟨hz, its', _, hv, q⟩
theorem Inv.lnew {its : List Value} {t' : Nat} (I : Inv X pins σ H s) (hv : Vals ys its) (hz : ys.length ≤ sizeLine) :
    Inv X pins σ (upd H s.heap.objs.size (.lst ys)) { s with heap := s.heap.push { cls := .type "list", data := .seq its.toArray }, toks := t' } :=
  I.laid (fun _ _ q => Heap.get?_push_of_some _ q) (Nat.le_refl _) ⟨hz, its, 0, hv, Heap.get?_push_size _ rfl⟩
theorem Inv.fresh (I : Inv X pins σ H s) : H s.heap.objs.size = none := I.hok.fresh (Nat.le_refl _)
theorem Inv.lstM (I : Inv X pins σ H s) (hH : H l = some (.lst xs)) : xs.length ≤ sizeLine ∧ ∃ (its : List Value) (n : Nat), Vals xs its ∧ xs.length = its.length ∧ s.heap.get? l = some { cls := .type "list", data := .seq its.toArray n } := by
  obtain ⟨z, its, n, r, e⟩ := I.hok l _ hH
  exact ⟨z, its, n, r, r.length, e⟩
theorem notLongL {n : Nat} (h : n ≤ sizeLine) : Builtin.List.listTooLong n = false := by
  unfold Builtin.List.listTooLong
  exact decide_eq_false (by lia)
end
section
variable {X : Cx}
noncomputable def rAppend : V → List V → Hp → VK → Prop := fun x vs H Q => ∃ l xs y, x = .ref l ∧ vs = [y] ∧ H l = some (.lst xs) ∧ xs.length < sizeLine ∧ Q .non (upd H l (.lst (xs ++ [y])))
theorem mt_append : MtM X "list.append" rAppend := by
  intro pins s σ H x vs v us Q I rx rv h
  obtain ⟨l, xs, y, rfl, rfl, hH, hz, q⟩ := h
  cases rx
  obtain ⟨u, rfl, ru⟩ := rv.one
  obtain ⟨z, its, n, r, hl, e⟩ := I.lstM hH
  refine call_meets F.slot_list_append ⟨_, e, rfl⟩ F.entry_list_append (F.args_list_append_2 _ _) (PySem.list_append l its.toArray n u (by rw [List.size_toArray]; lia)) ⟨e, ?_⟩
  refine ⟨.non, _, I.lset (its' := its ++ [u]) hH e (by simp) (r.append (.cons ru .nil)) ?_, rfl, q⟩
  rw [List.length_append, List.length_singleton]
  lia
end
section
variable {prog : Program} {w : World} {A : Around} {E : Value → Shared → Prop} {s : Shared}
end
section
variable {X : Cx}
end
end L2
namespace Att
open PySem PySem.W PySem.Calls PyProof.Rows
theorem ints_of_wellAll {P : Params} {h : Heap} : ∀ (ns : List Int) (vs : List Value), WellAll P h vs (ns.map WData.int) → IntsAre vs ns := by
  intro ns
  induction ns with
  | nil =>
    intro vs w
    rw [List.map_nil] at w
    cases w
    exact .nil
  | cons n ns ih =>
    intro vs w
    rw [List.map_cons] at w
    cases w with
    | cons a b =>
      cases a
      exact .cons _ _ (ih _ b)
theorem script_of {l : OpenLaw} {n : Nat} (hn : l.most = some n) {P : Params} {h : Heap} {args : List WData} {vals : List Value}
    (hpre : l.row.toRowW.claim.pre args = true) (hwl : WellAll P h vals args) :
    ∃ a vs ns, vals = [Value.ref a] ∧ args = [WData.list (ns.map WData.int)] ∧ h.get? a = some { cls := .type "list", data := .seq vs.toArray } ∧ IntsAre vs ns ∧ ns.length ≤ n := by
  have hsh : WShape.hasAll [] args [.list .int] = true := (pre_splitW hpre).1
  have hc : l.pre.holds [] { args := args } = true := (pre_splitW hpre).2
  obtain ⟨d, r, rfl, h1, h2⟩ := hasAllW_cons hsh
  obtain rfl := hasAllW_nil h2
  obtain ⟨xs, rfl, h3⟩ := hasW_list h1
  obtain ⟨ns, rfl⟩ := items_int h3
  have hlen : ns.length ≤ n := by
    unfold OpenLaw.pre at hc
    have h4 : (WTm.not (.lt (.lit (.int (n : Int))) (.len (.arg 0)))).holds [] { args := [.list (ns.map .int)] } = true := by
      have h4 := (holds_andW hc).1
      rw [hn] at h4
      exact h4
    have h5 := condW_of h4 (w_not (w_lt w_lit (w_len_list (w_arg rfl))))
    rw [List.length_map] at h5
    refine Nat.le_of_not_lt fun q => ?_
    have q' : (n : Int) < ((ns.length : Nat) : Int) := by omega
    first
      | (rw [decide_eq_true q'] at h5; exact absurd h5 (by decide))
      | (simp at h5; omega)
  cases hwl with
  | cons w1 w2 =>
    cases w2
    cases w1 with
    | list ho hall => exact ⟨_, _, ns, rfl, rfl, ho, ints_of_wellAll ns _ hall, hlen⟩
theorem post_true (l : OpenLaw) (args : List WData) : l.row.toRowW.claim.post args (.bool true) args = true :=
  postW_of (r := l.row.toRowW) (X := (true == true))
    (show WShape.has [] (.bool true) .bool = true by first | rfl | decide | simp [WShape.has, WShape.arms, WShape.armsAll])
    (show (WTm.eq .res (.lit (.bool true))).value [] { args := args, res := some (.bool true), after := args } = some (.bool (true == true)) from w_eq_bool (w_res rfl) w_lit) rfl
theorem attach_call {l : OpenLaw} {n : Nat} {q : Program} {loose : List Str} {XP : (Str → Option Value) → Heap → Prop} {YP : World → Heap → Prop} {d : DefRec}
    (hn : l.most = some n) (hdf : d.params.defaults = [])
    (call : ∀ (w : World) (s₀ s₁ : Shared) (mg mb : Str → Option Value) (fa : Addr) (o : Obj) (pm cd doc : Value) (a : Addr) (vs : List Value) (ns : List Int),
      Ground q loose [] XP w s₀ mg mb s₁.heap → YP w s₁.heap →
      s₁.heap.get? fa = some o → o.data = .func (docDef d.name d.params d.body d.scope pm cd doc) → s₁.heap.CodeRec cd d.name → mg d.name = some (.ref fa) →
      s₁.heap.get? a = some { cls := .type "list", data := .seq vs.toArray } → IntsAre vs ns → ns.length ≤ n → s₁.gens = #[] →
      codeAny (model l.prog w) callerA (.call (.ref fa) ⟨[.ref a], []⟩) (fun r s' => r = .ok (.ret (.bool true)) ∧ OldK s₁.heap s'.heap ∧ s'.os = s₁.os ∧ AllBare s'.gens) s₁) :
    WalkO q loose XP YP l.row.toRowW d [] (fun f vs => PySem.call f vs) := by
  intro w s₀ s₁ mg mb G Y fa o pm cd doc dV kV ho hd hcd hD hmg hg args vals as hpre hlay hrd hwl hlo
  obtain rfl : dV = .none := Dflts.none hD hdf
  obtain rfl : kV = .none := Dflts.noKw hD
  obtain ⟨a, vs, ns, rfl, rfl, hobj, hints, hlen⟩ := script_of hn hpre hwl
  refine enter_call (codeAny_mono (call w s₀ s₁ mg mb fa o pm cd doc a vs ns G Y ho (fd_plain hd) hcd hmg hobj hints hlen hg) fun r s' hq => ?_)
  obtain ⟨rfl, h2, h3, h4⟩ := hq
  exact ⟨.inl ⟨.bool true, .bool true, [], rfl, fun _ => rfl, .bool true, post_true l _, fun _ => ⟨List.Pairwise.nil, fun _ hm => (nomatch hm)⟩⟩, h2, h3, h4⟩
section
variable {prog : Program} {w : World} {A : Around} {E : Value → Shared → Prop} {s : Shared} {K : Frag}
end
end Att
namespace L2
open PySem PySem.Spec PyProof.Rows
theorem vals_ints : ∀ {vs : List Value} {ns : List Int}, IntsAre vs ns → Vals (ns.map V.int) vs
  | _, _, .nil => .nil
  | _, _, .cons n t h => .cons ⟨t, rfl⟩ (vals_ints h)
noncomputable def Only (H : Hp) : Prop := ∀ b, H b = none ∨ ∃ o xs, H b = some (.frz o (.lst xs))
theorem law_call {P : Program} {w : World} {K : PySem.W.Frag} {mg mb : Str → Option Value} {CX : CXT} {k : Nat} {fa a : Addr} {fd : FuncData} {x : Str} {sp : Sp} {s₁ : Shared} {vs : List Value} {ns : List Int}
    (KX : K.In s₁.heap) (hns : s₁.heap.Ns mainGlobals mg) (hb : s₁.heap.Ns builtinsNs mb) (hbb : ∀ x : Str, x ≠ "__name__" → mb x = bootBuiltins x) (hlim : s₁.heap.NoLimit) (hg : s₁.gens = #[])
    (ha : s₁.heap.get? a = some { cls := .type "list", data := .seq vs.toArray }) (hi : IntsAre vs ns) (hl : ns.length ≤ sizeLine) (hr : Room k callerA)
    (F : ∀ base : Heap, K.In base → base.Ns mainGlobals mg → FnOk P w K mg base CX k fa fd [x] sp) (hbind : ∀ (s : Shared) (u : Value), BindsTo s fd ⟨[u], []⟩ [(x, u)])
    (hsp : ∀ H : Hp, Only H → SqL K H a (ns.map V.int) → sp [.ref a] H (fun v _ => v = .bl true) fun _ _ _ => False)
    (hCX : ∀ H e s', CX [] H s₁ (fun _ _ _ => False) e s' → False) :
    codeAny (model P w) callerA (.call (.ref fa) ⟨[.ref a], []⟩) (fun r s' => r = .ok (.ret (.bool true)) ∧ OldK s₁.heap s'.heap ∧ s'.os = s₁.os ∧ AllBare s'.gens) s₁ := by
  have rv := vals_ints hi
  have lenV := hi.length
  -- from an abstract heap in which nothing but the script may be tracked
  have core : ∀ H : Hp, Only H → SqL K H a (ns.map V.int) → HOk P w H s₁.heap → (∀ b, H b ≠ none → b = a) → (H a ≠ none → K.lookup a = none) →
      codeAny (model P w) callerA (.call (.ref fa) ⟨[.ref a], []⟩) (fun r s' => r = .ok (.ret (.bool true)) ∧ OldK s₁.heap s'.heap ∧ s'.os = s₁.os ∧ AllBare s'.gens) s₁ := by
    intro H hO hS hok hA hK
    have base_of : ∀ {b : Addr} {o : Obj}, s₁.heap.get? b = some o → H b = none → (hidT s₁.heap H).get? b = some o := fun e n => hidT_get e n
    have noA : ∀ {b : Addr} {o : Obj} {es : Array DictEntry} {ep : Nat}, s₁.heap.get? b = some o → o.data = .dict es ep → H b = none := fun {b o es ep} e d => by
      cases q : H b with
      | none => rfl
      | some u =>
        have e' : b = a := hA b (by rw [q]; simp)
        subst e'
        rw [ha] at e; cases e
        have d' : Data.seq vs.toArray _ = Data.dict es ep := d
        cases d'
    have nsK : ∀ {b : Addr} {m : Str → Option Value}, s₁.heap.Ns b m → (hidT s₁.heap H).Ns b m := fun {b m} ⟨o, es, ep, e, d, r⟩ => ⟨o, es, ep, base_of e (noA e d), d, r⟩
    have hKb : K.In (hidT s₁.heap H) := fun b o e => base_of (KX b o e) (by
      cases q : H b with
      | none => rfl
      | some u =>
        have e' : b = a := hA b (by rw [q]; simp)
        subst e'
        rw [hK (by rw [q]; simp)] at e; cases e)
    have hM : Mod K mg (hidT s₁.heap H) := ⟨hKb, nsK hns, ⟨mb, nsK hb, hbb⟩, let ⟨mc, h1, h2⟩ := hlim; ⟨mc, nsK h1, h2⟩⟩
    have e0 : Env0 P w K mg (hidT s₁.heap H) callerA [] s₁ H := ⟨rfl, hM, fun b o e => of_hidT e, Nat.le_of_eq (hidT_size _ _), trivial, fun b hb => absurd (show b ∈ ([] : List Addr) from hb) (by simp), hok, .of_eq hg⟩
    refine codeAny_mono ((F _ hKb (nsK hns)).run callerA [] s₁ H ⟨[.ref a], []⟩ [.ref a] [.ref a] _ _ hr e0 (hbind s₁ (.ref a)) (.cons rfl .nil) (hsp H hO hS)) fun r s' h => ?_
    cases r with
    | error e => exact (hCX H e s' h).elim
    | ok fl =>
      cases fl with
      | next => exact False.elim h
      | brk => exact False.elim h
      | cont => exact False.elim h
      | ret u =>
        obtain ⟨v, H', os, bare, un, hok', r', q⟩ := h
        have q' : v = .bl true := q
        subst q'
        obtain rfl : u = Value.bool true := r'
        refine ⟨rfl, OldK.of_keep fun b o e => ?_, os, bare⟩
        cases q : H b with
        | none => exact un.keep b o e q (by intro z; exact absurd (show b ∈ ([] : List Addr) from z) (by simp)) (by simp)
        | some u =>
          rcases hO b with z | ⟨ob, xs, z⟩
          · rw [q] at z; cases z
          · have z2 := un.frzs b ob _ z
            obtain ⟨e1, _⟩ := hok b _ z
            obtain ⟨e2, _⟩ := hok' b _ z2
            rw [e] at e1; cases e1
            exact e2
  cases hk : K.lookup a with
  | some o =>
    -- the script is one of the module's own objects
    have e := KX a o hk
    rw [ha] at e
    cases e
    refine core (fun _ => none) (fun _ => .inl rfl) (.inr ⟨_, vs.toArray, _, hk, rfl, rfl, rfl, by rw [List.size_toArray, lenV]; exact hl, by simpa using rv⟩) (fun b u z => by have z' : (none : Option HO) = some u := z; cases z') (fun b z => absurd rfl z) fun z => absurd rfl z
  | none =>
    refine core (fun b => if b = a then some (.frz { cls := .type "list", data := .seq vs.toArray } (.lst (ns.map V.int))) else none) (fun b => ?_) (.inl (.inr ⟨{ cls := .type "list", data := .seq vs.toArray }, if_pos rfl⟩)) (fun b u z => ?_) (fun b z => ?_) fun _ => hk
    · by_cases hb : b = a
      · exact .inr ⟨_, _, if_pos hb⟩
      · exact .inl (if_neg hb)
    · by_cases hb : b = a
      · have z' := (if_pos hb).symm.trans z
        cases z'
        subst hb
        exact ⟨ha, by rw [List.length_map]; exact hl, vs, _, rv, ha⟩
      · have z' := (if_neg hb).symm.trans z
        cases z'
    · by_cases hb : b = a
      · exact hb
      · exact absurd (if_neg hb) z
end L2
namespace L2
open PySem PySem.Spec PyProof.Rows
theorem walk_of {l : PySem.W.OpenLaw} {n k : Nat} {q : Program} {loose : List Str} {XP : (Str → Option Value) → Heap → Prop} {YP : World → Heap → Prop} {d : DefRec} {K : Params → PySem.W.Frag} {CX : World → CXT} {sp : World → Sp} {x : Str}
    (hn : l.most = some n) (hn2 : n ≤ sizeLine) (hdf : d.params.defaults = []) (hr : Room k callerA)
    (hY : ∀ (w : World) (h : Heap), YP w h → (K w.params).In h)
    (F : ∀ (w : World) (mg : Str → Option Value) (fa : Addr) (h : Heap), (K w.params).In h → h.Ns mainGlobals mg → mg d.name = some (.ref fa) →
      ∃ fd : FuncData, (∀ (s : Shared) (u : Value), BindsTo s fd ⟨[u], []⟩ [(x, u)]) ∧
        ∀ base : Heap, (K w.params).In base → base.Ns mainGlobals mg → FnOk l.prog w (K w.params) mg base (CX w) k fa fd [x] (sp w))
    (hsp : ∀ (w : World) (H : Hp) (a : Addr) (ns : List Int), ns.length ≤ n → Only H → SqL (K w.params) H a (ns.map V.int) → sp w [.ref a] H (fun v _ => v = .bl true) fun _ _ _ => False)
    (hCX : ∀ (w : World) (H : Hp) (s : Shared) (e : Value) (s' : Shared), CX w [] H s (fun _ _ _ => False) e s' → False) :
    PySem.W.WalkO q loose XP YP l.row.toRowW d [] (fun f vs => PySem.call f vs) := by
  refine Att.attach_call hn hdf fun w s₀ s₁ mg mb fa o pm cd doc a vs ns G Y ho hd hcd hmg hobj hints hlen hg => ?_
  have KX := hY w _ Y
  obtain ⟨fd, hb, hF⟩ := F w mg fa _ KX G.T.g hmg
  exact law_call KX G.T.g G.T.b G.T.builtins G.T.nolimit hg hobj hints (Nat.le_trans hlen hn2) hr hF hb (fun H hO hS => hsp w H a ns hlen hO hS) fun H e s' => hCX w H s₁ e s'
end L2
namespace L2
open PySem PySem.Spec PyProof.Rows
noncomputable def inClass (s : Stmt) (j : Nat) : Stmt := match s with
  | .ClassDef _ _ _ body _ _ _ _ _ _ _ => body.getD j (.Pass ⟨0, 0, 0, 0⟩)
  | _ => .Pass ⟨0, 0, 0, 0⟩
noncomputable def defArgs (s : Stmt) : Arguments := match s with
  | .FunctionDef _ a _ _ _ _ _ _ _ _ => a
  | _ => { posonlyargs := [], args := [], vararg := none, kwonlyargs := [], kw_defaults := [], kwarg := none, defaults := [] }
noncomputable def defBody (s : Stmt) : List Stmt := match s with
  | .FunctionDef _ _ b _ _ _ _ _ _ _ => b
  | _ => []
noncomputable def defScope (s : Stmt) : Scope := match s with
  | .FunctionDef _ _ _ _ _ _ sc _ _ _ => sc
  | _ => { kind := .function, names := [], isGenerator := false, isCoroutine := false }
noncomputable abbrev CX0 : CXT := fun _ _ _ _ _ _ => False
noncomputable abbrev E0 : XK := fun _ _ _ => False
theorem pass0 {X : Cx} : Passes CX0 X E0 := fun _ _ _ _ _ _ _ h => h.elim
structure Fun (K : PySem.W.Frag) (x qual : Str) (st : Stmt) (f : Addr) (fd : FuncData) : Prop where
  ex : ∃ (oc : Value) (od : Option Addr) (kV doc pm : Value) (an : Option Addr) (cdv ct : Value) (osl : Array (Option Value)),
    fd = PySem.W.fnOf x qual (defArgs st) (defBody st) (defScope st) .none kV doc pm an cdv ct ∧ K.lookup f = some ⟨oc, od, .func fd, osl⟩ ∧ PySem.W.codeIn K cdv qual = true
  kp : PySem.W.keepIn K (.ref f) = true
section
variable {P : Program} {w : World} {K : PySem.W.Frag} {mg : Str → Option Value} {base : Heap}
theorem Fun.ok {x qual : Str} {st : Stmt} {f : Addr} {fd : FuncData} {N ps : List Str} {k : Nat} {sp : Sp} (F : Fun K x qual st f fd) (S : FnScope N ps (defScope st)) (len : ∀ vs H Q E, sp vs H Q E → vs.length = ps.length)
    (hbody : ∀ (cdv : Value) (A : Around) (outer : List Env) (s : Shared) (H : Hp) (vs : List V) (Q : VK) (E : XK), Room k (A.deeper (envOfC qual (defScope st) s.heap.objs.size f cdv)) → sp vs H Q E →
      ∃ t, PSs (cxOf CX0 P w K mg base N qual (defScope st) f cdv A outer s H E).nox (defBody st) t ∧ t { nx := fun _ H' => Q .non H', rt := Q } (start N vs) H) : FnOk P w K mg base CX0 (k + 1) f fd ps sp := by
  obtain ⟨oc, od, kV, doc, pm, an, cdv, ct, osl, rfl, lk, hcd⟩ := F.ex
  refine fn_of lk hcd S len fun A outer s H vs Q E hr hsp => ?_
  obtain ⟨t, h, q⟩ := hbody cdv A outer s H vs Q E hr hsp
  exact ⟨t, h.nox, q⟩
theorem Fun.binds {x qual : Str} {st : Stmt} {f : Addr} {fd : FuncData} {ps : List Str} (F : Fun K x qual st f fd)
    (h : ∀ (kV doc pm : Value) (an : Option Addr) (cdv ct : Value) (us : List Value), us.length = ps.length → bindArgs (PySem.W.fnOf x qual (defArgs st) (defBody st) (defScope st) .none kV doc pm an cdv ct) ⟨us, []⟩ = pure (ps.zip us)) : Binds K fd ps [] := by
  obtain ⟨oc, od, kV, doc, pm, an, cdv, ct, osl, rfl, lk, hcd⟩ := F.ex
  exact .all (h kV doc pm an cdv ct)
theorem fun_mk {x qual : Str} {st : Stmt} {f : Addr} {oc : Value} {od an : Option Addr} {osl : Array (Option Value)} {kV doc pm cdv ct : Value} (l : K.lookup f = some ⟨oc, od, .func (PySem.W.fnOf x qual (defArgs st) (defBody st) (defScope st) .none kV doc pm an cdv ct), osl⟩)
    (c : PySem.W.codeIn K cdv qual = true) (k : PySem.W.keepIn K (.ref f) = true) : Fun K x qual st f (PySem.W.fnOf x qual (defArgs st) (defBody st) (defScope st) .none kV doc pm an cdv ct) := ⟨⟨oc, od, kV, doc, pm, an, cdv, ct, osl, rfl, l, c⟩, k⟩
end
section
variable {X : Cx}
theorem pv (i : Nat) {x : Str} {pos : Pos} (hN : X.N[i]? = some x := by rfl) (hv : Vis X.env.scope x := by first | exact Or.inl rfl | exact Or.inr (Or.inl rfl) | exact Or.inr (Or.inr rfl)) (hd : (x == ("__debug__" : Str)) = false := by decide)
    (hcd : (x == ("__classdict__" : Str)) = false := by decide) : PE X (.Name x pos) (tVar i) := pe_var hN hv hd hcd
end
theorem iteF {A B : Prop} (h : B) : if false = true then A else B := by
  rw [if_neg Bool.false_ne_true]
  exact h
theorem iteT {A B : Prop} (h : A) : if true = true then A else B := by
  rw [if_pos rfl]
  exact h
noncomputable def Same (H H' : Hp) : Prop := ∀ b o, H b = some o → H' b = some o
theorem Same.refl (H : Hp) : Same H H := fun _ _ h => h
theorem Same.trans {H H1 H2 : Hp} (a : Same H H1) (b : Same H1 H2) : Same H H2 := fun c o h => b c o (a c o h)
theorem Same.free {H H' : Hp} (e : Same H H') {l : Addr} (h : H' l = Option.none) : H l = Option.none := by
  cases q : H l with
  | none => rfl
  | some o =>
    rw [e l o q] at h
    cases h
end L2
set_option linter.all false
set_option maxHeartbeats 4000000
set_option maxRecDepth 100000
namespace L2
open PySem PySem.Spec PyProof.Rows
structure CmpOk (XN : List Str) (sc scope : Scope) (N : List Str) (js : List (Option Nat)) : Prop where
  kind : scope.kind = .function
  cell : ∀ y ∈ scope.names, y.2 ≠ .cell
  free : ∀ y ∈ scope.names, y.2 = .free → sc.names.lookup y.1 = some .cell ∨ sc.names.lookup y.1 = some .free
  loc : ∀ y ∈ scope.names, y.2 = .local → scope.names.lookup y.1 = some .local
  len : js.length = N.length
  ix : ((N.zip js).all fun p => match p.2 with | none => true | some j => decide (XN[j]? = some p.1) && decide (scope.names.lookup p.1 = some .free)) = true
noncomputable def clOf (env : Env) : List (Str × NameKind) → List (Str × Addr) → List (Str × Addr)
  | [], cs => cs
  | (n, k) :: r, cs => clOf env r (if k = .free then (match env.cells.lookup n with | some c => (n, c) :: cs | none => cs) else cs)
theorem clOf_sub {env : Env} : ∀ {names : List (Str × NameKind)} {cs : List (Str × Addr)}, (∀ n c, cs.lookup n = some c → env.cells.lookup n = some c) → ∀ n c, (clOf env names cs).lookup n = some c → env.cells.lookup n = some c
  | [], _, h => h
  | (m, k) :: r, cs, h => by
    unfold clOf
    refine clOf_sub ?_
    split
    · cases e : env.cells.lookup m with
      | none => exact h
      | some d =>
        intro n c hn
        dsimp only at hn
        rw [List.lookup_cons] at hn
        cases q : n == m with
        | true =>
          rw [q] at hn
          have e1 : n = m := by simpa using q
          cases hn
          rw [e1]; exact e
        | false => rw [q] at hn; exact h n c hn
    · exact h
theorem clOf_has {env : Env} : ∀ {names : List (Str × NameKind)} {cs : List (Str × Addr)} {n : Str}, ((n, NameKind.free) ∈ names ∧ (∃ c, env.cells.lookup n = some c)) ∨ (∃ c, cs.lookup n = some c) → ∃ c, (clOf env names cs).lookup n = some c
  | [], _, _, h => h.elim (fun z => by cases z.1) id
  | (m, k) :: r, cs, n, h => by
    unfold clOf
    refine clOf_has ?_
    rcases h with ⟨hm, c, hc⟩ | ⟨c, hc⟩
    · rcases List.mem_cons.mp hm with e | hm
      · cases e
        right
        rw [if_pos rfl, hc]
        exact ⟨c, by rw [List.lookup_cons]; simp⟩
      · exact .inl ⟨hm, c, hc⟩
    · right
      split
      · cases e : env.cells.lookup m with
        | none => exact ⟨c, hc⟩
        | some d =>
          dsimp only
          rw [List.lookup_cons]
          cases q : n == m with
          | true => exact ⟨d, rfl⟩
          | false => exact ⟨c, hc⟩
      · exact ⟨c, hc⟩
theorem closure_is {env : Env} {scope : Scope} (h : ∀ y ∈ scope.names, y.2 = .free → ∃ c, env.cells.lookup y.1 = some c) : closureFor scope env = pure (clOf env scope.names []) := by
  have key : ∀ (names : List (Str × NameKind)) (cs : List (Str × Addr)), (∀ y ∈ names, y.2 = .free → ∃ c, env.cells.lookup y.1 = some c) →
      (forIn names cs (fun (x : Str × NameKind) r => if (x.2 == NameKind.free) = true then (do let a ← cellOf env x.1; pure (ForInStep.yield ((x.1, a) :: r))) else pure (ForInStep.yield r)) : Sem (List (Str × Addr))) = pure (clOf env names cs) := by
    intro names
    induction names with
    | nil => intro cs _; rfl
    | cons y r ih =>
      intro cs hy
      obtain ⟨n, k⟩ := y
      rw [List.forIn_cons]
      unfold clOf
      by_cases hk : k = .free
      · subst hk
        obtain ⟨c, hc⟩ := hy _ List.mem_cons_self rfl
        have e1 : cellOf env n = pure c := by unfold cellOf; rw [hc]
        rw [if_pos (by rfl)]
        rw [if_pos rfl, hc]
        show ((cellOf env n >>= fun a => pure (ForInStep.yield ((n, a) :: cs))) >>= _) = _
        rw [e1]
        exact ih _ fun z hz => hy z (List.mem_cons_of_mem _ hz)
      · have hb : (k == NameKind.free) = false := by simpa using hk
        rw [if_neg (by rw [hb]; decide), if_neg hk]
        exact ih _ fun z hz => hy z (List.mem_cons_of_mem _ hz)
  have k := key scope.names [] h
  unfold closureFor
  show (forIn scope.names ([] : List (Str × Addr)) _ >>= fun cs => pure cs) = _
  refine Eq.trans (congrArg (fun t => t >>= fun cs => pure cs) (Eq.trans ?_ k)) rfl
  congr 1
theorem relab_free {env : Env} : ∀ {names : List (Str × NameKind)} {x : Str}, names.lookup x = some .free →
    (names.map fun (n, k) => if (k == NameKind.free && env.scope.kind == .function && env.kindOf n == some .cell) then (n, NameKind.cell) else (n, k)).lookup x = some .cell ∨
    (names.map fun (n, k) => if (k == NameKind.free && env.scope.kind == .function && env.kindOf n == some .cell) then (n, NameKind.cell) else (n, k)).lookup x = some .free
  | [], _, h => by simp at h
  | (n, k) :: r, x, h => by
    have ih := @relab_free env r x
    rw [List.map_cons]
    dsimp only
    cases q : x == n with
    | true =>
      rw [List.lookup_cons, q] at h
      cases h
      split
      · left; rw [List.lookup_cons, q]
      · right; rw [List.lookup_cons, q]
    | false =>
      rw [List.lookup_cons, q] at h
      split
      · rw [List.lookup_cons, q]; exact ih h
      · rw [List.lookup_cons, q]; exact ih h
theorem relab_back {env : Env} : ∀ {names : List (Str × NameKind)} {x : Str} {j : NameKind}, (∀ y ∈ names, y.2 ≠ .cell) → (j = .cell ∨ j = .free) →
    (names.map fun (n, k) => if (k == NameKind.free && env.scope.kind == .function && env.kindOf n == some .cell) then (n, NameKind.cell) else (n, k)).lookup x = some j → (x, NameKind.free) ∈ names
  | [], _, _, _, _, h => by simp at h
  | (n, k) :: r, x, j, hc, hj, h => by
    have ih := @relab_back env r x j (fun y hy => hc y (List.mem_cons_of_mem _ hy)) hj
    rw [List.map_cons] at h
    dsimp only at h
    cases q : x == n with
    | true =>
      have e : x = n := by simpa using q
      subst e
      split at h
      · rename_i g
        have : k = .free := by
          simp only [Bool.and_eq_true, beq_iff_eq] at g
          exact g.1.1
        subst this
        exact List.mem_cons_self
      · rw [List.lookup_cons, q] at h
        cases h
        rcases hj with z | z
        · exact absurd z (hc _ List.mem_cons_self)
        · rw [z]; exact List.mem_cons_self
    | false =>
      refine List.mem_cons_of_mem _ (ih ?_)
      split at h
      · rw [List.lookup_cons, q] at h; exact h
      · rw [List.lookup_cons, q] at h; exact h
noncomputable def inn (js : List (Option Nat)) (σ : St) : St := js.map fun o => match o with | none => none | some j => (σ[j]?).join
structure CxZ where
  cl : List (Str × Addr)
  C : Addr
  s : Shared
  H : Hp
  fp : List Addr
  pins : List (Addr × Obj)
noncomputable def cxC (X : Cx) (N : List Str) (scope : Scope) (z : CxZ) : Cx where
  prog := X.prog
  w := X.w
  K := X.K
  mg := X.mg
  base := X.base
  A := X.A
  N := N
  s₀ := z.s
  H₀ := z.H
  env := compEnvC scope z.cl z.C X.env
  outer := X.stack
  stack := X.stack
  ex := z.fp
  fn := fun _ => false
  calm := X.calm
  pn := X.pn ++ z.pins
  xe := fun _ _ => False
section
variable {X : Cx} {pins : List (Addr × Obj)} {σ : St} {H : Hp} {s : Shared} {XN N : List Str} {sc scope : Scope} {js : List (Option Nat)}
theorem inv_comp {h1 : Heap} {m : Str → Option Value} {tk : Nat} {fp : List Addr} (ck : CmpOk XN sc scope N js) (hXN : X.N = XN) (hsc : X.env.scope = sc) (I : Inv X pins σ H s) (hf : ∀ b ∈ fp, FpOk X pins H b)
    (hfo : ∀ b ∈ fp, b < s.heap.objs.size) (hn : h1.Ns s.heap.objs.size m) (hk : ∀ b o, s.heap.get? b = some o → h1.get? b = some o) :
    Inv (cxC X N scope ⟨clOf X.env scope.names [], s.heap.objs.size, s, H, fp, pins⟩) [] (inn js σ) H { s with heap := h1, toks := tk } := by
  subst hXN hsc
  have sub : ∀ n c, (clOf X.env scope.names []).lookup n = some c → X.env.cells.lookup n = some c := clOf_sub fun n c h => by simp at h
  have clt : ∀ n c, (clOf X.env scope.names []).lookup n = some c → c < s.heap.objs.size := fun n c h => by
    obtain ⟨v, q⟩ := I.cell n c (sub n c h)
    exact q.lt
  have has : ∀ x, (x, NameKind.free) ∈ scope.names → ∃ c, (clOf X.env scope.names []).lookup x = some c := fun x hx =>
    clOf_has (.inl ⟨hx, I.ok.has x (ck.free _ hx rfl)⟩)
  refine ⟨⟨I.ok.mod, ck.kind, I.ok.glob, I.ok.blt, Nat.le_refl _, fun x y c h1 h2 => I.ok.inj x y c (sub x c h1) (sub y c h2), fun x hx => ?has, fun x c hx => ?cab, I.ok.hd, I.ok.frames, .inl rfl, fun b hb => ?exf, I.bs, ?bsz, fun b o e hb => ?noex, fun b hb => ?exfs, I.stack, I.stkFree⟩,
    rfl, I.bare, Un.kept hk, ⟨m, hn, fun i x v h1 h2 h3 => ?loc⟩, fun x c h => ?cell, I.hok.fresh (Nat.le_refl _), fun x c h => I.freeC x c (sub x c h), fun p hp => ?pin, I.hok.kept hk, ?len⟩
  case has =>
    rcases hx with hx | hx
    · exact has x (relab_back ck.cell (.inl rfl) hx)
    · exact has x (relab_back ck.cell (.inr rfl) hx)
  case cab => cases hx
  case exf =>
    obtain ⟨f0, f1, f2, f3, f4, f5⟩ := hf b hb
    exact ⟨Nat.ne_of_lt (hfo b hb), fun x c e => f4 x c (sub x c e)⟩
  case bsz => exact Nat.le_trans I.ok.bsz I.sz
  case noex =>
    obtain ⟨f0, f1, f2, f3, f4, f5⟩ := hf b hb
    rcases f3 with f3 | f3
    · exact I.ok.noex b o e f3
    · exact absurd (Nat.lt_of_lt_of_le (Heap.lt_size e) (Nat.le_trans I.ok.bsz f3)) (Nat.lt_irrefl _)
  case exfs =>
    obtain ⟨f0, f1, f2, f3, f4, f5⟩ := hf b hb
    intro z
    rcases List.mem_cons.mp (I.stkSub b z) with e | e
    · exact f1 e
    · exact f2 e
  case loc =>
    have hl : N.length = js.length := ck.len.symm
    have hi : i < js.length := by
      have := (List.getElem?_eq_some_iff.mp h1).1
      have e : (cxC X N scope ⟨clOf X.env scope.names [], s.heap.objs.size, s, H, fp, pins⟩).N = N := rfl
      rw [e] at this
      lia
    have hN : N[i]? = some x := h1
    have hj : js[i]? = some js[i] := List.getElem?_eq_getElem hi
    unfold inn at h2
    rw [List.getElem?_map, hj] at h2
    cases q : js[i] with
    | none => rw [q] at h2; cases h2
    | some j =>
      rw [q] at h2 hj
      have h2' : (σ[j]?).join = some v := Option.some.inj h2
      have hσ : σ[j]? = some (some v) := by
        cases e : σ[j]? with
        | none => rw [e] at h2'; cases h2'
        | some o => rw [e] at h2'; exact congrArg some h2'
      have hm : (x, some j) ∈ N.zip js := by
        refine List.mem_of_getElem? (i := i) ?_
        rw [List.getElem?_zip_eq_some]
        exact ⟨hN, hj⟩
      have hc := List.all_eq_true.mp ck.ix _ hm
      simp only [Bool.and_eq_true, decide_eq_true_eq] at hc
      obtain ⟨c1, c2⟩ := hc
      have hfr : (x, NameKind.free) ∈ scope.names := PySem.mem_of_lookup c2
      have hvis : X.env.scope.names.lookup x = some .cell ∨ X.env.scope.names.lookup x = some .free := ck.free _ hfr rfl
      obtain ⟨m0, hn0, hl0⟩ := I.loc
      obtain ⟨u, r, l⟩ := hl0 j x v c1 hσ (hvis.elim (fun z => .inr (.inl z)) fun z => .inr (.inr z))
      refine ⟨u, r, .inr ⟨?_, ?_⟩⟩
      · exact relab_free c2
      · rcases l with ⟨k1, _⟩ | ⟨_, c, k1, k2⟩
        · have k1' : X.env.scope.names.lookup x = some .local := k1
          rcases hvis with z | z
          · rw [z] at k1'; cases k1'
          · rw [z] at k1'; cases k1'
        · obtain ⟨c', hc'⟩ := has x hfr
          have e := sub x c' hc'
          rw [k1] at e
          cases e
          obtain ⟨oc, ho, hd⟩ := k2
          exact ⟨c, hc', oc, hk _ _ ho, hd⟩
  case cell =>
    obtain ⟨v, oc, ho, hd⟩ := I.cell x c (sub x c h)
    exact ⟨v, oc, hk _ _ ho, hd⟩
  case pin =>
    have hp' : p ∈ X.pn ++ pins := by simpa [cxC] using hp
    obtain ⟨p1, p2, p3, p4, p5⟩ := I.pin p hp'
    refine ⟨hk _ _ p1, p2, Nat.ne_of_lt (Heap.lt_size p1), fun z => ?_, p5⟩
    rcases List.mem_cons.mp (I.stkSub _ z) with e | e
    · exact p3 e
    · exact p4 e
  case len =>
    show (inn js σ).length = N.length
    unfold inn
    rw [List.length_map]
    exact ck.len
noncomputable abbrev TIf := St → Hp → (Bool → Hp → Prop) → Prop
noncomputable def PIf (X : Cx) (ifs : List Expr) (t : TIf) : Prop :=
  ∀ (pins : List (Addr × Obj)) (s : Shared) (σ : St) (H : Hp) (Q : Bool → Hp → Prop), Inv X pins σ H s → t σ H Q →
    wpAny (model X.prog X.w) X.A (forIn ifs true fun c r => if r = true then do let ok ← isTrue c X.env (eval c X.env); pure (ForInStep.yield ok) else pure (ForInStep.yield r)) (TP X pins σ Q) X.xe s
noncomputable def fNone : TIf := fun _ H Q => Q true H
theorem pif_nil : PIf X [] fNone := fun _ _ _ H _ I h => wpAny_tests_nil ⟨H, I, h⟩
theorem pif_one {c : Expr} {t : TT} (h : PT X c t) : PIf X [c] t := fun pins s σ H Q I q => wpAny_tests_one (h pins s σ H Q I q)
noncomputable def Lev (σ σ' : St) : Prop := σ.length = σ'.length ∧ ∀ (i : Nat) (v : V), σ[i]? = some (some v) → σ'[i]? = some (some v)
theorem Lev.refl (σ : St) : Lev σ σ := ⟨rfl, fun _ _ h => h⟩
noncomputable def Sets (js : List (Option Nat)) (g : TG) : Prop := ∀ (σ0 : St) (v : V) (σ : St) (H : Hp) (Q : St → Hp → Prop), Lev (inn js σ0) σ → g v σ H Q → g v σ H fun σ' H' => Lev (inn js σ0) σ' ∧ Q σ' H'
noncomputable def Setss (js : List (Option Nat)) (g : TGs) : Prop := ∀ (σ0 : St) (vs : List V) (σ : St) (H : Hp) (Q : St → Hp → Prop), Lev (inn js σ0) σ → g vs σ H Q → g vs σ H fun σ' H' => Lev (inn js σ0) σ' ∧ Q σ' H'
theorem st_name {i : Nat} (h : js[i]? = some none := by rfl) : Sets js (gName i) := fun σ0 v σ H Q l q => by
  refine ⟨⟨?_, fun j u e => ?_⟩, q⟩
  · rw [List.length_set]; exact l.1
  · by_cases hij : i = j
    · subst hij
      unfold inn at e
      rw [List.getElem?_map, h] at e
      cases e
    · rw [List.getElem?_set_ne hij]
      exact l.2 j u e
theorem sts_nil : Setss js gNil := fun σ0 vs σ H Q l q => ⟨q.1, l, q.2⟩
theorem sts_cons {t : TG} {u : TGs} (h : Sets js t) (k : Setss js u) (mono : ∀ v σ H (Q Q' : St → Hp → Prop), (∀ a b, Q a b → Q' a b) → t v σ H Q → t v σ H Q') : Setss js (gCons t u) := fun σ0 vs σ H Q l q => by
  obtain ⟨v, r, e, q⟩ := q
  exact ⟨v, r, e, mono _ _ _ _ _ (fun σ' H' z => k σ0 r σ' H' Q z.1 z.2) (h σ0 v σ H _ l q)⟩
theorem gName_mono {i : Nat} : ∀ v σ H (Q Q' : St → Hp → Prop), (∀ a b, Q a b → Q' a b) → gName i v σ H Q → gName i v σ H Q' := fun _ _ _ _ _ h q => h _ _ q
theorem st_tup {K : PySem.W.Frag} {n : Nat} {t : TGs} (h : Setss js t) : Sets js (gTup K n t) := fun σ0 v σ H Q l q => by
  obtain ⟨a, xs, e, hq, hl, q⟩ := q
  exact ⟨a, xs, e, hq, hl, h σ0 xs σ H Q l q⟩
noncomputable def tComp (js : List (Option Nat)) (wi : TI) (g : TG) (tt : TIf) (te : TE) : TE := fun σ H Q => wi σ H fun J H1 => ∀ D, H1 D = none → ∃ W : Nat → Nat → Hp → Prop, (∃ m, W 0 m (upd H1 D (.lst []))) ∧ ∀ i m H, W i m H →
  (J.stop i H ∧ Q (.ref D) H) ∨ (J.go i H ∧ ∀ x H', J.yld i H x H' → g x (inn js σ) H' fun σ2 H2 => tt σ2 H2 fun b H3 =>
    if b = true then te σ2 H3 fun y H4 => ∃ ys, H4 D = some (.lst ys) ∧ ys.length < sizeLine ∧ ∃ m', m' < m ∧ W (i + 1) m' (upd H4 D (.lst (ys ++ [y]))) else ∃ m', m' < m ∧ W (i + 1) m' H3)
variable {tg iter elt : Expr} {ifs : List Expr} {pos : Pos} {wi : TI} {g : TG} {tt : TIf} {te : TE}
theorem comp_loop {E : Value → Shared → Prop} {R : Result → Shared → Prop} {it D : Addr} {fp : List Addr} {tn : Nat → Heap → Prop} {J : It} {z : CxZ} {W : Nat → Nat → Hp → Prop} {n : Nat}
    (hc : X.calm = true) (T : Turn X.prog X.w X.K tg J fp it tn) (hz : ∀ b ∈ fp, ∀ H', H' b = none → FpOk (cxC X N scope z) [] H' b)
    (hg : PG (cxC X N scope z) tg g) (hs : Sets js g) (ht : PIf (cxC X N scope z) ifs tt) (he : PE (cxC X N scope z) elt te)
    (turn : ∀ i m H, W i m H → (J.stop i H ∧ ∀ s', Inv (cxC X N scope z) [] (inn js σ) H s' → R (.ok .next) s') ∨ (J.go i H ∧ ∀ x H', J.yld i H x H' → g x (inn js σ) H' fun σ2 H2 => tt σ2 H2 fun b H3 =>
      if b = true then te σ2 H3 fun y H4 => ∃ ys, H4 D = some (.lst ys) ∧ ys.length < sizeLine ∧ ∃ m', m' < m ∧ W (i + 1) m' (upd H4 D (.lst (ys ++ [y]))) else ∃ m', m' < m ∧ W (i + 1) m' H3))
    {s1 : Shared} {H1 : Hp} (I1 : Inv (cxC X N scope z) [] (inn js σ) H1 s1) (t1 : tn 0 s1.heap) (f1 : ∀ b ∈ fp, H1 b = none) (w1 : W 0 n H1) :
    codeAny (model X.prog X.w) X.A (.compLoop (.ListComp elt [⟨tg, iter, ifs, 0⟩] scope pos) 0 (.ref it) (.ref D) (compEnvC scope z.cl z.C X.env)) R s1 := by
  refine codeAny_loop (c := .compLoop (.ListComp elt [⟨tg, iter, ifs, 0⟩] scope pos) 0 (.ref it) (.ref D) (compEnvC scope z.cl z.C X.env)) rfl
    (fun k s' => ∃ i H', Inv (cxC X N scope z) [] (inn js σ) H' s' ∧ tn i s'.heap ∧ (∀ b ∈ fp, H' b = none) ∧ W i k H') ?_ n ⟨0, H1, I1, t1, f1, w1⟩
  rintro k s2 ⟨i, H2, I2, t2, f2, w2⟩
  show wpAny (model X.prog X.w) X.A ((compTurn (.ListComp elt [⟨tg, iter, ifs, 0⟩] scope pos) 0 (.ref it) (.ref D) (compEnvC scope z.cl z.C X.env)).onRaise fun x => do noteFrame x (compEnvC scope z.cl z.C X.env); theTreesLotGoes x) _ _ s2
  refine wpAny_noted ?_
  rw [compTurn_list]
  refine wpAny_bind (wpAny_standAt ?_)
  rcases turn i k H2 w2 with ⟨stop, fin⟩ | ⟨go, step⟩
  · refine wpAny_bind (thn (T.done (cxC X N scope z) rfl rfl rfl hc i [] s2 (inn js σ) H2 _ I2 (fun b hb => hz b hb H2 (f2 b hb)) t2 stop) fun r s3 h3 => ?_)
    obtain ⟨rfl, I3⟩ := h3
    exact wpAny_pure (fin s3 I3)
  · refine wpAny_bind (thn (T.item (cxC X N scope z) rfl rfl rfl hc i [] s2 (inn js σ) H2 _ I2 (fun b hb => hz b hb H2 (f2 b hb)) t2 go) fun r s3 h3 => ?_)
    obtain ⟨u, rfl, h3⟩ := h3
    refine wpAny_bind (thn h3 fun _ s4 h4 => ?_)
    obtain ⟨x, H4, I4, r4, y4, t4, f4⟩ := h4
    have P4 := I4.pinned (fun b hb => hz b hb H4 (f4 b hb)) (T.obj _ _ t4)
    have ff : ∀ {e : Value} {s' : Shared}, (cxC X N scope z).xe e s' → False := fun h => h
    refine wpAny_bind (wpAny_mono (hg _ s4 (inn js σ) H4 x u _ P4 r4 (hs σ x (inn js σ) H4 _ (Lev.refl _) (step x H4 y4))) (fun _ s5 h5 => ?_) fun _ _ h => (ff h).elim)
    obtain ⟨σ5, H5, I5, lev, q5⟩ := h5
    refine wpAny_bind (wpAny_mono (ht _ s5 σ5 H5 _ I5 q5) (fun ok s6 h6 => ?_) fun _ _ h => (ff h).elim)
    obtain ⟨H6, I6, q6⟩ := h6
    have again : ∀ {s7 : Shared} {H7 : Hp}, Inv (cxC X N scope z) ([] ++ pinsAt fp s4.heap) σ5 H7 s7 → (∃ m', m' < k ∧ W (i + 1) m' H7) → ∃ m, m < k ∧ ∃ i H', Inv (cxC X N scope z) [] (inn js σ) H' s7 ∧ tn i s7.heap ∧ (∀ b ∈ fp, H' b = none) ∧ W i m H' := fun {s7 H7} I7 h7 => by
      obtain ⟨m', hm, w7⟩ := h7
      refine ⟨m', hm, i + 1, H7, (I7.unpinned).weak lev.1 lev.2, T.keep _ _ _ t4 fun b hb o e => (I7.pin (b, o) (List.mem_append_right _ (List.mem_append_right _ (mem_pinsAt hb e)))).1, fun b hb => ?_, w7⟩
      obtain ⟨o, e, d⟩ := T.obj _ _ t4 b hb
      exact (I7.pin (b, o) (List.mem_append_right _ (List.mem_append_right _ (mem_pinsAt hb e)))).2.1
    cases ok with
    | false =>
      rw [if_neg (by decide)] at q6
      exact wpAny_pure ⟨rfl, again I6 q6⟩
    | true =>
      rw [if_pos rfl] at q6
      refine wpAny_bind (wpAny_bind (wpAny_mono (he _ s6 σ5 H6 _ I6 q6) (fun y s7 h7 => ?_) fun _ _ h => (ff h).elim))
      obtain ⟨vy, H7, I7, r7, ys, hD, hl, q7⟩ := h7
      refine wpAny_bind (wpAny_mono (mt_append (X := cxC X N scope z) _ s7 σ5 H7 (.ref D) [vy] (.ref D) [y] (fun _ H' => ∃ m', m' < k ∧ W (i + 1) m' H') I7 rfl (.cons r7 .nil) ⟨D, ys, vy, rfl, rfl, hD, hl, q7⟩) (fun _ s8 h8 => ?_) fun _ _ h => (ff h).elim)
      obtain ⟨_, H8, I8, _, q8⟩ := h8
      exact wpAny_pure (wpAny_pure ⟨rfl, again I8 q8⟩)
theorem comp_block {E : Value → Shared → Prop} {RR : Value → Addr → Result → Shared → Prop} {Q : VK} {itv : Value} {s2 : Shared} (ck : CmpOk XN sc scope N js) (hXN : X.N = XN) (hsc : X.env.scope = sc) (hc : X.calm = true)
    (hg : ∀ z, PG (cxC X N scope z) tg g) (hs : Sets js g) (ht : ∀ z, PIf (cxC X N scope z) ifs tt) (he : ∀ z, PE (cxC X N scope z) elt te)
    (h2 : PIE X pins σ tg (fun J H1 => ∀ D, H1 D = none → ∃ W : Nat → Nat → Hp → Prop, (∃ m, W 0 m (upd H1 D (.lst []))) ∧ ∀ i m H, W i m H →
      (J.stop i H ∧ Q (.ref D) H) ∨ (J.go i H ∧ ∀ x H', J.yld i H x H' → g x (inn js σ) H' fun σ2 H2 => tt σ2 H2 fun b H3 =>
        if b = true then te σ2 H3 fun y H4 => ∃ ys, H4 D = some (.lst ys) ∧ ys.length < sizeLine ∧ ∃ m', m' < m ∧ W (i + 1) m' (upd H4 D (.lst (ys ++ [y]))) else ∃ m', m' < m ∧ W (i + 1) m' H3)) itv s2)
    (hRR : ∀ D C s' H' m o, Inv X (pins ++ [(C, o)]) σ H' s' → s'.heap.Ns C m → (X.s₀.heap.objs.size ≤ C ∧ C ≠ X.env.locals ∧ (∀ x c, X.env.cells.lookup x = some c → c ≠ C) ∧ ∀ p ∈ X.pn ++ pins, p.1 ≠ C) → H' C = none → Q (.ref D) H' → RR (.ref D) C (.ok .next) s') :
    wpAny (model X.prog X.w) X.A (newList []) (fun acc s₃ => wpAny (model X.prog X.w) X.A (newFunctionEnv scope X.env.globals (clOf X.env scope.names []) [] X.env.qual none .none (some X.env)) (fun cenv s₄ =>
      codeAny (model X.prog X.w) X.A (.compStart (.ListComp elt [⟨tg, iter, ifs, 0⟩] scope pos) 0 itv acc { cenv with scope := relabel scope X.env }) (RR acc cenv.locals) s₄) E s₃) E s2 := by
  obtain ⟨it, fp, tn, J, H2, rfl, I2, T, t2, f2, q2⟩ := h2
  have fo : ∀ b ∈ fp, b < s2.heap.objs.size := fun b hb => by
    obtain ⟨o, e, _⟩ := T.obj _ _ t2 b hb
    exact Heap.lt_size e
  have hD : H2 s2.heap.objs.size = none := I2.fresh
  obtain ⟨W, ⟨n, w0⟩, turn⟩ := q2 _ hD
  refine wpAny_newObj_type (wpAny_newFunctionEnv ck.cell (by intro y hy; simp at hy) (fun h1 hns hsb => ?_) ck.kind)
  have I3 : Inv X pins σ (upd H2 s2.heap.objs.size (.lst [])) { s2 with heap := s2.heap.push { cls := .type "list", data := .seq ([] : List Value).toArray }, toks := s2.toks } := I2.lnew (its := []) .nil (Nat.zero_le _)
  have f3 : ∀ b ∈ fp, FpOk X pins (upd H2 s2.heap.objs.size (.lst [])) b := fun b hb => by
    obtain ⟨g0, g1⟩ := f2 b hb
    exact ⟨by rw [upd_ne (Nat.ne_of_lt (fo b hb))]; exact g0, g1⟩
  have sz : (s2.heap.push { cls := .type "list", data := .seq ([] : List Value).toArray }).objs.size = s2.heap.objs.size + 1 := Heap.size_push _ _
  have kept : ∀ b o, (s2.heap.push { cls := .type "list", data := .seq ([] : List Value).toArray }).get? b = some o → h1.get? b = some o := fun b o e =>
    hsb.extBut b o (Nat.ne_of_lt (Heap.lt_size e)) (Heap.get?_push_of_some _ e)
  have I4 := inv_comp (tk := s2.toks + ([] : List (Str × Value)).length) ck hXN hsc I3 f3 (fun b hb => by show b < (s2.heap.push _).objs.size; rw [sz]; exact Nat.lt_succ_of_lt (fo b hb)) hns kept
  have t4 : tn 0 h1 := T.keep _ _ _ t2 fun b hb o e => kept b o (Heap.get?_push_of_some _ e)
  have fz : ∀ b ∈ fp, ∀ H', H' b = none → FpOk (cxC X N scope ⟨clOf X.env scope.names [], (s2.heap.push { cls := .type "list", data := .seq ([] : List Value).toArray }).objs.size, { s2 with heap := s2.heap.push { cls := .type "list", data := .seq ([] : List Value).toArray }, toks := s2.toks }, upd H2 s2.heap.objs.size (.lst []), fp, pins⟩) [] H' b := fun b hb H' hn => by
    obtain ⟨g0, g1, g2, g3, g4, g5⟩ := f3 b hb
    refine ⟨hn, (I4.ok.exf b hb).1, I4.ok.exfs b hb, .inl hb, (I4.ok.exf b hb).2, fun p hp => ?_⟩
    exact g5 p (by simpa [cxC] using hp)
  have loop := comp_loop (X := X) (σ := σ) (N := N) (scope := scope) (js := js) (iter := iter) (pos := pos) (E := E) (R := RR (.ref s2.heap.objs.size) (s2.heap.push { cls := .type "list", data := .seq ([] : List Value).toArray }).objs.size) (D := s2.heap.objs.size) (W := W) (n := n)
    hc T fz (hg _) hs (ht _) (he _) (fun i m H w => (turn i m H w).imp (fun a => ⟨a.1, fun s' Y => ?_⟩) id) I4 t4 (fun b hb => (f3 b hb).1) w0
  · exact codeAny_compStart_list loop (T.self _ 0 _ _ _ t4 loop)
  · have bb := Y.base
    have J0 : Inv X pins σ H s' := I3.call' Y.os bb Y.hok Y.bare fun b hb => by
      obtain ⟨g0, g1, g2, g3, g4, g5⟩ := f3 b hb
      exact ⟨g3, g1, g4, g5⟩
    obtain ⟨mC, nC, _⟩ := Y.loc
    obtain ⟨oC, eC, dC⟩ : ∃ o, s'.heap.get? (s2.heap.push { cls := .type "list", data := .seq ([] : List Value).toArray }).objs.size = some o ∧ ∀ v, o.data ≠ .cell v := by
      obtain ⟨o, es, ep, ho, hd, _⟩ := nC
      exact ⟨o, ho, fun v z => by rw [hd] at z; cases z⟩
    have lC : X.s₀.heap.objs.size ≤ (s2.heap.push { cls := .type "list", data := .seq ([] : List Value).toArray }).objs.size := I3.sz
    have cC : (s2.heap.push { cls := .type "list", data := .seq ([] : List Value).toArray }).objs.size ≠ X.env.locals := Nat.ne_of_gt I3.lt
    have kC : ∀ x c, X.env.cells.lookup x = some c → c ≠ (s2.heap.push { cls := .type "list", data := .seq ([] : List Value).toArray }).objs.size := fun x c e => by
      obtain ⟨v, q⟩ := I3.cell x c e
      exact Nat.ne_of_lt q.lt
    have pC : ∀ p ∈ X.pn ++ pins, p.1 ≠ (s2.heap.push { cls := .type "list", data := .seq ([] : List Value).toArray }).objs.size := fun p hp => Nat.ne_of_lt (Heap.lt_size (I3.pin p hp).1)
    have J1 : Inv X (pins ++ [((s2.heap.push { cls := .type "list", data := .seq ([] : List Value).toArray }).objs.size, oC)]) σ H s' := J0.pins_of fun p hp => by
      rcases List.mem_append.mp hp with hp | hp
      · exact J0.pin p (List.mem_append_right _ hp)
      · rw [List.mem_singleton.mp hp]
        exact ⟨eC, Y.free, cC, I3.nofs (Nat.le_refl _), dC⟩
    exact hRR _ _ s' H mC oC J1 nC ⟨lC, cC, kC, pC⟩ Y.free a.2
theorem pe_comp (ck : CmpOk XN sc scope N js) (hi : PI X tg iter wi) (hg : ∀ z, PG (cxC X N scope z) tg g) (hs : Sets js g) (ht : ∀ z, PIf (cxC X N scope z) ifs tt) (he : ∀ z, PE (cxC X N scope z) elt te)
    (hXN : X.N = XN := by rfl) (hsc : X.env.scope = sc := by rfl) (hc : X.calm = true := by rfl) (hf : ∀ x, foldedSetIterable iter X.env x = pure x := by intro _; rfl) :
    PE X (.ListComp elt [⟨tg, iter, ifs, 0⟩] scope pos) (tComp js wi g tt te) := by
  intro pins s σ H Q I h
  rw [eval_ListComp]
  have hcl : closureFor scope X.env = pure (clOf X.env scope.names []) := closure_is fun y hy hk => I.ok.has y.1 (by
    have := ck.free y hy hk
    rw [← hsc] at this
    exact this)
  refine wpAny_comprehension_free (use := none) rfl hf hcl ck.kind ck.loc (thn (hi pins s σ H _ I h) fun v s1 h1 => thn h1 fun itv s2 h2 => ?_)
  refine comp_block (RR := fun acc C => compPost (model X.prog X.w) X.A X.xe none (EP X pins σ Q) acc C) ck hXN hsc hc hg hs ht he h2 ?_
  intro D C s' H' m o J nC hC fC q
  refine ⟨m, nC, fun h' sb => ⟨.ref D, H', ?_, rfl, q⟩⟩
  have J0 : Inv X pins σ H' s' := J.unpinned
  exact J0.turned (t' := s'.toks) (it := C) (fun b o hb e => sb.extBut b o hb e) fC hC.2.1 (.inr hC.1) hC.2.2.1 hC.2.2.2
theorem ps_setC {i : Nat} {y : Str} {pos' spos : Pos} (ck : CmpOk XN sc scope N js) (hN : X.N.Nodup) (hi0 : X.N[i]? = some y) (hx : Loc X.env.scope y) (hi : PI X tg iter wi) (hg : ∀ z, PG (cxC X N scope z) tg g) (hs : Sets js g) (ht : ∀ z, PIf (cxC X N scope z) ifs tt) (he : ∀ z, PE (cxC X N scope z) elt te)
    (hsw : swapsWith (.ListComp elt [⟨tg, iter, ifs, 0⟩] scope pos) (some (.Name y pos')) spos.line X.env = pure true := by rfl)
    (hXN : X.N = XN := by rfl) (hsc : X.env.scope = sc := by rfl) (hc : X.calm = true := by rfl) (hf : ∀ x, foldedSetIterable iter X.env x = pure x := by intro _; rfl)
    (hfn : X.fn y = true ∨ X.env.scope.names.lookup y = some .local := by first | exact .inl rfl | exact .inr rfl | assumption) :
    PS X (.Assign [.Name y pos'] (.ListComp elt [⟨tg, iter, ifs, 0⟩] scope pos) spos) (tAsg (tComp js wi g tt te) (gName i)) := by
  intro pins s σ H D I h
  rw [exec_Assign_Name_used _ _ _ _ hsw]
  have hcl : closureFor scope X.env = pure (clOf X.env scope.names []) := closure_is fun y hy hk => I.ok.has y.1 (by
    have := ck.free y hy hk
    rw [← hsc] at this
    exact this)
  refine wpAny_bind (wpAny_standAt (wpAny_bind ?_))
  show wpAny (model X.prog X.w) X.A (comprehension (.ListComp elt [⟨tg, iter, ifs, 0⟩] scope pos) scope X.env _ (newList []) false (eval iter X.env) (some (assign (.Name y pos') X.env)) >>= fun _ => pure ()) _ _ s
  refine wpAny_bind (thn (wpAny_comprehension_free (use := some (assign (.Name y pos') X.env)) (Q := fun _ s' => SP X pins D .next s') rfl hf hcl ck.kind ck.loc (thn (hi pins s σ H _ I h) fun v s1 h1 => thn h1 fun itv s2 h2 => ?_)) fun _ s' q => wpAny_pure (wpAny_pure q))
  refine comp_block (RR := fun acc C => compPost (model X.prog X.w) X.A X.xe (some (assign (.Name y pos') X.env)) (fun _ s' => SP X pins D .next s') acc C) (Q := fun x H1 => gName i x σ H1 D.nx) ck hXN hsc hc hg hs ht he h2 ?_
  intro A C s' H' m o J nC hC fC q
  refine thn (pg_name hN hi0 hx hfn _ s' σ H' (.ref A) (.ref A) _ J rfl q) fun _ s3 h3 => ?_
  obtain ⟨σ3, H3, J3, q3⟩ := h3
  have pc := J3.pin (C, o) (List.mem_append_right _ (List.mem_append_right _ List.mem_cons_self))
  have oC : s'.heap.get? C = some o := (J.pin (C, o) (List.mem_append_right _ (List.mem_append_right _ List.mem_cons_self))).1
  refine ⟨m, nC.at' fun o' e => ?_, fun h' sb => ⟨σ3, H3, ?_, q3⟩⟩
  · rw [oC] at e
    cases e
    exact pc.1
  · have J0 : Inv X pins σ3 H3 s3 := J3.unpinned
    exact J0.turned (t' := s3.toks) (it := C) (fun b o hb e => sb.extBut b o hb e) pc.2.1 hC.2.1 (.inr hC.1) hC.2.2.1 hC.2.2.2
end
end L2
namespace Srt
open PySem PySem.W PyProof.Rows
section
variable {α β : Type} (lt : Nat → Nat → Bool) (n : Nat)
noncomputable def Pwp : KasT α → (α → Prop) → Prop
  | .ret a, Q => Q a
  | .ask i j k, Q => i < n ∧ j < n ∧ Pwp (k (lt i j)) Q
theorem Pwp.bind {f : α → KasT β} {Q : β → Prop} : ∀ {t : KasT α}, Pwp lt n t (fun a => Pwp lt n (f a) Q) → Pwp lt n (t.bind f) Q
  | .ret _, h => h
  | .ask _ _ _, h => ⟨h.1, h.2.1, Pwp.bind h.2.2⟩
theorem Pwp.mono {Q Q' : α → Prop} (hq : ∀ a, Q a → Q' a) : ∀ {t : KasT α}, Pwp lt n t Q → Pwp lt n t Q'
  | .ret _, h => hq _ h
  | .ask _ _ _, h => ⟨h.1, h.2.1, Pwp.mono hq h.2.2⟩
theorem Pwp.wp {cmp : Nat → Nat → (Bool → Shared → Prop) → Shared → Prop} {s : Shared} {Q : α → Shared → Prop} (hc : ∀ i j C, i < n → j < n → C (lt i j) s → cmp i j C s) :
    ∀ {t : KasT α}, Pwp lt n t (fun a => Q a s) → t.kasWp cmp Q s
  | .ret _, h => h
  | .ask i j _, h => hc i j _ h.1 h.2.1 (Pwp.wp hc h.2.2)
end
section
variable {lt : Nat → Nat → Bool} {le : Nat → Nat → Prop} {n : Nat} {p : Array Nat}
noncomputable abbrev at' (p : Array Nat) (i : Nat) : Nat := p.getD i 0
theorem at_eq {p q : Array Nat} {i j : Nat} (h : p[i]? = q[j]?) : at' p i = at' q j := by
  have e : ∀ (r : Array Nat) (k : Nat), at' r k = (r[k]?).getD 0 := fun r k => by simp [at']
  rw [e, e, h]
noncomputable def Asc (le : Nat → Nat → Prop) (p : Array Nat) (m : Nat) : Prop := ∀ i j, i ≤ j → j < m → le (at' p i) (at' p j)
noncomputable def Dsc (le : Nat → Nat → Prop) (p : Array Nat) (m : Nat) : Prop := ∀ i j, i ≤ j → j < m → le (at' p j) (at' p i)
noncomputable def Bel (n : Nat) (p : Array Nat) : Prop := ∀ k, at' p k < n
structure Ord (lt : Nat → Nat → Bool) (le : Nat → Nat → Prop) : Prop where
  tr : ∀ a b c, le a b → le b c → le a c
  rf : ∀ a, le a a
  yes : ∀ a b, lt a b = true → le a b
  no : ∀ a b, lt a b = false → le b a
theorem bel_of (hn : 0 < n) (hp : p.Perm (List.range n).toArray) : Bel n p := fun k => by
  have e : at' p k = (p[k]?).getD 0 := by simp [at']
  rw [e]
  cases h : p[k]? with
  | none => exact hn
  | some v =>
    have hm : v ∈ p := Array.mem_of_getElem? h
    have := (Array.perm_iff_toList_perm.mp hp).mem_iff.mp (Array.mem_toList_iff.mpr hm)
    simpa using this
theorem Asc.succ (o : Ord lt le) {m : Nat} (h : Asc le p m) (h1 : 1 ≤ m) (hl : le (at' p (m - 1)) (at' p m)) : Asc le p (m + 1) := fun i j hij hj => by
  by_cases e : j = m
  · subst e
    by_cases e2 : i = j
    · subst e2; exact o.rf _
    · exact o.tr _ _ _ (h i (j - 1) (by lia) (by lia)) hl
  · exact h i j hij (by lia)
theorem Dsc.succ (o : Ord lt le) {m : Nat} (h : Dsc le p m) (h1 : 1 ≤ m) (hl : le (at' p m) (at' p (m - 1))) : Dsc le p (m + 1) := fun i j hij hj => by
  by_cases e : j = m
  · subst e
    by_cases e2 : i = j
    · subst e2; exact o.rf _
    · exact o.tr _ _ _ hl (h i (j - 1) (by lia) (by lia))
  · exact h i j hij (by lia)
theorem asc_ok (o : Ord lt le) (hb : Bel n p) : ∀ (f m : Nat), 1 ≤ m → Asc le p m → Pwp lt n (kas_asc p f m) fun r => m ≤ r ∧ r ≤ m + f ∧ Asc le p r ∧ (r < m + f → le (at' p r) (at' p (r - 1)))
  | 0, m, h1, ha => ⟨Nat.le_refl _, Nat.le_refl _, ha, fun h => absurd h (Nat.lt_irrefl _)⟩
  | f + 1, m, h1, ha => by
    refine ⟨hb _, hb _, ?_⟩
    cases c : lt (at' p m) (at' p (m - 1)) with
    | true =>
      show Pwp lt n (if true = true then _ else _) _
      rw [if_pos rfl]
      exact ⟨Nat.le_refl _, by lia, ha, fun _ => o.yes _ _ c⟩
    | false =>
      show Pwp lt n (if false = true then _ else _) _
      rw [if_neg (by decide)]
      refine Pwp.mono _ _ (fun r hr => ?_) (asc_ok o hb f (m + 1) (by lia) (ha.succ o h1 (o.no _ _ c)))
      exact ⟨by lia, by lia, hr.2.2.1, fun h => hr.2.2.2 (by lia)⟩
theorem at_mirror {i j : Nat} (hj : j ≤ p.size) (k : Nat) : at' (kas_rev p i j) k = if i ≤ k ∧ k < j then at' p (i + j - 1 - k) else at' p k := by
  have e := getElem?_mirror_all (i := i) hj k
  by_cases h : i ≤ k ∧ k < j
  · rw [if_pos h] at e ⊢; exact at_eq e
  · rw [if_neg h] at e ⊢; exact at_eq e
theorem rev_perm {q : Array Nat} (i j : Nat) (h : p.Perm q) : (kas_rev p i j).Perm q := (mirror_perm _ _ _ _).trans h
theorem Dsc.rev {m q : Nat} (h : Dsc le p m) (hm : m ≤ p.size) (hq : q + 1 ≤ m) (he : ∀ k, m - (q + 1) ≤ k → k < m → le (at' p k) (at' p (m - 1)) ∧ le (at' p (m - 1)) (at' p k)) (o : Ord lt le) : Dsc le (kas_rev p (m - (q + 1)) m) m := by
  have key : ∀ k, k < m → ∃ k', k' < m ∧ at' (kas_rev p (m - (q + 1)) m) k = at' p k' ∧ le (at' p k') (at' p k) ∧ le (at' p k) (at' p k') := fun k hk => by
    rw [at_mirror hm]
    split
    · rename_i h1
      refine ⟨m - (q + 1) + m - 1 - k, by omega, rfl, ?_⟩
      obtain ⟨a1, a2⟩ := he k h1.1 hk
      obtain ⟨b1, b2⟩ := he (m - (q + 1) + m - 1 - k) (by omega) (by omega)
      exact ⟨o.tr _ _ _ b1 a2, o.tr _ _ _ a1 b2⟩
    · exact ⟨k, hk, rfl, o.rf _, o.rf _⟩
  intro i j hij hj
  obtain ⟨i', _, e1, x1, x2⟩ := key i (by omega)
  obtain ⟨j', _, e2, y1, y2⟩ := key j hj
  rw [e1, e2]
  exact o.tr _ _ _ y1 (o.tr _ _ _ (h i j hij hj) x2)
theorem Dsc.turn {m : Nat} (h : Dsc le p m) (hm : m ≤ p.size) : Asc le (kas_rev p 0 m) m := by
  intro i j hij hj
  rw [at_mirror hm, at_mirror hm, if_pos ⟨Nat.zero_le _, by omega⟩, if_pos ⟨Nat.zero_le _, hj⟩]
  exact h _ _ (by omega) (by omega)
noncomputable abbrev Eqs (le : Nat → Nat → Prop) (p : Array Nat) (m q : Nat) : Prop := ∀ k, m - (q + 1) ≤ k → k < m → le (at' p k) (at' p (m - 1)) ∧ le (at' p (m - 1)) (at' p k)
theorem eqs_zero (o : Ord lt le) (m : Nat) : Eqs le p m 0 := fun k h1 h2 => by
  have : k = m - 1 := by lia
  subst this
  exact ⟨o.rf _, o.rf _⟩
variable {z : Nat}
theorem desc_ok (o : Ord lt le) (hn : 0 < n) : ∀ (f : Nat) (p : Array Nat) (m q : Nat), p.Perm (List.range n).toArray → 1 ≤ m → m + f ≤ n → q + 1 ≤ m → Dsc le p m → Eqs le p m q →
    Pwp lt n (kas_desc f p m q) fun r => r.1.Perm (List.range n).toArray ∧ m ≤ r.2.1 ∧ r.2.1 ≤ m + f ∧ r.2.2 + 1 ≤ r.2.1 ∧ Dsc le r.1 r.2.1 ∧ Eqs le r.1 r.2.1 r.2.2
  | 0, p, m, q, hp, h1, hf, hq, hd, he => ⟨hp, Nat.le_refl _, Nat.le_refl _, hq, hd, he⟩
  | f + 1, p, m, q, hp, h1, hf, hq, hd, he => by
    have hb : Bel n p := bel_of hn hp
    have hs : p.size = n := by rw [hp.size_eq]; simp
    refine ⟨hb _, hb _, ?_⟩
    cases c : lt (at' p m) (at' p (m - 1)) with
    | true =>
      show Pwp lt n (if true = true then _ else _) _
      rw [if_pos rfl]
      have hl := o.yes _ _ c
      by_cases h0 : q > 0
      · rw [if_pos h0]
        have d1 := hd.rev (by lia) hq he o
        have e1 : at' (kas_rev p (m - (q + 1)) m) m = at' p m := by rw [at_mirror (by lia), if_neg (by lia)]
        have e2 : at' (kas_rev p (m - (q + 1)) m) (m - 1) = at' p (m - (q + 1)) := by
          rw [at_mirror (by lia), if_pos (by lia)]
          congr 1; lia
        have d2 := d1.succ o h1 (by rw [e1, e2]; exact o.tr _ _ _ hl (he _ (Nat.le_refl _) (by lia)).2)
        refine Pwp.mono _ _ (fun r hr => ?_) (desc_ok o hn f (kas_rev p (m - (q + 1)) m) (m + 1) 0 (rev_perm _ _ hp) (by lia) (by lia) (by lia) d2 (eqs_zero o _))
        exact ⟨hr.1, by lia, by lia, hr.2.2.2⟩
      · rw [if_neg h0]
        refine Pwp.mono _ _ (fun r hr => ?_) (desc_ok o hn f p (m + 1) 0 hp (by lia) (by lia) (by lia) (hd.succ o h1 hl) (eqs_zero o _))
        exact ⟨hr.1, by lia, by lia, hr.2.2.2⟩
    | false =>
      show Pwp lt n (if false = true then _ else _) _
      rw [if_neg (by decide)]
      refine ⟨hb _, hb _, ?_⟩
      have g1 := o.no _ _ c
      cases c' : lt (at' p (m - 1)) (at' p m) with
      | true =>
        show Pwp lt n (if true = true then _ else _) _
        rw [if_pos rfl]
        exact ⟨hp, Nat.le_refl _, Nat.le_add_right _ _, hq, hd, he⟩
      | false =>
        show Pwp lt n (if false = true then _ else _) _
        rw [if_neg (by decide)]
        have g2 := o.no _ _ c'
        have he' : Eqs le p (m + 1) (q + 1) := fun k h2 h3 => by
          show le (at' p k) (at' p m) ∧ le (at' p m) (at' p k)
          by_cases hk : k = m
          · subst hk; exact ⟨o.rf _, o.rf _⟩
          · obtain ⟨x1, x2⟩ := he k (by lia) (by lia)
            exact ⟨o.tr _ _ _ x1 g1, o.tr _ _ _ g2 x2⟩
        refine Pwp.mono _ _ (fun r hr => ?_) (desc_ok o hn f p (m + 1) (q + 1) hp (by lia) (by lia) (by lia) (hd.succ o h1 g2) he')
        exact ⟨hr.1, by lia, by lia, hr.2.2.2⟩
noncomputable abbrev Cnt (le : Nat → Nat → Prop) (n : Nat) (r : Nat × Array Nat) : Prop := r.2.Perm (List.range n).toArray ∧ 1 ≤ r.1 ∧ r.1 ≤ n ∧ Asc le r.2 r.1
theorem tail_ok (o : Ord lt le) (hn : 0 < n) {m : Nat} (hp : p.Perm (List.range n).toArray) (h1 : 1 ≤ m) (hm : m ≤ n) (hd : Dsc le p m) : Pwp lt n (kas_tail3 m n p) (Cnt le n) := by
  have hs : p.size = n := by rw [hp.size_eq]; simp
  have hp' := rev_perm (p := p) 0 m hp
  refine Pwp.bind _ _ (Pwp.mono _ _ (fun r hr => ?_) (asc_ok o (bel_of hn hp') (n - m) m h1 (hd.turn (by omega))))
  exact ⟨hp', by show 1 ≤ r; omega, by show r ≤ n; omega, hr.2.2.1⟩
theorem descPart_ok (o : Ord lt le) (hn : 0 < n) {m : Nat} (hp : p.Perm (List.range n).toArray) (hm : m + 1 ≤ n) (hd : Dsc le p (m + 1)) : Pwp lt n (kas_descPart m n p) (Cnt le n) := by
  refine Pwp.bind _ _ (Pwp.mono _ _ (fun r hr => ?_) (desc_ok o hn (n - (m + 1)) p (m + 1) 0 hp (by lia) (by lia) (by lia) hd (eqs_zero o _)))
  obtain ⟨a1, a2, a3, a4, a5, a6⟩ := hr
  have hs : r.1.size = n := by rw [a1.size_eq]; simp
  by_cases h : r.2.2 > 0
  · rw [if_pos h]
    exact tail_ok o hn (rev_perm _ _ a1) (by lia) (by lia) (a5.rev (by lia) a4 a6 o)
  · rw [if_neg h]
    exact tail_ok o hn a1 (by lia) (by lia) a5
theorem count_ok (o : Ord lt le) (hn : 0 < n) (hp : p.Perm (List.range n).toArray) : Pwp lt n (kas_count n p) (Cnt le n) := by
  have hs : p.size = n := by rw [hp.size_eq]; simp
  have hb : Bel n p := bel_of hn hp
  have a1 : Asc le p 1 := fun i j h1 h2 => by
    have e1 : i = 0 := by lia
    have e2 : j = 0 := by lia
    subst e1 e2
    exact o.rf _
  refine Pwp.bind _ _ (Pwp.mono _ _ (fun m hm => ?_) (asc_ok o hb (n - 1) 1 (Nat.le_refl _) a1))
  obtain ⟨h1, h2, h3, h4⟩ := hm
  by_cases e : m = n
  · rw [if_pos (by simpa using e)]
    exact ⟨hp, h1, by show m ≤ n; lia, h3⟩
  · rw [if_neg (by simpa using e)]
    have hl := h4 (by lia)
    by_cases g : m > 1
    · rw [if_pos g]
      refine ⟨hb _, hb _, ?_⟩
      cases c : lt (at' p 0) (at' p (m - 1)) with
      | true =>
        show Pwp lt n (if true = true then _ else _) _
        rw [if_pos rfl]
        exact ⟨hp, h1, by show m ≤ n; lia, h3⟩
      | false =>
        show Pwp lt n (if false = true then _ else _) _
        rw [if_neg (by decide)]
        have g1 := o.no _ _ c
        have eqs : ∀ i j, i < m → j < m → le (at' p i) (at' p j) := fun i j hi hj => o.tr _ _ _ (h3 i (m - 1) (by lia) (by lia)) (o.tr _ _ _ g1 (h3 0 j (by lia) hj))
        refine descPart_ok o hn (rev_perm _ _ hp) (by lia) (Dsc.succ o (m := m) (fun i j hij hj => ?_) h1 ?_)
        · rw [at_mirror (by lia), at_mirror (by lia), if_pos (by lia), if_pos (by lia)]
          exact eqs _ _ (by lia) (by lia)
        · rw [at_mirror (by lia), at_mirror (by lia), if_neg (by lia), if_pos (by lia)]
          exact o.tr _ _ _ hl (eqs _ _ (by lia) (by lia))
    · rw [if_neg g]
      have e1 : m = 1 := by lia
      subst e1
      exact descPart_ok o hn hp (by lia) (Dsc.succ o (fun i j hij hj => by
        have e1 : i = 0 := by lia
        have e2 : j = 0 := by lia
        subst e1 e2
        exact o.rf _) (Nat.le_refl _) hl)
theorem place_ok (o : Ord lt le) (hb : Bel n p) (k : Nat) (ha : Asc le p k) : ∀ (f l r : Nat), l ≤ r → r ≤ k → r - l ≤ f → (∀ i, i < l → le (at' p i) (at' p k)) → (∀ i, r ≤ i → i < k → le (at' p k) (at' p i)) →
    Pwp lt n (kas_place p k f l r) fun x => x ≤ k ∧ (∀ i, i < x → le (at' p i) (at' p k)) ∧ ∀ i, x ≤ i → i < k → le (at' p k) (at' p i)
  | 0, l, r, h1, h2, h3, h4, h5 => by
    have e : l = r := by lia
    subst e
    exact ⟨h2, h4, h5⟩
  | f + 1, l, r, h1, h2, h3, h4, h5 => by
    unfold kas_place
    by_cases g : l ≥ r
    · rw [if_pos g]
      have e : l = r := by lia
      subst e
      exact ⟨h2, h4, h5⟩
    · rw [if_neg g]
      refine ⟨hb _, hb _, ?_⟩
      cases c : lt (at' p k) (at' p ((l + r) / 2)) with
      | true =>
        show Pwp lt n (if true = true then _ else _) _
        rw [if_pos rfl]
        exact place_ok o hb k ha f l ((l + r) / 2) (by lia) (by lia) (by lia) h4 fun i hi hk => o.tr _ _ _ (o.yes _ _ c) (ha _ _ hi hk)
      | false =>
        show Pwp lt n (if false = true then _ else _) _
        rw [if_neg (by decide)]
        exact place_ok o hb k ha f ((l + r) / 2 + 1) r (by lia) (by lia) (by lia) (fun i hi => o.tr _ _ _ (ha _ _ (by lia) (by lia)) (o.no _ _ c)) h5
theorem at_bubble {src d : Nat} (hs : src < p.size) (hd : d ≤ src) (k : Nat) : at' (bubble p src d) k = if k = src - d then at' p src else if src - d < k ∧ k ≤ src then at' p (k - 1) else at' p k := by
  have e := getElem?_bubble hs d hd k
  by_cases h1 : k = src - d
  · rw [if_pos h1] at e ⊢; exact at_eq e
  · rw [if_neg h1] at e ⊢
    by_cases h2 : src - d < k ∧ k ≤ src
    · rw [if_pos h2] at e ⊢; exact at_eq e
    · rw [if_neg h2] at e ⊢; exact at_eq e
theorem bin_ok (o : Ord lt le) (hn : 0 < n) : ∀ (f : Nat) (p : Array Nat) (k : Nat), p.Perm (List.range n).toArray → k + f = n → Asc le p k → Pwp lt n (kas_bin f p k) fun r => r.Perm (List.range n).toArray ∧ Asc le r n
  | 0, p, k, hp, hk, ha => by
    have e : k = n := by lia
    subst e
    exact ⟨hp, ha⟩
  | f + 1, p, k, hp, hk, ha => by
    have hs : p.size = n := by rw [hp.size_eq]; simp
    refine Pwp.bind _ _ (Pwp.mono _ _ (fun x hx => ?_) (place_ok o (bel_of hn hp) k ha k 0 k (Nat.zero_le _) (Nat.le_refl _) (by lia) (fun i h => absurd h (Nat.not_lt_zero _)) fun i h1 h2 => by lia))
    obtain ⟨h1, h2, h3⟩ := hx
    refine bin_ok o hn f _ (k + 1) ((bubble_perm _ _ _).trans hp) (by lia) fun i j hij hj => ?_
    have e := at_bubble (p := p) (src := k) (d := k - x) (by lia) (by lia)
    rw [e i, e j]
    have ex : k - (k - x) = x := by lia
    rw [ex]
    by_cases i1 : i = x
    · rw [if_pos i1]
      by_cases j1 : j = x
      · rw [if_pos j1]; exact o.rf _
      · rw [if_neg j1, if_pos (by lia)]; exact h3 _ (by lia) (by lia)
    · rw [if_neg i1]
      by_cases j1 : j = x
      · rw [if_pos j1, if_neg (by lia)]; exact h2 _ (by lia)
      · rw [if_neg j1]
        by_cases i2 : x < i ∧ i ≤ k
        · rw [if_pos i2, if_pos (by lia)]; exact ha _ _ (by lia) (by lia)
        · rw [if_neg i2]
          by_cases j2 : x < j ∧ j ≤ k
          · rw [if_pos j2]; exact ha _ _ (by lia) (by lia)
          · rw [if_neg j2]; exact ha _ _ (by lia) (by lia)
theorem sort_ok (o : Ord lt le) (hn : 0 < n) : Pwp lt n (kas_sort n) fun r => r.Perm (List.range n).toArray ∧ Asc le r n := by
  refine Pwp.bind _ _ (Pwp.mono _ _ (fun r hr => ?_) (count_ok o hn (Array.Perm.refl _)))
  obtain ⟨a1, a2, a3, a4⟩ := hr
  by_cases h : r.1 < n
  · rw [if_pos h]
    have e : max r.1 1 = r.1 := by lia
    rw [e]
    exact bin_ok o hn _ _ _ a1 (by lia) a4
  · rw [if_neg h]
    have e : r.1 = n := by lia
    exact ⟨a1, e ▸ a4⟩
end
theorem out_ok {α : Type} {le : Nat → Nat → Prop} {p : Array Nat} {vs : List α} {d : α} (hp : p.Perm (List.range vs.length).toArray) (ha : Asc le p vs.length) :
    (p.toList.map fun i => vs.getD i d).Perm vs ∧ ∀ R : α → α → Prop, (∀ i j, i < vs.length → j < vs.length → le i j → R (vs.getD i d) (vs.getD j d)) → (p.toList.map fun i => vs.getD i d).Pairwise R := by
  have hl : p.toList.Perm (List.range vs.length) := by simpa using Array.perm_iff_toList_perm.mp hp
  constructor
  · have h1 : (p.toList.map fun i => vs.getD i d).Perm ((List.range vs.length).map fun i => vs.getD i d) := hl.map _
    have h2 : ((List.range vs.length).map fun i => vs.getD i d) = vs := by
      apply List.ext_getElem
      · simp
      · intro i h1 h2; simp at h1; simp [h1]
    rw [h2] at h1
    exact h1
  · intro R hR
    rw [List.pairwise_map, List.pairwise_iff_getElem]
    intro i j hi hj hij
    have hs : p.toList.length = vs.length := by rw [hl.length_eq]; simp
    have m : ∀ k (hk : k < p.toList.length), p.toList[k] < vs.length := fun k hk => by simpa using hl.mem_iff.mp (List.getElem_mem hk)
    have a : ∀ k (hk : k < p.toList.length), at' p k = p.toList[k] := fun k hk => by
      have : k < p.size := by simpa using hk
      simp [at', Array.getD, this]
    refine hR _ _ (m i hi) (m j hj) ?_
    rw [← a i hi, ← a j hj]
    exact ha i j (Nat.le_of_lt hij) (by lia)
end Srt
namespace Srt
open PySem PySem.W PyProof.Rows
section
variable {prog : Program} {w : World} {A : Around} {E : Value → Shared → Prop} {s : Shared}
structure Known (prog : Program) (w : World) (s : Shared) (vs : List Value) (κ : SortKind) (lt : Nat → Nat → Bool) : Prop where
  kind : ∀ (A : Around) (E : Value → Shared → Prop) (h' : Heap) (Q : SortKind → Shared → Prop), (∀ b o, s.heap.get? b = some o → h'.get? b = some o) → 2 ≤ vs.length → Q κ { s with heap := h' } → wpAny (model prog w) A (keyKind' vs.toArray) Q E { s with heap := h' }
  ask : ∀ (A : Around) (h' : Heap) (i j : Nat) (C : Bool → Shared → Prop), (∀ b o, s.heap.get? b = some o → h'.get? b = some o) → i < vs.length → j < vs.length → C (lt i j) { s with heap := h' } → kas_ask prog w A κ vs i j C { s with heap := h' }
theorem Known.on {vs : List Value} {κ : SortKind} {lt : Nat → Nat → Bool} {h : Heap} (k : Known prog w s vs κ lt) (hk : ∀ b o, s.heap.get? b = some o → h.get? b = some o) : Known prog w { s with heap := h } vs κ lt :=
  ⟨fun A E h' Q h2 => k.kind A E h' Q fun b o e => h2 b o (hk b o e), fun A h' i j C h2 => k.ask A h' i j C fun b o e => h2 b o (hk b o e)⟩
noncomputable def outOf (vs : List Value) (p : Array Nat) : Array Value := (p.toList.map fun i => vs.getD i Value.none).toArray
theorem outOf_size {vs : List Value} {p : Array Nat} (h : p.size = vs.length) : (outOf vs p).size = vs.length := by
  unfold outOf; simp [h]
theorem outOf_range {vs : List Value} : outOf vs (List.range vs.length).toArray = vs.toArray := by
  unfold outOf
  congr 1
  apply List.ext_getElem
  · simp
  · intro i h1 h2
    simp at h1
    simp [h1]
theorem asc_few {le : Nat → Nat → Prop} (rf : ∀ a, le a a) {n : Nat} (h : n < 2) (p : Array Nat) : Asc le p n := fun i j hij hj => by
  have e : i = j := by lia
  subst e; exact rf _
theorem lsort_by {a : Addr} {vs : List Value} {n : Nat} {κ : SortKind} {lt : Nat → Nat → Bool} {le : Nat → Nat → Prop} {P : PySem.Fin → Shared → Prop} (o : Ord lt le) (ho : s.heap.get? a = some (seqObj "list" vs.toArray n)) (h64 : vs.length < 64)
    (hk : ∀ h', (∀ b o, b ≠ a → s.heap.get? b = some o → h'.get? b = some o) → Known prog w { s with heap := h' } vs κ lt)
    (h : ∀ p : Array Nat, p.Perm (List.range vs.length).toArray → Asc le p vs.length → P (.done (.ret .none)) { s with heap := sortedHeap s.heap a vs (outOf vs p) }) : wpAny (model prog w) A (Builtin.«list.sort» ⟨[.ref a], []⟩) P E s := by
  have ha : a < s.heap.objs.size := Heap.lt_size ho
  obtain ⟨e1, ho1⟩ : ∃ e1, (s.heap.update a (Obj.mapSeq fun _ => #[])).get? a = some (seqObj "list" #[] e1) := ⟨_, get?_update_seq ho fun _ => #[]⟩
  have ne1 : a ≠ ((s.heap.update a (Obj.mapSeq fun _ => #[])).push (seqObj "tuple" vs.toArray 0)).objs.size := by rw [size_push', Heap.size_update]; exact Nat.ne_of_lt (Nat.lt_succ_of_lt ha)
  have ne2 : a ≠ (s.heap.update a (Obj.mapSeq fun _ => #[])).objs.size := by rw [Heap.size_update]; exact Nat.ne_of_lt ha
  have ho6 : (((s.heap.update a (Obj.mapSeq fun _ => #[])).push (seqObj "tuple" vs.toArray 0)).push (seqObj "list" #[] 0)).get? a = some (seqObj "list" #[] e1) := by rw [Heap.get?_push_ne _ _ _ ne1, Heap.get?_push_ne _ _ _ ne2, ho1]
  have keep : ∀ b q, b ≠ a → s.heap.get? b = some q → (((s.heap.update a (Obj.mapSeq fun _ => #[])).push (seqObj "tuple" vs.toArray 0)).push (seqObj "list" #[] 0)).get? b = some q := fun b q hb hq =>
    Heap.get?_push_of_some _ (Heap.get?_push_of_some _ ((Heap.get?_update_ne _ _ _ _ hb).trans hq))
  have K := hk _ keep
  rw [list_sort_plain]; refine wpAny_bind (listItems_at ho rfl (wpAny_bind (listUpdate_at ho rfl (wpAny_bind (seqEpoch_at ho1 rfl (wpAny_bind (wpAny_newTuple (wpAny_bind (wpAny_newList (wpAny_holding ?_)))))))))) 
  dsimp only
  have hn : vs.toArray.size = vs.length := by simp
  have fin : ∀ (p : Array Nat) (st : SortSt), p.Perm (List.range vs.length).toArray → Asc le p vs.length → (arrOf st).map (·.2) = outOf vs p → failedOf st = none →
      wpAny (model prog w) A (do
        let touched := (← seqEpoch a) != e1
        Builtin.List.listUpdate (.ref a) fun _ => (arrOf st).map (·.2)
        if let some e := failedOf st then rule "list.sort.comparison-raised"; throw e
        if touched then rule "list.sort.modified"; raiseError "ValueError" "list modified during sort"
        ret .none) P E { s with heap := ((s.heap.update a (Obj.mapSeq fun _ => #[])).push (seqObj "tuple" vs.toArray 0)).push (seqObj "list" #[] 0) } := fun p st hp hs ho2 hf => by
    have hz : (outOf vs p).size ≤ sizeLine + 1 := by
      rw [outOf_size (by rw [hp.size_eq]; simp), sizeLine_eq]; lia
    rw [ho2, hf]
    refine wpAny_bind (seqEpoch_at ho6 rfl (wpAny_bind (listUpdate_at ho6 rfl ?_ (hsz2 := hz))))
    simp only [bne_self_eq_false, Bool.false_eq_true, if_false]
    exact wpAny_pure (h p hp hs)
  by_cases h2 : vs.toArray.size < 2
  · rw [if_pos h2, if_pos h2]
    refine wpAny_bind (wpAny_pure ?_)
    rw [StateT.run_pure]
    refine wpAny_bind (wpAny_pure (fin (List.range vs.length).toArray _ (Array.Perm.refl _) (asc_few o.rf (by lia) _) ?_ rfl))
    rw [outOf_range]
    show ((vs.toArray.zip vs.toArray).map (·.2)) = vs.toArray
    apply Array.ext
    · simp
    · intro i h1 h2; simp
  · rw [if_neg h2, if_neg h2]
    refine wpAny_bind (K.kind _ _ _ _ (fun _ _ e => e) (by lia) ?_)
    refine wpAny_bind (wpAny_mono (kat_run (ks := vs) (vs := vs) (κ := κ) (G := fun p s' => s' = { s with heap := ((s.heap.update a (Obj.mapSeq fun _ => #[])).push (seqObj "tuple" vs.toArray 0)).push (seqObj "list" #[] 0) } ∧ p.Perm (List.range vs.length).toArray ∧ Asc le p vs.length)
      (Q := fun st s' => ∃ p : Array Nat, (arrOf st).map (·.2) = outOf vs p ∧ failedOf st = none ∧ s' = { s with heap := ((s.heap.update a (Obj.mapSeq fun _ => #[])).push (seqObj "tuple" vs.toArray 0)).push (seqObj "list" #[] 0) } ∧ p.Perm (List.range vs.length).toArray ∧ Asc le p vs.length)
      rfl (by lia) h64 (fun p st' s' hs har hf hG => ⟨p, kat_snds rfl har, hf, hG⟩) ?_) (fun r s' hr => ?_) fun _ _ e => e)
    · refine Pwp.wp lt vs.length (fun i j C hi hj hc => K.ask _ _ i j C (fun _ _ e => e) hi hj hc) (Pwp.mono _ _ (fun p hp => ⟨rfl, hp⟩) (sort_ok o (by lia)))
    · obtain ⟨p, e2, hf, rfl, hp, hs⟩ := hr
      exact fin p r.2 hp hs e2 hf
theorem sorted_by {l : Addr} {vs : List Value} {κ : SortKind} {lt : Nat → Nat → Bool} {le : Nat → Nat → Prop} {Q : Value → Shared → Prop} (o : Ord lt le) (hl : s.heap.IsList l vs.toArray) (h64 : vs.length < 64) (hk : Known prog w s vs κ lt)
    (h : ∀ p : Array Nat, p.Perm (List.range vs.length).toArray → Asc le p vs.length → Q (.ref (s.heap.objs.size + 1)) { s with heap := sortedAll s.heap vs (outOf vs p) }) : wpAny (model prog w) A (call (.builtin "sorted") [.ref l]) Q E s := by
  have hz : vs.length ≤ sizeLine := by rw [sizeLine_eq]; omega
  have sz : ((s.heap.push (seqObj "list" #[] 0)).update s.heap.objs.size (Obj.mapSeq (· ++ vs.toArray))).objs.size = s.heap.objs.size + 1 := by rw [Heap.size_update, size_push']
  have at1 : (((s.heap.push (seqObj "list" #[] 0)).update s.heap.objs.size (Obj.mapSeq (· ++ vs.toArray))).push (seqObj "list" vs.toArray 0)).get? (s.heap.objs.size + 1) = some (seqObj "list" vs.toArray 0) := by rw [← sz]; exact Heap.get?_push_size _ rfl
  have old : ∀ b q, s.heap.get? b = some q → b ≠ s.heap.objs.size + 1 ∧ (((s.heap.push (seqObj "list" #[] 0)).update s.heap.objs.size (Obj.mapSeq (· ++ vs.toArray))).push (seqObj "list" vs.toArray 0)).get? b = some q := fun b q e => by
    have hb := Heap.lt_size e
    refine ⟨Nat.ne_of_lt (Nat.lt_succ_of_lt hb), Heap.get?_push_of_some _ ?_⟩
    rw [Heap.get?_update_ne _ _ _ _ (Nat.ne_of_lt hb)]
    exact Heap.get?_push_of_some _ e
  refine Calls.call_function_entry kind_sorted plain_sorted entry_sorted (args_sorted1 (.ref l)) ?_; unfold Builtin.«sorted»
  refine wpAny_bind (m := checkCount "sorted" 1 1 _) (wpAny_pure (wpAny_bind (collect_list hl (wpAny_bind (wpAny_newList ?_ hz)) hz)))
  show wpAny (model prog w) _ _ _ _ { s with heap := ((s.heap.push (seqObj "list" #[] 0)).update s.heap.objs.size (Obj.mapSeq (· ++ vs.toArray))).push (seqObj "list" vs.toArray 0) }
  rw [sz]
  refine wpAny_bind (wpAny_holding (wpAny_call_entry slot_list_sort ⟨_, at1, rfl⟩ entry_list_sort (lsort_by (κ := κ) (le := le) o at1 h64 (fun h' kp => ?_) fun p hp hs => ⟨_, rfl, wpAny_pure ⟨_, rfl, h p hp hs⟩⟩) (args_list_sort _)))
  exact hk.on fun b q e => kp b q (old b q e).1 (old b q e).2
end
section
variable {prog : Program} {w : World} {A : Around} {E : Value → Shared → Prop} {s : Shared}
noncomputable def lexI : List Int → List Int → Bool
  | [], [] => false
  | [], _ :: _ => true
  | _ :: _, [] => false
  | x :: xs, y :: ys => if x = y then lexI xs ys else decide (x < y)
theorem lexI_irrefl : ∀ a : List Int, lexI a a = false
  | [] => rfl
  | x :: xs => by unfold lexI; rw [if_pos rfl]; exact lexI_irrefl xs
theorem lexI_asymm : ∀ a b : List Int, lexI a b = true → lexI b a = false
  | [], [], h => by unfold lexI at h; cases h
  | [], _ :: _, _ => by unfold lexI; rfl
  | _ :: _, [], h => by unfold lexI at h; cases h
  | x :: xs, y :: ys, h => by
    unfold lexI at h ⊢
    by_cases e : x = y
    · rw [if_pos e] at h; rw [if_pos e.symm]; exact lexI_asymm xs ys h
    · rw [if_neg e] at h
      rw [if_neg (Ne.symm e)]
      have := of_decide_eq_true h
      exact decide_eq_false (by lia)
theorem lexI_trans : ∀ a b c : List Int, lexI b a = false → lexI c b = false → lexI c a = false
  | [], _, [], _, _ => rfl
  | [], [], _ :: _, _, h => by unfold lexI at h; cases h <;> rfl
  | [], _ :: _, _ :: _, _, _ => by unfold lexI; rfl
  | _ :: _, [], _, h, _ => by unfold lexI at h; cases h
  | x :: xs, y :: ys, [], _, h => by unfold lexI at h; cases h
  | x :: xs, y :: ys, z :: zs, h1, h2 => by
    unfold lexI at h1 h2 ⊢
    by_cases e1 : y = x
    · rw [if_pos e1] at h1
      by_cases e2 : z = y
      · rw [if_pos e2] at h2
        rw [if_pos (e2.trans e1)]
        exact lexI_trans xs ys zs h1 h2
      · rw [if_neg e2] at h2
        rw [if_neg (by lia)]
        have := of_decide_eq_false h2
        exact decide_eq_false (by lia)
    · rw [if_neg e1] at h1
      have g1 := of_decide_eq_false h1
      by_cases e2 : z = y
      · rw [if_neg (by lia)]
        exact decide_eq_false (by lia)
      · rw [if_neg e2] at h2
        have g2 := of_decide_eq_false h2
        rw [if_neg (by lia)]
        exact decide_eq_false (by lia)
theorem lexI_ord (f : Nat → List Int) : Ord (fun i j => lexI (f i) (f j)) (fun i j => lexI (f j) (f i) = false) :=
  ⟨fun a b c h1 h2 => lexI_trans _ _ _ h1 h2, fun a => lexI_irrefl _, fun a b h => lexI_asymm _ _ h, fun a b h => h⟩
noncomputable def TupI (h : Heap) (v : Value) (ns : List Int) : Prop := ∃ a o xs n, v = .ref a ∧ h.get? a = some o ∧ o.cls = .type "tuple" ∧ o.data = .seq xs n ∧ IntsAre xs.toList ns
theorem lex_int : ∀ (xs ys : List Value) (ns ms : List Int) (i : Nat) (fin : Bool) (Q : Bool → Shared → Prop), IntsAre xs ns → IntsAre ys ms → (fin = decide (xs.length < ys.length)) → Q (lexI ns ms) s →
    KatLex prog w A true fin Q (xs.zip ys) i s := by
  intro xs
  induction xs with
  | nil =>
    intro ys ns ms i fin Q hx hy hf hq
    cases hx
    rw [List.zip_nil_left]
    show Q fin s
    rw [hf]
    cases hy with
    | nil => exact hq
    | cons b u ty => exact hq
  | cons x xs ih =>
    intro ys ns ms i fin Q hx hy hf hq
    cases hx with
    | cons a t tx =>
      cases hy with
      | nil =>
        rw [List.zip_nil_right]
        show Q fin s
        rw [hf]
        exact hq
      | @cons c u ys' ms' ty =>
        rw [List.zip_cons_cons]
        refine kat_cons ((SeqAt.EqAt.int_int a t c u) prog w _ _ ?_)
        unfold lexI at hq
        by_cases e : a = c
        · rw [if_pos e] at hq
          have eb : (a == c) = true := by simpa using e
          rw [eb]
          exact kat_yes (ih ys' _ ms' (i + 1) fin Q tx ty (by rw [hf]; simp) hq)
        · rw [if_neg e] at hq
          have eb : (a == c) = false := by simpa using e
          rw [eb]
          refine kat_no ?_
          cases q : i == 0 with
          | true => exact oneLt_int hq
          | false => exact kat_one _ _ (lt_int hq)
theorem known_tups {vs : List Value} {f : Nat → List Int} (hv : ∀ i, i < vs.length → TupI s.heap (vs.getD i Value.none) (f i) ∧ f i ≠ []) : Known prog w s vs (tuples' true) fun i j => lexI (f i) (f j) := by
  refine ⟨fun A E h' Q hk h2 hq => ?_, fun A h' i j C hk hi hj hc => ?_⟩
  · have hv' : ∀ v ∈ vs, ∃ n t rest a o xs k, v = .ref a ∧ h'.get? a = some o ∧ o.cls = .type "tuple" ∧ o.data = .seq xs k ∧ xs.toList = Value.int n t :: rest := fun v hm => by
      obtain ⟨i, hi, e⟩ := List.getElem_of_mem hm
      obtain ⟨⟨a, o, xs, k, e1, e2, e3, e4, e5⟩, ne⟩ := hv i hi
      have ev : vs.getD i Value.none = v := by rw [List.getD_eq_getElem?_getD, List.getElem?_eq_getElem hi]; exact e
      rw [ev] at e1
      revert e5 ne
      generalize f i = ns
      generalize ex : xs.toList = L
      intro ne e5
      cases e5 with
      | nil => exact absurd rfl ne
      | @cons n t vs' ns' tl => exact ⟨n, t, vs', a, o, xs, k, e1, hk _ _ e2, e3, e4, ex⟩
    have fs : ∀ L : List Value, (∀ v ∈ L, ∃ n t rest a o xs k, v = .ref a ∧ h'.get? a = some o ∧ o.cls = .type "tuple" ∧ o.data = .seq xs k ∧ xs.toList = Value.int n t :: rest) → ∃ gs, KatTups h' L gs ∧ gs.length = L.length ∧ ∀ v ∈ gs, ∃ n t, v = Value.int n t := by
      intro L
      induction L with
      | nil => exact fun _ => ⟨[], .nil, rfl, fun _ h => (by cases h)⟩
      | cons v L ih =>
        intro hL
        obtain ⟨gs, g1, g2, g3⟩ := ih fun u hu => hL u (List.mem_cons_of_mem _ hu)
        obtain ⟨n, t, rest, a, o, xs, k, rfl, e2, e3, e4, e5⟩ := hL v List.mem_cons_self
        refine ⟨.int n t :: gs, .cons e2 e3 e4 (by rw [← Array.getElem?_toList, e5]; rfl) g1, by rw [List.length_cons, List.length_cons, g2], fun u hu => ?_⟩
        rcases List.mem_cons.mp hu with rfl | hu
        · exact ⟨n, t, rfl⟩
        · exact g3 u hu
    obtain ⟨gs, g1, g2, g3⟩ := fs vs hv'
    refine kat_kind (s := { s with heap := h' }) (T := .type "int") g1 (by lia) (fun v hm => ?_) (by decide) hq
    obtain ⟨n, t, rfl⟩ := g3 v hm
    exact Looks.of_pure rfl
  · obtain ⟨⟨a, o, xs, k, e1, e2, e3, e4, e5⟩, _⟩ := hv i hi
    obtain ⟨⟨a', o', xs', k', e1', e2', e3', e4', e5'⟩, _⟩ := hv j hj
    unfold kas_ask
    rw [e1, e1']
    refine kat_lt (s := { s with heap := h' }) (hk _ _ e2) e4 (hk _ _ e2') e4' ?_
    refine lex_int (s := { s with heap := h' }) _ _ _ _ _ _ _ e5 e5' ?_ hc
    simp
end
end Srt
namespace L2
open PySem
noncomputable def rTuple (K : PySem.W.Frag) : List V → Hp → VK → Prop := fun xs H Q => ∃ p ys, xs = [.ref p] ∧ ((SqL K H p ys ∧ ∀ l, H l = none → Q (.ref l) (upd H l (.tup ys))) ∨ (SqT K H p ys ∧ Q (.ref p) H))
noncomputable def rMax2 : List V → Hp → VK → Prop := fun xs H Q => ∃ i j, xs = [.int i, .int j] ∧ Q (.int (if j > i then j else i)) H
noncomputable def rMin2 : List V → Hp → VK → Prop := fun xs H Q => ∃ i j, xs = [.int i, .int j] ∧ Q (.int (if j < i then j else i)) H
noncomputable def tTru (K : PySem.W.Frag) (ta : TE) : TT := fun σ H Q => ta σ H fun x H' => ∃ k, TruV K x H' k ∧ Q k H'
noncomputable def rSortedI (K : PySem.W.Frag) : List V → Hp → VK → Prop := fun xs H Q => ∃ p, ∃ ns : List Int, xs = [.ref p] ∧ SqL K H p (ns.map V.int) ∧ ns.length < 64 ∧
  ∀ (ms : List Int) l, ms.Perm ns → ms.Pairwise (· ≤ ·) → H l = none → Q (.ref l) (upd H l (.lst (ms.map V.int)))
noncomputable def iSeq (K : PySem.W.Frag) (tl : TE) : TI := fun σ H R => tl σ H fun x H1 => ∃ a, x = .ref a ∧ (((∃ xs, SqL K H1 a xs) ∧ R (Itl K a) H1) ∨ ((∃ xs, SqT K H1 a xs) ∧ R (Itt K a) H1))
end L2
namespace M
open PySem L2
inductive D where
  | non | bl (b : Bool) | int (i : Int) | str (x : Str) | ty (n : String) | lst (l : List D) | tup (l : List D) | scr (l : List D) | ins (N : Str) (ns : List Str) (l : List D)
  deriving Inhabited
theorem rd_mono {S S' : Hp} (s : Same S S') {a : Addr} {u : HO} (h : Rd S a u) : Rd S' a u := h.elim (fun e => .inl (s _ _ e)) fun ⟨o, e⟩ => .inr ⟨o, s _ _ e⟩
theorem sqL_mono {K : PySem.W.Frag} {S S' : Hp} (s : Same S S') {a : Addr} {xs : List V} (h : SqL K S a xs) : SqL K S' a xs := h.elim (fun e => .inl (rd_mono s e)) .inr
theorem sqT_mono {K : PySem.W.Frag} {S S' : Hp} (s : Same S S') {a : Addr} {xs : List V} (h : SqT K S a xs) : SqT K S' a xs := h.elim (fun e => .inl (rd_mono s e)) .inr
mutual
noncomputable def Den (K : PySem.W.Frag) (S : Hp) : D → V → Prop
  | .non, v => v = .non
  | .bl b, v => v = .bl b
  | .int i, v => v = .int i
  | .str x, v => v = .str x
  | .ty x, v => v = .ty x
  | .lst l, v => ∃ p xs, v = .ref p ∧ Rd S p (.lst xs) ∧ Dens K S l xs
  | .tup l, v => ∃ p xs, v = .ref p ∧ SqT K S p xs ∧ Dens K S l xs
  | .scr l, v => ∃ p xs, v = .ref p ∧ SqL K S p xs ∧ Dens K S l xs
  | .ins N ns l, v => ∃ p C dx fs, v = .ref p ∧ PySem.W.nsIn K mainGlobals N = some (some (.ref C)) ∧ S p = some (.ins C dx fs) ∧ fs.map (·.1) = ns ∧ Dens K S l (fs.map (·.2))
noncomputable def Dens (K : PySem.W.Frag) (S : Hp) : List D → List V → Prop
  | [], xs => xs = []
  | d :: ds, xs => ∃ y ys, xs = y :: ys ∧ Den K S d y ∧ Dens K S ds ys
end
section
variable {K : PySem.W.Frag} {S S' H H' : Hp}
theorem Dens.nil : Dens K S [] [] := by unfold Dens; rfl
theorem Dens.cons {d : D} {ds : List D} {y : V} {ys : List V} (h : Den K S d y) (k : Dens K S ds ys) : Dens K S (d :: ds) (y :: ys) := by unfold Dens; exact ⟨y, ys, rfl, h, k⟩
theorem Dens.nil_of {xs : List V} (h : Dens K S [] xs) : xs = [] := by unfold Dens at h; exact h
theorem Dens.cons_of {d : D} {ds : List D} {xs : List V} (h : Dens K S (d :: ds) xs) : ∃ y ys, xs = y :: ys ∧ Den K S d y ∧ Dens K S ds ys := by unfold Dens at h; exact h
theorem Dens.length : ∀ {ds : List D} {xs : List V}, Dens K S ds xs → ds.length = xs.length
  | [], _, h => by rw [h.nil_of]; rfl
  | _ :: _, _, h => by
    obtain ⟨y, ys, rfl, _, k⟩ := h.cons_of
    rw [List.length_cons, List.length_cons, k.length]
theorem Dens.append : ∀ {ds es : List D} {xs ys : List V}, Dens K S ds xs → Dens K S es ys → Dens K S (ds ++ es) (xs ++ ys)
  | [], _, _, _, h, k => by rw [h.nil_of]; exact k
  | _ :: _, _, _, _, h, k => by
    obtain ⟨y, ys, rfl, a, b⟩ := h.cons_of
    exact .cons a (b.append k)
theorem Dens.get : ∀ {ds : List D} {xs : List V} {i : Nat} {d : D}, Dens K S ds xs → ds[i]? = some d → ∃ x, xs[i]? = some x ∧ Den K S d x
  | [], _, _, _, _, e => by simp at e
  | _ :: _, _, 0, _, h, e => by
    obtain ⟨y, ys, rfl, a, b⟩ := h.cons_of
    simp at e; subst e
    exact ⟨y, rfl, a⟩
  | _ :: _, _, i + 1, _, h, e => by
    obtain ⟨y, ys, rfl, a, b⟩ := h.cons_of
    obtain ⟨x, e1, h1⟩ := b.get (i := i) (by simpa using e)
    exact ⟨x, by simpa using e1, h1⟩
theorem Dens.set : ∀ {ds : List D} {xs : List V} {d : D} {x : V} (i : Nat), Dens K S ds xs → Den K S d x → Dens K S (ds.set i d) (xs.set i x)
  | [], _, _, _, _, h, _ => by rw [h.nil_of]; exact .nil
  | _ :: _, _, _, _, 0, h, k => by
    obtain ⟨y, ys, rfl, a, b⟩ := h.cons_of
    exact .cons k b
  | _ :: _, _, _, _, i + 1, h, k => by
    obtain ⟨y, ys, rfl, a, b⟩ := h.cons_of
    exact .cons a (b.set i k)
theorem Dens.take : ∀ {ds : List D} {xs : List V} (i : Nat), Dens K S ds xs → Dens K S (ds.take i) (xs.take i)
  | [], _, _, h => by rw [h.nil_of]; simp; exact .nil
  | _ :: _, _, 0, h => by simp; exact .nil
  | _ :: _, _, i + 1, h => by
    obtain ⟨y, ys, rfl, a, b⟩ := h.cons_of
    exact .cons a (b.take i)
theorem Dens.drop : ∀ {ds : List D} {xs : List V} (i : Nat), Dens K S ds xs → Dens K S (ds.drop i) (xs.drop i)
  | [], _, _, h => by rw [h.nil_of]; simp; exact .nil
  | _ :: _, _, 0, h => h
  | _ :: _, _, i + 1, h => by
    obtain ⟨y, ys, rfl, a, b⟩ := h.cons_of
    exact b.drop i
mutual
theorem Den.mono (s : Same S S') : ∀ {d : D} {v : V}, Den K S d v → Den K S' d v
  | .non, _, h => by unfold Den at *; exact h
  | .bl _, _, h => by unfold Den at *; exact h
  | .int _, _, h => by unfold Den at *; exact h
  | .str _, _, h => by unfold Den at *; exact h
  | .ty _, _, h => by unfold Den at *; exact h
  | .lst _, _, h => by
    unfold Den at *
    obtain ⟨p, xs, e, h1, h2⟩ := h
    exact ⟨p, xs, e, rd_mono s h1, Dens.mono s h2⟩
  | .tup _, _, h => by
    unfold Den at *
    obtain ⟨p, xs, e, h1, h2⟩ := h
    exact ⟨p, xs, e, sqT_mono s h1, Dens.mono s h2⟩
  | .scr _, _, h => by
    unfold Den at *
    obtain ⟨p, xs, e, h1, h2⟩ := h
    exact ⟨p, xs, e, sqL_mono s h1, Dens.mono s h2⟩
  | .ins _ _ _, _, h => by
    unfold Den at *
    obtain ⟨p, C, dx, fs, e, h0, h1, h2, h3⟩ := h
    exact ⟨p, C, dx, fs, e, h0, s _ _ h1, h2, Dens.mono s h3⟩
theorem Dens.mono (s : Same S S') : ∀ {ds : List D} {xs : List V}, Dens K S ds xs → Dens K S' ds xs
  | [], _, h => by rw [h.nil_of]; exact .nil
  | _ :: _, _, h => by
    obtain ⟨y, ys, rfl, a, b⟩ := h.cons_of
    exact .cons (Den.mono s a) (Dens.mono s b)
end
theorem den_int {i : Int} {v : V} : Den K S (.int i) v ↔ v = .int i := by unfold Den; exact Iff.rfl
theorem den_bl {b : Bool} {v : V} : Den K S (.bl b) v ↔ v = .bl b := by unfold Den; exact Iff.rfl
theorem den_non {v : V} : Den K S .non v ↔ v = .non := by unfold Den; exact Iff.rfl
theorem den_str {x : Str} {v : V} : Den K S (.str x) v ↔ v = .str x := by unfold Den; exact Iff.rfl
theorem den_ty {x : String} {v : V} : Den K S (.ty x) v ↔ v = .ty x := by unfold Den; exact Iff.rfl
theorem den_tup {l : List D} {v : V} : Den K S (.tup l) v ↔ ∃ p xs, v = .ref p ∧ SqT K S p xs ∧ Dens K S l xs := by
  constructor
  · intro h; unfold Den at h; exact h
  · intro h; unfold Den; exact h
theorem den_lst {l : List D} {v : V} : Den K S (.lst l) v ↔ ∃ p xs, v = .ref p ∧ Rd S p (.lst xs) ∧ Dens K S l xs := by
  constructor
  · intro h; unfold Den at h; exact h
  · intro h; unfold Den; exact h
theorem den_scr {l : List D} {v : V} : Den K S (.scr l) v ↔ ∃ p xs, v = .ref p ∧ SqL K S p xs ∧ Dens K S l xs := by
  constructor
  · intro h; unfold Den at h; exact h
  · intro h; unfold Den; exact h
theorem den_ins {N : Str} {ns : List Str} {l : List D} {v : V} : Den K S (.ins N ns l) v ↔ ∃ p C dx fs, v = .ref p ∧ PySem.W.nsIn K mainGlobals N = some (some (.ref C)) ∧ S p = some (.ins C dx fs) ∧ fs.map (·.1) = ns ∧ Dens K S l (fs.map (·.2)) := by
  constructor
  · intro h; unfold Den at h; exact h
  · intro h; unfold Den; exact h
noncomputable def DenP (K : PySem.W.Frag) (S H : Hp) (d : D) (v : V) : Prop := Den K S d v ∨ ∃ l p xs, d = .lst l ∧ v = .ref p ∧ H p = some (.lst xs) ∧ Dens K S l xs
theorem Den.p {d : D} {v : V} (h : Den K S d v) : DenP K S H d v := .inl h
theorem DenP.lst {l : List D} {v : V} (s : Same S H) (h : DenP K S H (.lst l) v) : ∃ p xs, v = .ref p ∧ Rd H p (.lst xs) ∧ Dens K S l xs := by
  rcases h with h | ⟨l', p, xs, e, e1, e2, e3⟩
  · obtain ⟨p, xs, e, e1, e2⟩ := den_lst.mp h
    exact ⟨p, xs, e, rd_mono s e1, e2⟩
  · cases e
    exact ⟨p, xs, e1, .inl e2, e3⟩
theorem DenP.tup {l : List D} {v : V} (s : Same S H) (h : DenP K S H (.tup l) v) : ∃ p xs, v = .ref p ∧ SqT K H p xs ∧ Dens K S l xs := by
  rcases h with h | ⟨l', p, xs, e, e1, e2, e3⟩
  · obtain ⟨p, xs, e, e1, e2⟩ := den_tup.mp h
    exact ⟨p, xs, e, sqT_mono s e1, e2⟩
  · cases e
theorem DenP.scr {l : List D} {v : V} (s : Same S H) (h : DenP K S H (.scr l) v) : ∃ p xs, v = .ref p ∧ SqL K H p xs ∧ Dens K S l xs := by
  rcases h with h | ⟨l', p, xs, e, e1, e2, e3⟩
  · obtain ⟨p, xs, e, e1, e2⟩ := den_scr.mp h
    exact ⟨p, xs, e, sqL_mono s e1, e2⟩
  · cases e
theorem DenP.int {i : Int} {v : V} (h : DenP K S H (.int i) v) : v = .int i := by
  rcases h with h | ⟨l', p, xs, e, _⟩
  · exact den_int.mp h
  · cases e
theorem DenP.bl {i : Bool} {v : V} (h : DenP K S H (.bl i) v) : v = .bl i := by
  rcases h with h | ⟨l', p, xs, e, _⟩
  · exact den_bl.mp h
  · cases e
theorem DenP.str {i : Str} {v : V} (h : DenP K S H (.str i) v) : v = .str i := by
  rcases h with h | ⟨l', p, xs, e, _⟩
  · exact den_str.mp h
  · cases e
theorem DenP.non {v : V} (h : DenP K S H .non v) : v = .non := by
  rcases h with h | ⟨l', p, xs, e, _⟩
  · exact den_non.mp h
  · cases e
theorem DenP.ty {i : String} {v : V} (h : DenP K S H (.ty i) v) : v = .ty i := by
  rcases h with h | ⟨l', p, xs, e, _⟩
  · exact den_ty.mp h
  · cases e
structure Ext (S H S' H' : Hp) : Prop where
  sh : Same S S'
  sub : Same S' H'
  al : ∀ b o, H b = some o → S b = none → H' b = some o ∧ S' b = none
theorem Ext.refl (h : Same S H) : Ext S H S H := ⟨Same.refl _, h, fun _ _ h n => ⟨h, n⟩⟩
theorem Ext.trans {S1 H1 S2 H2 : Hp} (a : Ext S H S1 H1) (b : Ext S1 H1 S2 H2) : Ext S H S2 H2 := ⟨a.sh.trans b.sh, b.sub, fun c o h n => b.al c o (a.al c o h n).1 (a.al c o h n).2⟩
theorem Ext.same (a : Ext S H S' H') (s : Same S H) : Same H H' := fun b o h => by
  cases q : S b with
  | none => exact (a.al b o h q).1
  | some u =>
    have := s b u q
    rw [h] at this
    cases this
    exact a.sub b o (a.sh b o q)
theorem Ext.new (s : Same S H) {p : Addr} {o : HO} (h : H p = none) : Ext S H (upd S p o) (upd H p o) where
  sh := fun b u e => by rw [upd_ne (ne_of_none e (s.free h))]; exact e
  sub := fun b u e => by
    by_cases hb : b = p
    · subst hb; rw [upd_same] at e ⊢; exact e
    · rw [upd_ne hb] at e ⊢; exact s b u e
  al := fun b u e n => by
    have hb := ne_of_none e h
    rw [upd_ne hb, upd_ne hb]
    exact ⟨e, n⟩
theorem Ext.own (s : Same S H) {p : Addr} {o : HO} (h : H p = none) : Ext S H S (upd H p o) where
  sh := Same.refl _
  sub := fun b u e => by rw [upd_ne (ne_of_none (s b u e) h)]; exact s b u e
  al := fun b u e n => by
    have hb := ne_of_none e h
    rw [upd_ne hb]
    exact ⟨e, n⟩
theorem DenP.mono {d : D} {v : V} (e : Ext S H S' H') (s : Same S H) (h : DenP K S H d v) : DenP K S' H' d v := by
  rcases h with h | ⟨l, p, xs, h1, h2, h3, h4⟩
  · exact .inl (h.mono e.sh)
  · exact .inr ⟨l, p, xs, h1, h2, e.same s _ _ h3, h4.mono e.sh⟩
inductive DensP (K : PySem.W.Frag) (S H : Hp) : List D → List V → Prop where
  | nil : DensP K S H [] []
  | cons {d ds v vs} : DenP K S H d v → DensP K S H ds vs → DensP K S H (d :: ds) (v :: vs)
inductive O where
  | sh (d : D) | lst (l : List O) | tup (l : List O)
  deriving Inhabited
mutual
noncomputable def O.d : O → D
  | .sh d => d
  | .lst l => .lst (O.ds l)
  | .tup l => .tup (O.ds l)
noncomputable def O.ds : List O → List D
  | [] => []
  | o :: l => o.d :: O.ds l
end
mutual
noncomputable def Own (K : PySem.W.Frag) (S H : Hp) : O → V → List Addr → Prop
  | .sh d, v, fp => fp = [] ∧ Den K S d v
  | .lst l, v, fp => ∃ a xs f, v = .ref a ∧ fp = a :: f ∧ H a = some (.lst xs) ∧ Owns K S H l xs f
  | .tup l, v, fp => ∃ a xs f, v = .ref a ∧ fp = a :: f ∧ H a = some (.tup xs) ∧ Owns K S H l xs f
noncomputable def Owns (K : PySem.W.Frag) (S H : Hp) : List O → List V → List Addr → Prop
  | [], xs, fp => xs = [] ∧ fp = []
  | o :: l, xs, fp => ∃ y ys f g, xs = y :: ys ∧ fp = f ++ g ∧ Own K S H o y f ∧ Owns K S H l ys g
end
theorem own_sh {d : D} {v : V} {fp : List Addr} : Own K S H (.sh d) v fp ↔ fp = [] ∧ Den K S d v := by unfold Own; exact Iff.rfl
theorem own_lst {l : List O} {v : V} {fp : List Addr} : Own K S H (.lst l) v fp ↔ ∃ a xs f, v = .ref a ∧ fp = a :: f ∧ H a = some (.lst xs) ∧ Owns K S H l xs f := by
  constructor
  · intro h; unfold Own at h; exact h
  · intro h; unfold Own; exact h
theorem own_tup {l : List O} {v : V} {fp : List Addr} : Own K S H (.tup l) v fp ↔ ∃ a xs f, v = .ref a ∧ fp = a :: f ∧ H a = some (.tup xs) ∧ Owns K S H l xs f := by
  constructor
  · intro h; unfold Own at h; exact h
  · intro h; unfold Own; exact h
theorem Owns.nil : Owns K S H [] [] [] := by unfold Owns; exact ⟨rfl, rfl⟩
theorem Owns.cons {o : O} {l : List O} {y : V} {ys : List V} {f g : List Addr} (h : Own K S H o y f) (k : Owns K S H l ys g) : Owns K S H (o :: l) (y :: ys) (f ++ g) := by unfold Owns; exact ⟨y, ys, f, g, rfl, rfl, h, k⟩
theorem Owns.nil_of {xs : List V} {fp : List Addr} (h : Owns K S H [] xs fp) : xs = [] ∧ fp = [] := by unfold Owns at h; exact h
theorem Owns.cons_of {o : O} {l : List O} {xs : List V} {fp : List Addr} (h : Owns K S H (o :: l) xs fp) : ∃ y ys f g, xs = y :: ys ∧ fp = f ++ g ∧ Own K S H o y f ∧ Owns K S H l ys g := by unfold Owns at h; exact h
theorem Owns.length : ∀ {l : List O} {xs : List V} {fp : List Addr}, Owns K S H l xs fp → l.length = xs.length
  | [], _, _, h => by rw [h.nil_of.1]; rfl
  | _ :: _, _, _, h => by
    obtain ⟨y, ys, f, g, rfl, rfl, _, k⟩ := h.cons_of
    rw [List.length_cons, List.length_cons, k.length]
theorem Owns.append : ∀ {l m : List O} {xs ys : List V} {f g : List Addr}, Owns K S H l xs f → Owns K S H m ys g → Owns K S H (l ++ m) (xs ++ ys) (f ++ g)
  | [], _, _, _, _, _, h, k => by rw [h.nil_of.1, h.nil_of.2]; exact k
  | _ :: _, _, _, _, _, _, h, k => by
    obtain ⟨y, ys, f, g, rfl, rfl, a, b⟩ := h.cons_of
    rw [List.append_assoc]
    exact .cons a (b.append k)
theorem owns_sh : ∀ {ds : List D} {xs : List V}, Dens K S ds xs → Owns K S H (ds.map .sh) xs []
  | [], _, h => by rw [h.nil_of]; exact .nil
  | _ :: _, _, h => by
    obtain ⟨y, ys, rfl, a, b⟩ := h.cons_of
    exact .cons (f := []) (own_sh.mpr ⟨rfl, a⟩) (owns_sh b)
theorem of_owns_sh : ∀ {ds : List D} {xs : List V} {fp : List Addr}, Owns K S H (ds.map .sh) xs fp → Dens K S ds xs ∧ fp = []
  | [], _, _, h => by rw [h.nil_of.1, h.nil_of.2]; exact ⟨.nil, rfl⟩
  | _ :: _, _, _, h => by
    obtain ⟨y, ys, f, g, rfl, rfl, a, b⟩ := h.cons_of
    obtain ⟨e, a⟩ := own_sh.mp a
    obtain ⟨b, e2⟩ := of_owns_sh b
    exact ⟨.cons a b, by rw [e, e2]; rfl⟩
mutual
theorem Own.mono (s : Same S S') : ∀ {o : O} {v : V} {fp : List Addr}, (∀ b ∈ fp, H' b = H b) → Own K S H o v fp → Own K S' H' o v fp
  | .sh _, _, _, k, h => by
    obtain ⟨e, d⟩ := own_sh.mp h
    exact own_sh.mpr ⟨e, d.mono s⟩
  | .lst _, _, _, k, h => by
    obtain ⟨a, xs, f, e, rfl, h1, h2⟩ := own_lst.mp h
    exact own_lst.mpr ⟨a, xs, f, e, rfl, by rw [k a List.mem_cons_self]; exact h1, Owns.mono s (fun b hb => k b (List.mem_cons_of_mem _ hb)) h2⟩
  | .tup _, _, _, k, h => by
    obtain ⟨a, xs, f, e, rfl, h1, h2⟩ := own_tup.mp h
    exact own_tup.mpr ⟨a, xs, f, e, rfl, by rw [k a List.mem_cons_self]; exact h1, Owns.mono s (fun b hb => k b (List.mem_cons_of_mem _ hb)) h2⟩
theorem Owns.mono (s : Same S S') : ∀ {l : List O} {xs : List V} {fp : List Addr}, (∀ b ∈ fp, H' b = H b) → Owns K S H l xs fp → Owns K S' H' l xs fp
  | [], _, _, k, h => by rw [h.nil_of.1, h.nil_of.2]; exact .nil
  | _ :: _, _, _, k, h => by
    obtain ⟨y, ys, f, g, rfl, rfl, a, b⟩ := h.cons_of
    exact .cons (Own.mono s (fun b hb => k b (List.mem_append_left _ hb)) a) (Owns.mono s (fun b hb => k b (List.mem_append_right _ hb)) b)
end
mutual
theorem Own.there : ∀ {o : O} {v : V} {fp : List Addr}, Own K S H o v fp → ∀ b ∈ fp, H b ≠ none
  | .sh _, _, _, h => by
    obtain ⟨e, d⟩ := own_sh.mp h
    rw [e]; intro b hb; cases hb
  | .lst _, _, _, h => by
    obtain ⟨a, xs, f, e, rfl, h1, h2⟩ := own_lst.mp h
    intro b hb
    rcases List.mem_cons.mp hb with rfl | hb
    · rw [h1]; exact fun z => by cases z
    · exact Owns.there h2 b hb
  | .tup _, _, _, h => by
    obtain ⟨a, xs, f, e, rfl, h1, h2⟩ := own_tup.mp h
    intro b hb
    rcases List.mem_cons.mp hb with rfl | hb
    · rw [h1]; exact fun z => by cases z
    · exact Owns.there h2 b hb
theorem Owns.there : ∀ {l : List O} {xs : List V} {fp : List Addr}, Owns K S H l xs fp → ∀ b ∈ fp, H b ≠ none
  | [], _, _, h => by rw [h.nil_of.2]; intro b hb; cases hb
  | _ :: _, _, _, h => by
    obtain ⟨y, ys, f, g, rfl, rfl, a, b⟩ := h.cons_of
    intro c hc
    rcases List.mem_append.mp hc with hc | hc
    · exact Own.there a c hc
    · exact Owns.there b c hc
end
mutual
theorem Own.den {S2 : Hp} (s : Same S S2) : ∀ {o : O} {v : V} {fp : List Addr}, (∀ b ∈ fp, S2 b = H b) → Own K S H o v fp → Den K S2 o.d v
  | .sh _, _, _, k, h => by
    obtain ⟨e, d⟩ := own_sh.mp h
    exact d.mono s
  | .lst l, _, _, k, h => by
    obtain ⟨a, xs, f, e, rfl, h1, h2⟩ := own_lst.mp h
    rw [O.d]
    exact den_lst.mpr ⟨a, xs, e, .inl (by rw [k a List.mem_cons_self]; exact h1), Owns.den s (fun b hb => k b (List.mem_cons_of_mem _ hb)) h2⟩
  | .tup l, _, _, k, h => by
    obtain ⟨a, xs, f, e, rfl, h1, h2⟩ := own_tup.mp h
    rw [O.d]
    exact den_tup.mpr ⟨a, xs, e, SqT.of (by rw [k a List.mem_cons_self]; exact h1), Owns.den s (fun b hb => k b (List.mem_cons_of_mem _ hb)) h2⟩
theorem Owns.den {S2 : Hp} (s : Same S S2) : ∀ {l : List O} {xs : List V} {fp : List Addr}, (∀ b ∈ fp, S2 b = H b) → Owns K S H l xs fp → Dens K S2 (O.ds l) xs
  | [], _, _, k, h => by rw [h.nil_of.1, O.ds]; exact .nil
  | _ :: _, _, _, k, h => by
    obtain ⟨y, ys, f, g, rfl, rfl, a, b⟩ := h.cons_of
    rw [O.ds]
    exact .cons (Own.den s (fun b hb => k b (List.mem_append_left _ hb)) a) (Owns.den s (fun b hb => k b (List.mem_append_right _ hb)) b)
end
theorem Own.denH {o : O} {v : V} {fp : List Addr} (s : Same S H) (h : Own K S H o v fp) : Den K H o.d v := h.den s fun _ _ => rfl
theorem Ext.keeps {fp : List Addr} (e : Ext S H S' H') (h : ∀ b ∈ fp, S b = none) (t : ∀ b ∈ fp, H b ≠ none) : (∀ b ∈ fp, H' b = H b) ∧ ∀ b ∈ fp, S' b = none := by
  have key : ∀ b ∈ fp, H' b = H b ∧ S' b = none := fun b hb => by
    cases q : H b with
    | none => exact absurd q (t b hb)
    | some o => exact e.al b o q (h b hb)
  exact ⟨fun b hb => (key b hb).1, fun b hb => (key b hb).2⟩
inductive Sl where
  | un | lo | sh (d : D) | ow (o : O)
  deriving Inhabited
noncomputable abbrev Env := List Sl
structure RlF (K : PySem.W.Frag) (A : Hp) (Λ : Nat → Option Addr) (Φ : Nat → List Addr) (ρ : Env) (σ : St) (S H : Hp) : Prop where
  len : σ.length = ρ.length
  sub : Same S H
  sh : ∀ (i : Nat) d, ρ[i]? = some (.sh d) → ∃ v, σ[i]? = some (some v) ∧ Den K S d v
  ow : ∀ (i : Nat) o, ρ[i]? = some (.ow o) → ∃ v, σ[i]? = some (some v) ∧ Own K S H o v (Φ i) ∧ (Φ i).Nodup ∧ ∀ b ∈ Φ i, S b = none ∧ A b = none
  dj : ∀ (i j : Nat) o o', i ≠ j → ρ[i]? = some (.ow o) → ρ[j]? = some (.ow o') → ∀ b ∈ Φ i, b ∉ Φ j
  lo : ∀ (i : Nat), ρ[i]? = some .lo → ∃ a, Λ i = some a ∧ σ[i]? = some (some (.ref a))
  asub : Same A H
  adis : ∀ b, S b = none ∨ A b = none
noncomputable def RlA (K : PySem.W.Frag) (A : Hp) (Λ : Nat → Option Addr) (ρ : Env) (σ : St) (S H : Hp) : Prop := ∃ Φ, RlF K A Λ Φ ρ σ S H
noncomputable def Rl (K : PySem.W.Frag) (ρ : Env) (σ : St) (S H : Hp) : Prop := ∃ A Λ Φ, RlF K A Λ Φ ρ σ S H
theorem RlF.ext {A : Hp} {Λ : Nat → Option Addr} {Φ : Nat → List Addr} {ρ : Env} {σ : St} (r : RlF K A Λ Φ ρ σ S H) (e : Ext S H S' H') : RlF K A Λ Φ ρ σ S' H' where
  len := r.len
  sub := e.sub
  sh := fun i d h => by
    obtain ⟨v, h1, h2⟩ := r.sh i d h
    exact ⟨v, h1, h2.mono e.sh⟩
  ow := fun i o h => by
    obtain ⟨v, h1, h2, h3, h4⟩ := r.ow i o h
    obtain ⟨k1, k2⟩ := e.keeps (fun b hb => (h4 b hb).1) h2.there
    exact ⟨v, h1, h2.mono e.sh k1, h3, fun b hb => ⟨k2 b hb, (h4 b hb).2⟩⟩
  dj := r.dj
  lo := r.lo
  asub := fun b o h => e.same r.sub b o (r.asub b o h)
  adis := fun b => by
    rcases r.adis b with h | h
    · cases q : A b with
      | none => exact .inr rfl
      | some o => exact .inl (e.al b o (r.asub b o q) h).2
    · exact .inr h
theorem RlA.ext {A : Hp} {Λ : Nat → Option Addr} {ρ : Env} {σ : St} (r : RlA K A Λ ρ σ S H) (e : Ext S H S' H') : RlA K A Λ ρ σ S' H' := let ⟨Φ, f⟩ := r; ⟨Φ, f.ext e⟩
theorem RlA.toRl {A : Hp} {Λ : Nat → Option Addr} {ρ : Env} {σ : St} (r : RlA K A Λ ρ σ S H) : Rl K ρ σ S H := let ⟨Φ, f⟩ := r; ⟨A, Λ, Φ, f⟩
theorem RlA.sub {A : Hp} {Λ : Nat → Option Addr} {ρ : Env} {σ : St} (r : RlA K A Λ ρ σ S H) : Same S H := let ⟨_, f⟩ := r; f.sub
theorem RlA.asub {A : Hp} {Λ : Nat → Option Addr} {ρ : Env} {σ : St} (r : RlA K A Λ ρ σ S H) : Same A H := let ⟨_, f⟩ := r; f.asub
theorem RlA.adis {A : Hp} {Λ : Nat → Option Addr} {ρ : Env} {σ : St} (r : RlA K A Λ ρ σ S H) : ∀ b, S b = none ∨ A b = none := let ⟨_, f⟩ := r; f.adis
theorem RlA.sh {A : Hp} {Λ : Nat → Option Addr} {ρ : Env} {σ : St} (r : RlA K A Λ ρ σ S H) : ∀ (i : Nat) d, ρ[i]? = some (.sh d) → ∃ v, σ[i]? = some (some v) ∧ Den K S d v := let ⟨_, f⟩ := r; f.sh
theorem Rl.ext {ρ : Env} {σ : St} (r : Rl K ρ σ S H) (e : Ext S H S' H') : Rl K ρ σ S' H' := let ⟨A, Λ, Φ, f⟩ := r; ⟨A, Λ, Φ, f.ext e⟩
theorem Rl.sub {ρ : Env} {σ : St} (r : Rl K ρ σ S H) : Same S H := let ⟨_, _, _, f⟩ := r; f.sub
theorem Rl.sh {ρ : Env} {σ : St} (r : Rl K ρ σ S H) : ∀ (i : Nat) d, ρ[i]? = some (.sh d) → ∃ v, σ[i]? = some (some v) ∧ Den K S d v := let ⟨_, _, _, f⟩ := r; f.sh
theorem Rl.ow {ρ : Env} {σ : St} (r : Rl K ρ σ S H) : ∀ (i : Nat) o, ρ[i]? = some (.ow o) → ∃ v fp, σ[i]? = some (some v) ∧ Own K S H o v fp ∧ fp.Nodup ∧ ∀ b ∈ fp, S b = none := fun i o h => by
  obtain ⟨A, Λ, Φ, f⟩ := r
  obtain ⟨v, h1, h2, h3, h4⟩ := f.ow i o h
  exact ⟨v, _, h1, h2, h3, fun b hb => (h4 b hb).1⟩
noncomputable abbrev XE := Env → Option D
noncomputable abbrev XT := Env → Option Bool
noncomputable abbrev XA := Env → Option (List D)
noncomputable def SE (K : PySem.W.Frag) (t : TE) (e : XE) : Prop := ∀ ρ σ S H (Q : VK) d, Rl K ρ σ S H → e ρ = some d → (∀ v S' H', Ext S H S' H' → Den K S' d v → Q v H') → t σ H Q
noncomputable def SPk (K : PySem.W.Frag) (t : TE) (e : XE) : Prop := ∀ ρ σ S H (Q : VK) d, Rl K ρ σ S H → e ρ = some d → (∀ v S' H', Ext S H S' H' → DenP K S' H' d v → Q v H') → t σ H Q
noncomputable def SF (K : PySem.W.Frag) (t : TE) (e : XA) : Prop := ∀ ρ σ S H (Q : VK) l, Rl K ρ σ S H → e ρ = some l → (∀ a xs S' H', Ext S H S' H' → H a = none → S' a = none → H' a = some (.lst xs) → Dens K S' l xs → Q (.ref a) H') → t σ H Q
noncomputable def ST (K : PySem.W.Frag) (t : TT) (c : XT) : Prop := ∀ ρ σ S H (Q : Bool → Hp → Prop) b, Rl K ρ σ S H → c ρ = some b → (∀ S' H', Ext S H S' H' → Q b H') → t σ H Q
noncomputable def SA (K : PySem.W.Frag) (t : TA) (e : XA) : Prop := ∀ ρ σ S H (Q : List V → Hp → Prop) ds, Rl K ρ σ S H → e ρ = some ds → (∀ vs S' H', Ext S H S' H' → Dens K S' ds vs → Q vs H') → t σ H Q
noncomputable def SAP (K : PySem.W.Frag) (t : TA) (e : XA) : Prop := ∀ ρ σ S H (Q : List V → Hp → Prop) ds, Rl K ρ σ S H → e ρ = some ds → (∀ vs S' H', Ext S H S' H' → DensP K S' H' ds vs → Q vs H') → t σ H Q
theorem SE.p {t : TE} {e : XE} (h : SE K t e) : SPk K t e := fun ρ σ S H Q d r x k => h ρ σ S H Q d r x fun v S' H' z dv => k v S' H' z (.inl dv)
@[simp] noncomputable def xL (e : XA) : XE := fun ρ => (e ρ).map D.lst
theorem SF.e {t : TE} {e : XA} (h : SF K t e) : SE K t (xL e) := fun ρ σ S H Q d r x k => by
  unfold xL at x
  cases q : e ρ with
  | none => rw [q] at x; cases x
  | some l =>
    rw [q] at x
    cases x
    refine h ρ σ S H Q l r q fun a xs S' H' z h1 h2 h3 h4 => ?_
    have s2 : Same S' (upd S' a (.lst xs)) := fun b u e => by rw [upd_ne (ne_of_none e h2)]; exact e
    refine k _ (upd S' a (.lst xs)) H' ⟨z.sh.trans s2, fun b u e => ?_, fun b o e n => ?_⟩ (den_lst.mpr ⟨a, xs, rfl, .inl upd_same, h4.mono s2⟩)
    · by_cases hb : b = a
      · subst hb; rw [upd_same] at e; cases e; exact h3
      · rw [upd_ne hb] at e; exact z.sub b u e
    · obtain ⟨y1, y2⟩ := z.al b o e n
      exact ⟨y1, by rw [upd_ne (ne_of_none e h1)]; exact y2⟩
@[simp] noncomputable def xVar (i : Nat) : XE := fun ρ => match ρ[i]? with | some (.sh d) => some d | _ => none
noncomputable def shs : List O → Option (List D)
  | [] => some []
  | .sh d :: l => (shs l).map fun r => d :: r
  | _ => none
theorem shs_map : ∀ l : List D, shs (l.map .sh) = some l
  | [] => rfl
  | d :: l => by rw [List.map_cons, shs, shs_map l]; rfl
theorem of_shs : ∀ {os : List O} {l : List D}, shs os = some l → os = l.map .sh
  | [], l, h => by cases h; rfl
  | o :: os, l, h => by
    cases o with
    | sh d =>
      have h' : (shs os).map (fun r => d :: r) = some l := h
      cases q : shs os with
      | none => rw [q] at h'; cases h'
      | some m => rw [q] at h'; cases h'; rw [of_shs q]; rfl
    | lst _ => cases h
    | tup _ => cases h
noncomputable def peek : Sl → Option D
  | .sh d => some d
  | .ow (.lst os) => (shs os).map D.lst
  | _ => none
@[simp] theorem peek_sh (d : D) : peek (.sh d) = some d := rfl
@[simp] theorem peek_ow (l : List D) : peek (.ow (.lst (l.map .sh))) = some (.lst l) := by show (shs _).map D.lst = _; rw [shs_map]; rfl
@[simp] noncomputable def xVarP (i : Nat) : XE := fun ρ => (ρ[i]?).bind peek
theorem s_var (i : Nat) : SE K (tVar i) (xVar i) := fun ρ σ S H Q d r x k => by
  unfold xVar at x
  split at x
  · rename_i d' e
    cases x
    obtain ⟨v, h1, h2⟩ := r.sh i _ e
    exact ⟨v, h1, k v S H (Ext.refl r.sub) h2⟩
  · cases x
theorem s_varP (i : Nat) : SPk K (tVar i) (xVarP i) := fun ρ σ S H Q d r x k => by
  unfold xVarP at x
  cases q : ρ[i]? with
  | none => rw [q] at x; cases x
  | some s =>
    rw [q] at x
    cases s with
    | un => cases x
    | lo => cases x
    | sh d' =>
      cases x
      obtain ⟨v, h1, h2⟩ := r.sh i _ q
      exact ⟨v, h1, k v S H (Ext.refl r.sub) (.inl h2)⟩
    | ow o =>
      cases o with
      | sh d' => cases x
      | tup l => cases x
      | lst os =>
        have x' : (shs os).map D.lst = some d := x
        cases qs : shs os with
        | none => rw [qs] at x'; cases x'
        | some l =>
          rw [qs] at x'
          cases x'
          have e := of_shs qs
          subst e
          obtain ⟨v, fp, h1, h2, h3, h4⟩ := r.ow i _ q
          obtain ⟨a, xs, f, rfl, rfl, h5, h6⟩ := own_lst.mp h2
          exact ⟨_, h1, k _ S H (Ext.refl r.sub) (.inr ⟨l, a, xs, rfl, rfl, h5, (of_owns_sh h6).1⟩)⟩
noncomputable def SQ (K : PySem.W.Frag) (t : TE) (e : XE) : Prop := ∀ ρ σ S H (Q : VK) d, Rl K ρ σ S H → e ρ = some d → (∀ v S' H', Ext S H S' H' → Den K H' d v → Q v H') → t σ H Q
theorem denP_H {d : D} {v : V} (s : Same S H) (h : DenP K S H d v) : Den K H d v := by
  rcases h with h | ⟨l, p, xs, rfl, rfl, h1, h2⟩
  · exact h.mono s
  · exact den_lst.mpr ⟨p, xs, rfl, .inl h1, h2.mono s⟩
theorem SPk.q {t : TE} {e : XE} (h : SPk K t e) : SQ K t e := fun ρ σ S H Q d r x k => h ρ σ S H Q d r x fun v S' H' z dv => k v S' H' z (denP_H z.sub dv)
noncomputable def peekQ : Sl → Option D
  | .sh d => some d
  | .ow o => some o.d
  | _ => none
@[simp] theorem peekQ_sh (d : D) : peekQ (.sh d) = some d := rfl
@[simp] theorem peekQ_ow (o : O) : peekQ (.ow o) = some o.d := rfl
@[simp] noncomputable def xVarQ (i : Nat) : XE := fun ρ => (ρ[i]?).bind peekQ
theorem s_varQ (i : Nat) : SQ K (tVar i) (xVarQ i) := fun ρ σ S H Q d r x k => by
  unfold xVarQ at x
  cases q : ρ[i]? with
  | none => rw [q] at x; cases x
  | some s =>
    rw [q] at x
    cases s with
    | un => cases x
    | lo => cases x
    | sh d' =>
      cases x
      obtain ⟨v, h1, h2⟩ := r.sh i _ q
      exact ⟨v, h1, k v S H (Ext.refl r.sub) (h2.mono r.sub)⟩
    | ow o =>
      cases x
      obtain ⟨v, fp, h1, h2, h3, h4⟩ := r.ow i _ q
      exact ⟨_, h1, k _ S H (Ext.refl r.sub) (h2.denH r.sub)⟩
@[simp] noncomputable def xC (d : D) : XE := fun _ => some d
noncomputable def flat : D → Option V
  | .non => some .non | .bl b => some (.bl b) | .int i => some (.int i) | .str x => some (.str x) | .ty x => some (.ty x) | _ => none
theorem den_flat {d : D} {v : V} (h : flat d = some v) : Den K S d v := by
  cases d <;> simp [flat] at h <;> subst h <;> unfold Den <;> rfl
theorem s_c {v : V} {d : D} (h : flat d = some v) : SE K (tC v) (xC d) := fun ρ σ S H Q e r x k => by
  cases x
  exact k v S H (Ext.refl r.sub) (den_flat h)
@[simp] noncomputable def xFl (e : XE) : XE := fun ρ => (e ρ).bind fun d => if (flat d).isSome then some d else none
theorem flat_eq {d : D} {v w : V} (h : flat d = some w) (k : Den K S d v) : v = w := by
  cases d <;> simp [flat] at h <;> subst h <;> unfold Den at k <;> exact k
theorem SQ.fl {t : TE} {e : XE} (h : SQ K t e) : SE K t (xFl e) := fun ρ σ S H Q d r x k => by
  unfold xFl at x
  cases q : e ρ with
  | none => rw [q] at x; cases x
  | some d' =>
    rw [q] at x
    dsimp only [Option.bind] at x
    split at x
    · rename_i hf
      cases x
      obtain ⟨w, hw⟩ := Option.isSome_iff_exists.mp hf
      refine h ρ σ S H Q d r q fun v S' H' z dv => k v S' H' z ?_
      rw [flat_eq hw dv]
      exact den_flat hw
    · cases x
@[simp] noncomputable def xOp (f : D → D → Option D) (a b : XE) : XE := fun ρ => (a ρ).bind fun x => (b ρ).bind fun y => f x y
noncomputable def SR2 (K : PySem.W.Frag) (r : R2) (f : D → D → Option D) : Prop := ∀ S H x y d e g (Q : VK), Same S H → DenP K S H d x → DenP K S H e y → f d e = some g → (∀ v S' H', Ext S H S' H' → Den K S' g v → Q v H') → r x y H Q
theorem s_op {r : R2} {f : D → D → Option D} {ta tb : TE} {a b : XE} (hr : SR2 K r f) (ha : SPk K ta a) (hb : SPk K tb b) : SE K (tOp r ta tb) (xOp f a b) := fun ρ σ S H Q d r x k => by
  unfold xOp at x
  cases qa : a ρ with
  | none => rw [qa] at x; cases x
  | some da =>
    rw [qa] at x
    dsimp only [Option.bind] at x
    cases qb : b ρ with
    | none => rw [qb] at x; cases x
    | some db =>
      rw [qb] at x
      refine ha ρ σ S H _ da r qa fun v S1 H1 z1 d1 => ?_
      have r1 := r.ext z1
      refine hb ρ σ S1 H1 _ db r1 qb fun w S2 H2 z2 d2 => ?_
      exact hr S2 H2 v w da db d Q z2.sub (d1.mono z2 r1.sub) d2 x fun u S3 H3 z3 d3 => k u S3 H3 ((z1.trans z2).trans z3) d3
theorem ext_all {S2 H3 S3 : Hp} (s : Same S H) (z : Ext H H S3 H3) : Ext S H S H3 := ⟨Same.refl _, fun b u e => z.sub b u (z.sh b u (s b u e)), fun b o h n => ⟨z.sub b o (z.sh b o h), n⟩⟩
theorem s_opQ {r : R2} {f : D → D → Option D} {ta tb : TE} {a b : XE} (hr : SR2 K r f) (ha : SQ K ta a) (hb : SQ K tb b) : SQ K (tOp r ta tb) (xOp f a b) := fun ρ σ S H Q d r x k => by
  unfold xOp at x
  cases qa : a ρ with
  | none => rw [qa] at x; cases x
  | some da =>
    rw [qa] at x
    dsimp only [Option.bind] at x
    cases qb : b ρ with
    | none => rw [qb] at x; cases x
    | some db =>
      rw [qb] at x
      refine ha ρ σ S H _ da r qa fun v S1 H1 z1 d1 => ?_
      have r1 := r.ext z1
      refine hb ρ σ S1 H1 _ db r1 qb fun w S2 H2 z2 d2 => ?_
      exact hr H2 H2 v w da db d Q (Same.refl _) (.inl (d1.mono (z2.same r1.sub))) (.inl d2) x fun u S3 H3 z3 d3 => k u S2 H3 ((z1.trans z2).trans (ext_all (S2 := S2) z2.sub z3)) (d3.mono z3.sub)
@[simp] noncomputable def xUn (f : D → Option D) (a : XE) : XE := fun ρ => (a ρ).bind f
noncomputable def SR1 (K : PySem.W.Frag) (r : V → Hp → VK → Prop) (f : D → Option D) : Prop := ∀ S H x d g (Q : VK), Same S H → DenP K S H d x → f d = some g → (∀ v S' H', Ext S H S' H' → Den K S' g v → Q v H') → r x H Q
theorem s_un {r : V → Hp → VK → Prop} {f : D → Option D} {ta : TE} {a : XE} (hr : SR1 K r f) (ha : SPk K ta a) : SE K (tUn r ta) (xUn f a) := fun ρ σ S H Q d r x k => by
  unfold xUn at x
  cases qa : a ρ with
  | none => rw [qa] at x; cases x
  | some da =>
    rw [qa] at x
    refine ha ρ σ S H _ da r qa fun v S1 H1 z1 d1 => ?_
    exact hr S1 H1 v da d Q z1.sub d1 x fun u S3 H3 z3 d3 => k u S3 H3 (z1.trans z3) d3
@[simp] noncomputable def xNil : XA := fun _ => some []
@[simp] noncomputable def xCons (a : XE) (b : XA) : XA := fun ρ => (a ρ).bind fun x => (b ρ).bind fun y => some (x :: y)
theorem sa_nil : SA K tNil xNil := fun ρ σ S H Q ds r x k => by cases x; exact k [] S H (Ext.refl r.sub) .nil
theorem sp_nil : SAP K tNil xNil := fun ρ σ S H Q ds r x k => by cases x; exact k [] S H (Ext.refl r.sub) .nil
theorem xCons_of {a : XE} {b : XA} {ρ : Env} {ds : List D} (x : xCons a b ρ = some ds) : ∃ d r, a ρ = some d ∧ b ρ = some r ∧ ds = d :: r := by
  unfold xCons at x
  cases qa : a ρ with
  | none => rw [qa] at x; cases x
  | some da =>
    rw [qa] at x
    dsimp only [Option.bind] at x
    cases qb : b ρ with
    | none => rw [qb] at x; cases x
    | some db => rw [qb] at x; cases x; exact ⟨_, _, rfl, rfl, rfl⟩
theorem sa_cons {ta : TE} {tr : TA} {a : XE} {b : XA} (ha : SE K ta a) (hb : SA K tr b) : SA K (tCons ta tr) (xCons a b) := fun ρ σ S H Q ds r x k => by
  obtain ⟨da, db, qa, qb, rfl⟩ := xCons_of x
  refine ha ρ σ S H _ da r qa fun v S1 H1 z1 d1 => hb ρ σ S1 H1 _ db (r.ext z1) qb fun vs S2 H2 z2 d2 => k _ S2 H2 (z1.trans z2) (.cons (d1.mono z2.sh) d2)
theorem sp_cons {ta : TE} {tr : TA} {a : XE} {b : XA} (ha : SPk K ta a) (hb : SAP K tr b) : SAP K (tCons ta tr) (xCons a b) := fun ρ σ S H Q ds r x k => by
  obtain ⟨da, db, qa, qb, rfl⟩ := xCons_of x
  refine ha ρ σ S H _ da r qa fun v S1 H1 z1 d1 => hb ρ σ S1 H1 _ db (r.ext z1) qb fun vs S2 H2 z2 d2 => k _ S2 H2 (z1.trans z2) (.cons (d1.mono z2 (r.ext z1).sub) d2)
@[irreducible] noncomputable def LIM : Nat := 1000000
theorem lim_lt : LIM < sizeLine := by rw [sizeLine_eq]; unfold LIM; decide
@[simp] noncomputable def xTup (a : XA) : XE := fun ρ => (a ρ).bind fun l => if l.length ≤ LIM then some (.tup l) else none
theorem s_tup {t : TA} {a : XA} (h : SA K t a) : SE K (tTup t) (xTup a) := fun ρ σ S H Q d r x k => by
  unfold xTup at x
  cases q : a ρ with
  | none => rw [q] at x; cases x
  | some l =>
    rw [q] at x
    dsimp only [Option.bind] at x
    split at x
    · rename_i hl
      cases x
      refine h ρ σ S H _ l r q fun vs S1 H1 z1 d1 => ⟨?_, fun p hp => ?_⟩
      · rw [← d1.length]; exact Nat.le_of_lt (Nat.lt_of_le_of_lt hl lim_lt)
      · have z2 := Ext.new (o := .tup vs) z1.sub hp
        exact k _ _ _ (z1.trans z2) (den_tup.mpr ⟨p, vs, rfl, SqT.of upd_same, d1.mono z2.sh⟩)
    · cases x
@[simp] noncomputable def xLst (a : XA) : XA := fun ρ => (a ρ).bind fun l => if l.length ≤ LIM then some l else none
theorem s_lst {t : TA} {a : XA} (h : SA K t a) : SF K (tLst t) (xLst a) := fun ρ σ S H Q l r x k => by
  unfold xLst at x
  cases q : a ρ with
  | none => rw [q] at x; cases x
  | some l =>
    rw [q] at x
    dsimp only [Option.bind] at x
    split at x
    · rename_i hl
      cases x
      refine h ρ σ S H _ l r q fun vs S1 H1 z1 d1 => ⟨?_, fun p hp => ?_⟩
      · rw [← d1.length]; exact Nat.le_of_lt (Nat.lt_of_le_of_lt hl lim_lt)
      · have hp0 : H p = none := (z1.same r.sub).free hp
        exact k p vs S1 _ (z1.trans (Ext.own z1.sub hp)) hp0 (z1.sub.free hp) upd_same d1
    · cases x
@[simp] noncomputable def xCB (f : List D → Option D) (a : XA) : XE := fun ρ => (a ρ).bind f
noncomputable def SRB (K : PySem.W.Frag) (r : List V → Hp → VK → Prop) (f : List D → Option D) : Prop := ∀ S H vs ds g (Q : VK), Same S H → DensP K S H ds vs → f ds = some g → (∀ v S' H', Ext S H S' H' → Den K S' g v → Q v H') → r vs H Q
theorem s_cb {r : List V → Hp → VK → Prop} {f : List D → Option D} {t : TA} {a : XA} (hr : SRB K r f) (h : SAP K t a) : SE K (tCB r t) (xCB f a) := fun ρ σ S H Q d rl x k => by
  unfold xCB at x
  cases q : a ρ with
  | none => rw [q] at x; cases x
  | some ds =>
    rw [q] at x
    refine h ρ σ S H _ ds rl q fun vs S1 H1 z1 d1 => ?_
    exact hr S1 H1 vs ds d Q z1.sub d1 x fun v S2 H2 z2 d2 => k v S2 H2 (z1.trans z2) d2
@[simp] noncomputable def xCBF (f : List D → Option (List D)) (a : XA) : XA := fun ρ => (a ρ).bind f
noncomputable def SRF (K : PySem.W.Frag) (r : List V → Hp → VK → Prop) (f : List D → Option (List D)) : Prop := ∀ S H vs ds g (Q : VK), Same S H → DensP K S H ds vs → f ds = some g → (∀ a xs H', Ext S H S H' → H a = none → H' a = some (.lst xs) → Dens K S g xs → Q (.ref a) H') → r vs H Q
theorem s_cbF {r : List V → Hp → VK → Prop} {f : List D → Option (List D)} {t : TA} {a : XA} (hr : SRF K r f) (h : SAP K t a) : SF K (tCB r t) (xCBF f a) := fun ρ σ S H Q d rl x k => by
  unfold xCBF at x
  cases q : a ρ with
  | none => rw [q] at x; cases x
  | some ds =>
    rw [q] at x
    refine h ρ σ S H _ ds rl q fun vs S1 H1 z1 d1 => ?_
    exact hr S1 H1 vs ds d Q z1.sub d1 x fun b xs H2 z2 h1 h2 d2 => k b xs S1 H2 (z1.trans z2) ((z1.same rl.sub).free h1) (z1.sub.free h1) h2 d2
noncomputable def STr (K : PySem.W.Frag) (t : TE) (e : Env → Option O) : Prop := ∀ ρ σ S H (Q : VK) o, Rl K ρ σ S H → e ρ = some o → (∀ v fp S' H', Ext S H S' H' → Own K S' H' o v fp → fp.Nodup → (∀ b ∈ fp, H b = none ∧ S' b = none) → Q v H') → t σ H Q
@[simp] noncomputable def xLT (e : XA) : Env → Option O := fun ρ => (e ρ).map fun l => .lst (l.map .sh)
theorem SF.t {t : TE} {e : XA} (h : SF K t e) : STr K t (xLT e) := fun ρ σ S H Q o r x k => by
  unfold xLT at x
  cases q : e ρ with
  | none => rw [q] at x; cases x
  | some l =>
    rw [q] at x
    cases x
    refine h ρ σ S H Q l r q fun a xs S' H' z h1 h2 h3 h4 => ?_
    refine k _ [a] S' H' z (own_lst.mpr ⟨a, xs, [], rfl, rfl, h3, owns_sh h4⟩) (by simp) fun b hb => ?_
    rw [List.mem_singleton.mp hb]
    exact ⟨h1, h2⟩
@[simp] noncomputable def xSh (e : XE) : Env → Option O := fun ρ => (e ρ).map .sh
theorem SE.t {t : TE} {e : XE} (h : SE K t e) : STr K t (xSh e) := fun ρ σ S H Q o r x k => by
  unfold xSh at x
  cases q : e ρ with
  | none => rw [q] at x; cases x
  | some d =>
    rw [q] at x
    cases x
    exact h ρ σ S H Q d r q fun v S' H' z dv => k v [] S' H' z (own_sh.mpr ⟨rfl, dv⟩) .nil fun b hb => by cases hb
noncomputable def frzS (S H : Hp) (fp : List Addr) : Hp := fun b => if b ∈ fp then H b else S b
theorem frzS_in {fp : List Addr} {b : Addr} (h : b ∈ fp) : frzS S H fp b = H b := by unfold frzS; rw [if_pos h]
theorem frzS_out {fp : List Addr} {b : Addr} (h : b ∉ fp) : frzS S H fp b = S b := by unfold frzS; rw [if_neg h]
theorem frzS_same {fp : List Addr} (n : ∀ b ∈ fp, S b = none) : Same S (frzS S H fp) := fun b o e => by
  rw [frzS_out fun hb => by rw [n b hb] at e; cases e]
  exact e
theorem frzS_sub {fp : List Addr} (s : Same S H) : Same (frzS S H fp) H := fun b o e => by
  by_cases hb : b ∈ fp
  · rw [frzS_in hb] at e; exact e
  · rw [frzS_out hb] at e; exact s b o e
theorem frzS_ext {fp : List Addr} (z : Ext S H S' H') (n : ∀ b ∈ fp, H b = none ∧ S' b = none) : Ext S H (frzS S' H' fp) H' :=
  ⟨z.sh.trans (frzS_same fun b hb => (n b hb).2), frzS_sub z.sub, fun b o h hn => ⟨(z.al b o h hn).1, by rw [frzS_out fun hb => by rw [(n b hb).1] at h; cases h]; exact (z.al b o h hn).2⟩⟩
@[simp] noncomputable def xOD (e : Env → Option O) : XE := fun ρ => (e ρ).map O.d
theorem STr.e {t : TE} {e : Env → Option O} (h : STr K t e) : SE K t (xOD e) := fun ρ σ S H Q d r x k => by
  unfold xOD at x
  cases q : e ρ with
  | none => rw [q] at x; cases x
  | some o =>
    rw [q] at x
    cases x
    exact h ρ σ S H Q o r q fun v fp S' H' z ow nd n => k v _ H' (frzS_ext z n) (ow.den (frzS_same fun b hb => (n b hb).2) fun b hb => frzS_in hb)
noncomputable def spOf (K : PySem.W.Frag) (n : Nat) (m : List D → Option O) : Sp := fun vs H Q _ => vs.length = n ∧ ∃ S ds o, Same S H ∧ Dens K S ds vs ∧ m ds = some o ∧ ∀ v fp S' H', Ext S H S' H' → Own K S' H' o v fp → fp.Nodup → (∀ b ∈ fp, H b = none ∧ S' b = none) → Q v H'
@[simp] noncomputable def xCallT (m : List D → Option O) (a : XA) : Env → Option O := fun ρ => (a ρ).bind m
theorem s_callT {n : Nat} {m : List D → Option O} {E : XK} {t : TA} {a : XA} (h : SA K t a) (hn : ∀ ρ ds, a ρ = some ds → ds.length = n) : STr K (tCall (spOf K n m) [] E t) (xCallT m a) := fun ρ σ S H Q o rl x k => by
  unfold xCallT at x
  cases q : a ρ with
  | none => rw [q] at x; cases x
  | some ds =>
    rw [q] at x
    refine h ρ σ S H _ ds rl q fun vs S1 H1 z1 d1 => ?_
    rw [List.append_nil]
    refine ⟨by rw [← d1.length]; exact hn ρ ds q, S1, ds, o, z1.sub, d1, x, fun v fp S2 H2 z2 ow nd n => k v fp S2 H2 (z1.trans z2) ow nd fun b hb => ⟨(z1.same rl.sub).free (n b hb).1, (n b hb).2⟩⟩
@[simp] noncomputable def xCall (m : List D → Option D) (a : XA) : XE := fun ρ => (a ρ).bind m
theorem s_call {n : Nat} {m : List D → Option O} {E : XK} {t : TA} {a : XA} (h : SA K t a) (hn : ∀ ρ ds, a ρ = some ds → ds.length = n) : SE K (tCall (spOf K n m) [] E t) (xCall (fun ds => (m ds).map O.d) a) := by
  have := (s_callT (m := m) (E := E) h hn).e
  have e : xOD (xCallT m a) = xCall (fun ds => (m ds).map O.d) a := by
    funext ρ
    show ((a ρ).bind m).map O.d = (a ρ).bind fun ds => (m ds).map O.d
    cases a ρ <;> rfl
  rw [e] at this
  exact this
noncomputable def SAQ (K : PySem.W.Frag) (t : TA) (e : XA) : Prop := ∀ ρ σ S H (Q : List V → Hp → Prop) ds, Rl K ρ σ S H → e ρ = some ds → (∀ vs S' H', Ext S H S' H' → Dens K H' ds vs → Q vs H') → t σ H Q
theorem sq_nil : SAQ K tNil xNil := fun ρ σ S H Q ds r x k => by cases x; exact k [] S H (Ext.refl r.sub) .nil
theorem sq_cons {ta : TE} {tr : TA} {a : XE} {b : XA} (ha : SQ K ta a) (hb : SAQ K tr b) : SAQ K (tCons ta tr) (xCons a b) := fun ρ σ S H Q ds r x k => by
  obtain ⟨da, db, qa, qb, rfl⟩ := xCons_of x
  refine ha ρ σ S H _ da r qa fun v S1 H1 z1 d1 => hb ρ σ S1 H1 _ db (r.ext z1) qb fun vs S2 H2 z2 d2 => k _ S2 H2 (z1.trans z2) (.cons (d1.mono (z2.same (r.ext z1).sub)) d2)
@[simp] noncomputable def xCallB (m : List D → Option D) (a : XA) : XE := fun ρ => ((a ρ).bind m).bind fun d => if (flat d).isSome then some d else none
theorem s_callB {n : Nat} {m : List D → Option O} {E : XK} {t : TA} {a : XA} (h : SAQ K t a) (hn : ∀ ρ ds, a ρ = some ds → ds.length = n) : SE K (tCall (spOf K n m) [] E t) (xCallB (fun ds => (m ds).map O.d) a) := fun ρ σ S H Q d rl x k => by
  unfold xCallB at x
  cases q : a ρ with
  | none => rw [q] at x; cases x
  | some ds =>
    rw [q] at x
    dsimp only [Option.bind] at x
    cases q2 : m ds with
    | none => rw [q2] at x; cases x
    | some o =>
      rw [q2] at x
      dsimp only [Option.map] at x
      split at x
      · rename_i hf
        cases x
        obtain ⟨w, hw⟩ := Option.isSome_iff_exists.mp hf
        refine h ρ σ S H _ ds rl q fun vs S1 H1 z1 d1 => ?_
        rw [List.append_nil]
        refine ⟨by rw [← d1.length]; exact hn ρ ds q, H1, ds, o, Same.refl _, d1, q2, fun v fp S2 H2 z2 ow nd n => ?_⟩
        have dv := ow.denH z2.sub
        rw [flat_eq hw dv]
        exact k w S1 H2 (z1.trans (ext_all (S2 := S1) z1.sub z2)) (den_flat hw)
      · cases x
noncomputable def SAT (K : PySem.W.Frag) (t : TA) (e : Env → Option (List O)) : Prop := ∀ ρ σ S H (Q : List V → Hp → Prop) os, Rl K ρ σ S H → e ρ = some os → (∀ vs fp S' H', Ext S H S' H' → Owns K S' H' os vs fp → fp.Nodup → (∀ b ∈ fp, H b = none ∧ S' b = none) → Q vs H') → t σ H Q
@[simp] noncomputable def xNilT : Env → Option (List O) := fun _ => some []
@[simp] noncomputable def xConsT (a : Env → Option O) (b : Env → Option (List O)) : Env → Option (List O) := fun ρ => (a ρ).bind fun x => (b ρ).bind fun y => some (x :: y)
theorem st_nil : SAT K tNil xNilT := fun ρ σ S H Q ds r x k => by cases x; exact k [] [] S H (Ext.refl r.sub) .nil .nil fun _ hb => by cases hb
theorem st_cons {ta : TE} {tr : TA} {a : Env → Option O} {b : Env → Option (List O)} (ha : STr K ta a) (hb : SAT K tr b) : SAT K (tCons ta tr) (xConsT a b) := fun ρ σ S H Q os r x k => by
  unfold xConsT at x
  cases qa : a ρ with
  | none => rw [qa] at x; cases x
  | some oa =>
    rw [qa] at x
    dsimp only [Option.bind] at x
    cases qb : b ρ with
    | none => rw [qb] at x; cases x
    | some ob =>
      rw [qb] at x
      cases x
      refine ha ρ σ S H _ oa r qa fun v fp S1 H1 z1 o1 nd1 n1 => hb ρ σ S1 H1 _ ob (r.ext z1) qb fun vs fq S2 H2 z2 o2 nd2 n2 => ?_
      obtain ⟨k1, k2⟩ := z2.keeps (fun b hb => (n1 b hb).2) o1.there
      refine k _ _ S2 H2 (z1.trans z2) (.cons (o1.mono z2.sh k1) o2) ?_ fun c hc => ?_
      · refine List.nodup_append.mpr ⟨nd1, nd2, fun c hc d hd e => ?_⟩
        subst e
        exact o1.there c hc (n2 c hd).1
      · rcases List.mem_append.mp hc with hc | hc
        · exact ⟨(n1 c hc).1, k2 c hc⟩
        · exact ⟨(z1.same r.sub).free (n2 c hc).1, (n2 c hc).2⟩
@[simp] noncomputable def xTupT (a : Env → Option (List O)) : Env → Option O := fun ρ => (a ρ).bind fun l => if l.length ≤ LIM then some (.tup l) else none
@[simp] noncomputable def xLstT (a : Env → Option (List O)) : Env → Option O := fun ρ => (a ρ).bind fun l => if l.length ≤ LIM then some (.lst l) else none
theorem upd_keeps {fp : List Addr} {p : Addr} {o : HO} (h : H p = none) (t : ∀ b ∈ fp, H b ≠ none) : (∀ b ∈ fp, upd H p o b = H b) ∧ p ∉ fp := by
  have np : p ∉ fp := fun hp => t p hp h
  exact ⟨fun b hb => upd_ne fun e => np (e ▸ hb), np⟩
theorem s_tupT {t : TA} {a : Env → Option (List O)} (h : SAT K t a) : STr K (tTup t) (xTupT a) := fun ρ σ S H Q o r x k => by
  unfold xTupT at x
  cases q : a ρ with
  | none => rw [q] at x; cases x
  | some l =>
    rw [q] at x
    dsimp only [Option.bind] at x
    split at x
    · rename_i hl
      cases x
      refine h ρ σ S H _ l r q fun vs fp S1 H1 z1 o1 nd1 n1 => ⟨?_, fun p hp => ?_⟩
      · rw [← o1.length]; exact Nat.le_of_lt (Nat.lt_of_le_of_lt hl lim_lt)
      · obtain ⟨k1, k2⟩ := upd_keeps (o := .tup vs) hp o1.there
        refine k _ (p :: fp) S1 _ (z1.trans (Ext.own z1.sub hp)) (own_tup.mpr ⟨p, vs, fp, rfl, rfl, upd_same, o1.mono (Same.refl _) k1⟩) (List.nodup_cons.mpr ⟨k2, nd1⟩) fun b hb => ?_
        rcases List.mem_cons.mp hb with rfl | hb
        · exact ⟨(z1.same r.sub).free hp, z1.sub.free hp⟩
        · exact n1 b hb
    · cases x
theorem s_lstT {t : TA} {a : Env → Option (List O)} (h : SAT K t a) : STr K (tLst t) (xLstT a) := fun ρ σ S H Q o r x k => by
  unfold xLstT at x
  cases q : a ρ with
  | none => rw [q] at x; cases x
  | some l =>
    rw [q] at x
    dsimp only [Option.bind] at x
    split at x
    · rename_i hl
      cases x
      refine h ρ σ S H _ l r q fun vs fp S1 H1 z1 o1 nd1 n1 => ⟨?_, fun p hp => ?_⟩
      · rw [← o1.length]; exact Nat.le_of_lt (Nat.lt_of_le_of_lt hl lim_lt)
      · obtain ⟨k1, k2⟩ := upd_keeps (o := .lst vs) hp o1.there
        refine k _ (p :: fp) S1 _ (z1.trans (Ext.own z1.sub hp)) (own_lst.mpr ⟨p, vs, fp, rfl, rfl, upd_same, o1.mono (Same.refl _) k1⟩) (List.nodup_cons.mpr ⟨k2, nd1⟩) fun b hb => ?_
        rcases List.mem_cons.mp hb with rfl | hb
        · exact ⟨(z1.same r.sub).free hp, z1.sub.free hp⟩
        · exact n1 b hb
    · cases x
theorem len_nil {ρ : Env} {ds : List D} (h : xNil ρ = some ds) : ds.length = 0 := by cases h; rfl
theorem len_cons {a : XE} {b : XA} {n : Nat} (h : ∀ ρ ds, b ρ = some ds → ds.length = n) (ρ : Env) (ds : List D) (x : xCons a b ρ = some ds) : ds.length = n + 1 := by
  obtain ⟨da, db, qa, qb, rfl⟩ := xCons_of x
  rw [List.length_cons, h ρ db qb]
@[simp] noncomputable def xAndV (a b : XE) : XE := fun ρ => (a ρ).bind fun x => match x with | .bl true => b ρ | .bl false => some (.bl false) | _ => none
@[simp] noncomputable def xOrV (a b : XE) : XE := fun ρ => (a ρ).bind fun x => match x with | .bl true => some (.bl true) | .bl false => b ρ | _ => none
@[simp] noncomputable def xNotV (a : XE) : XE := fun ρ => (a ρ).bind fun x => match x with | .bl c => some (.bl (!c)) | _ => none
theorem s_andV {ta tb : TE} {a b : XE} (ha : SPk K ta a) (hb : SE K tb b) : SE K (tAndV ta tb) (xAndV a b) := fun ρ σ S H Q d r x k => by
  unfold xAndV at x
  cases qa : a ρ with
  | none => rw [qa] at x; cases x
  | some da =>
    rw [qa] at x
    dsimp only [Option.bind] at x
    refine ha ρ σ S H _ da r qa fun v S1 H1 z1 d1 => ?_
    split at x
    · exact ⟨true, d1.bl, iteT (hb ρ σ S1 H1 Q d (r.ext z1) x fun w S2 H2 z2 d2 => k w S2 H2 (z1.trans z2) d2)⟩
    · cases x
      exact ⟨false, d1.bl, iteF (k _ S1 H1 z1 (den_bl.mpr rfl))⟩
    · cases x
@[simp] noncomputable def xIfE (c : XT) (a b : XE) : XE := fun ρ => (c ρ).bind fun q => if q = true then a ρ else b ρ
@[simp] noncomputable def xB (a : XE) : XT := fun ρ => (a ρ).bind fun x => match x with | .bl c => some c | _ => none
theorem s_b {ta : TE} {a : XE} (ha : SPk K ta a) : ST K (tB ta) (xB a) := fun ρ σ S H Q b r x k => by
  unfold xB at x
  cases qa : a ρ with
  | none => rw [qa] at x; cases x
  | some da =>
    rw [qa] at x
    dsimp only [Option.bind] at x
    refine ha ρ σ S H _ da r qa fun v S1 H1 z1 d1 => ?_
    split at x
    · cases x
      exact ⟨_, d1.bl, k S1 H1 z1⟩
    · cases x
theorem s_test {ta : TE} {a : XE} (ha : SPk K ta a) : ST K (tTest ta) (xB a) := s_b ha
noncomputable def truD : D → Option Bool
  | .non => some false
  | .bl b => some b
  | .int i => some (i != 0)
  | .str y => if y.length ≤ LIM then some ((y.length : Int) != 0) else none
  | .lst l => some (!l.isEmpty)
  | .tup l => some (!l.isEmpty)
  | .scr l => some (!l.isEmpty)
  | _ => none
theorem dens_empty {ds : List D} {xs : List V} (h : Dens K S ds xs) : (!ds.isEmpty) = !xs.isEmpty := by
  have := h.length
  cases ds <;> cases xs <;> simp_all
@[simp] noncomputable def xTru (a : XE) : XT := fun ρ => (a ρ).bind truD
theorem tru_of {d : D} {v : V} {b : Bool} (s : Same S H) (h : DenP K S H d v) (x : truD d = some b) : TruV K v H b := by
  cases d with
  | non => rw [h.non]; cases x; rfl
  | bl c => rw [h.bl]; cases x; rfl
  | int i => rw [h.int]; cases x; rfl
  | str y =>
    rw [h.str]
    have x' : (if y.length ≤ LIM then some ((y.length : Int) != 0) else none) = some b := x
    split at x'
    · rename_i hl; cases x'; exact ⟨Nat.le_of_lt (Nat.lt_of_le_of_lt hl lim_lt), rfl⟩
    · cases x'
  | lst l =>
    obtain ⟨p, xs, rfl, h1, h2⟩ := h.lst s
    cases x
    exact .inl ⟨xs, .inl h1, dens_empty h2⟩
  | tup l =>
    obtain ⟨p, xs, rfl, h1, h2⟩ := h.tup s
    cases x
    exact .inr (.inl ⟨xs, h1, dens_empty h2⟩)
  | scr l =>
    obtain ⟨p, xs, rfl, h1, h2⟩ := h.scr s
    cases x
    exact .inl ⟨xs, h1, dens_empty h2⟩
  | _ => cases x
end
end M
namespace M
open PySem L2
section
variable {K : PySem.W.Frag} {S S' H H' : Hp}
theorem s_tru {ta : TE} {a : XE} (ha : SPk K ta a) : ST K (fun σ H Q => ta σ H fun x H' => ∃ k, TruV K x H' k ∧ Q k H') (xTru a) := fun ρ σ S H Q b r x k => by
  unfold xTru at x
  cases qa : a ρ with
  | none => rw [qa] at x; cases x
  | some da =>
    rw [qa] at x
    exact ha ρ σ S H _ da r qa fun v S1 H1 z1 d1 => ⟨b, tru_of z1.sub d1 x, k S1 H1 z1⟩
@[simp] noncomputable def xAnd (a b : XT) : XT := fun ρ => (a ρ).bind fun x => if x = true then b ρ else some false
@[simp] noncomputable def xOr (a b : XT) : XT := fun ρ => (a ρ).bind fun x => if x = true then some true else b ρ
@[simp] noncomputable def xNot (a : XT) : XT := fun ρ => (a ρ).map fun x => !x
theorem s_and {ta tb : TT} {a b : XT} (ha : ST K ta a) (hb : ST K tb b) : ST K (tAnd ta tb) (xAnd a b) := fun ρ σ S H Q d r x k => by
  unfold xAnd at x
  cases qa : a ρ with
  | none => rw [qa] at x; cases x
  | some q =>
    rw [qa] at x
    dsimp only [Option.bind] at x
    refine ha ρ σ S H _ q r qa fun S1 H1 z1 => ?_
    cases q with
    | true => exact iteT (hb ρ σ S1 H1 Q d (r.ext z1) (by simpa using x) fun S2 H2 z2 => k S2 H2 (z1.trans z2))
    | false =>
      have : d = false := by simpa using x.symm
      subst this
      exact iteF (k S1 H1 z1)
theorem s_or {ta tb : TT} {a b : XT} (ha : ST K ta a) (hb : ST K tb b) : ST K (tOr ta tb) (xOr a b) := fun ρ σ S H Q d r x k => by
  unfold xOr at x
  cases qa : a ρ with
  | none => rw [qa] at x; cases x
  | some q =>
    rw [qa] at x
    dsimp only [Option.bind] at x
    refine ha ρ σ S H _ q r qa fun S1 H1 z1 => ?_
    cases q with
    | false => exact iteF (hb ρ σ S1 H1 Q d (r.ext z1) (by simpa using x) fun S2 H2 z2 => k S2 H2 (z1.trans z2))
    | true =>
      have : d = true := by simpa using x.symm
      subst this
      exact iteT (k S1 H1 z1)
theorem s_not {ta : TT} {a : XT} (ha : ST K ta a) : ST K (tNot ta) (xNot a) := fun ρ σ S H Q d r x k => by
  unfold xNot at x
  cases qa : a ρ with
  | none => rw [qa] at x; cases x
  | some q =>
    rw [qa] at x
    cases x
    exact ha ρ σ S H _ q r qa k
inductive Out where
  | nx (ρ : Env) | rt (d : D) | ro (o : O) | bk (ρ : Env) | ct (ρ : Env)
noncomputable abbrev XS := Env → Option Out
noncomputable def Done (K : PySem.W.Frag) (A : Hp) (Λ : Nat → Option Addr) (S : Hp) (E : Ends) : Out → Prop
  | .nx ρ => ∀ σ' S' H', RlA K A Λ ρ σ' S' H' → Same S S' → E.nx σ' H'
  | .bk ρ => ∀ σ' S' H', RlA K A Λ ρ σ' S' H' → Same S S' → E.bk σ' H'
  | .ct ρ => ∀ σ' S' H', RlA K A Λ ρ σ' S' H' → Same S S' → E.ct σ' H'
  | .rt d => ∀ v S' H', Same S S' → Same S' H' → Same A H' → (∀ b, S' b = none ∨ A b = none) → Den K S' d v → E.rt v H'
  | .ro o => ∀ v fp S' H', Same S S' → Same S' H' → Same A H' → (∀ b, S' b = none ∨ A b = none) → Own K S' H' o v fp → fp.Nodup → (∀ b ∈ fp, S' b = none ∧ A b = none) → E.rt v H'
theorem Done.mono {A : Hp} {Λ : Nat → Option Addr} {E : Ends} {o : Out} (s : Same S S') (h : Done K A Λ S E o) : Done K A Λ S' E o := by
  cases o with
  | nx ρ => exact fun σ1 S1 H1 r z => h σ1 S1 H1 r (s.trans z)
  | bk ρ => exact fun σ1 S1 H1 r z => h σ1 S1 H1 r (s.trans z)
  | ct ρ => exact fun σ1 S1 H1 r z => h σ1 S1 H1 r (s.trans z)
  | rt d => exact fun v S1 H1 z => h v S1 H1 (s.trans z)
  | ro d => exact fun v fp S1 H1 z => h v fp S1 H1 (s.trans z)
noncomputable def SS (K : PySem.W.Frag) (t : TS) (m : XS) : Prop := ∀ A Λ ρ σ S H (E : Ends) o, RlA K A Λ ρ σ S H → m ρ = some o → Done K A Λ S E o → t E σ H
@[simp] noncomputable def xNext : XS := fun ρ => some (.nx ρ)
theorem s_next : SS K tNext xNext := fun A Λ ρ σ S H E o r x k => by cases x; exact k σ S H r (Same.refl _)
@[simp] noncomputable def xBreak : XS := fun ρ => some (.bk ρ)
@[simp] noncomputable def xCont : XS := fun ρ => some (.ct ρ)
@[simp] noncomputable def xNever : XS := fun _ => none
@[simp] noncomputable def xSeq (m n : XS) : XS := fun ρ => match m ρ with | some (.nx ρ') => n ρ' | o => o
theorem s_seq {t u : TS} {m n : XS} (ht : SS K t m) (hu : SS K u n) : SS K (tSeq t u) (xSeq m n) := fun A Λ ρ σ S H E o r x k => by
  unfold xSeq at x
  cases q : m ρ with
  | none => rw [q] at x; cases x
  | some om =>
    rw [q] at x
    refine ht A Λ ρ σ S H _ om r q ?_
    cases om with
    | nx ρ' => exact fun σ' S' H' r' z => hu A Λ ρ' σ' S' H' E o r' x (k.mono z)
    | rt d => cases x; exact k
    | ro d => cases x; exact k
    | bk d => cases x; exact k
    | ct d => cases x; exact k
@[simp] noncomputable def xRet (e : XE) : XS := fun ρ => (e ρ).map .rt
theorem s_ret {te : TE} {e : XE} (h : SE K te e) : SS K (tRet te) (xRet e) := fun A Λ ρ σ S H E o r x k => by
  unfold xRet at x
  cases q : e ρ with
  | none => rw [q] at x; cases x
  | some d =>
    rw [q] at x
    cases x
    refine h ρ σ S H _ d r.toRl q fun v S1 H1 z1 d1 => ?_
    have r1 := r.ext z1
    exact k v S1 H1 z1.sh z1.sub r1.asub r1.adis d1
@[simp] noncomputable def xRetT (e : Env → Option O) : XS := fun ρ => (e ρ).map .ro
@[simp] noncomputable def xRetV (i : Nat) : XS := fun ρ => match ρ[i]? with | some (.sh d) => some (.rt d) | some (.ow o) => some (.ro o) | _ => none
theorem s_retV (i : Nat) : SS K (tRet (tVar i)) (xRetV i) := fun A Λ ρ σ S H E o r x k => by
  unfold xRetV at x
  cases q : ρ[i]? with
  | none => rw [q] at x; cases x
  | some s =>
    rw [q] at x
    obtain ⟨Φ, f⟩ := r
    cases s with
    | un => cases x
    | lo => cases x
    | sh d =>
      cases x
      obtain ⟨v, h1, h2⟩ := f.sh i d q
      exact ⟨v, h1, k v S H (Same.refl _) f.sub f.asub f.adis h2⟩
    | ow ot =>
      cases x
      obtain ⟨v, h1, h2, h3, h4⟩ := f.ow i ot q
      exact ⟨v, h1, k v _ S H (Same.refl _) f.sub f.asub f.adis h2 h3 h4⟩
@[simp] noncomputable def xRetN : XS := fun _ => some (.rt .non)
@[simp] noncomputable def xIf (c : XT) (m n : XS) : XS := fun ρ => (c ρ).bind fun b => if b = true then m ρ else n ρ
theorem s_if {tc : TT} {t u : TS} {c : XT} {m n : XS} (hc : ST K tc c) (ht : SS K t m) (hu : SS K u n) : SS K (tIfS tc t u) (xIf c m n) := fun A Λ ρ σ S H E o r x k => by
  unfold xIf at x
  cases qc : c ρ with
  | none => rw [qc] at x; cases x
  | some q =>
    rw [qc] at x
    dsimp only [Option.bind] at x
    refine hc ρ σ S H _ q r.toRl qc fun S1 H1 z1 => ?_
    cases q with
    | true => exact iteT (ht A Λ ρ σ S1 H1 E o (r.ext z1) (by simpa using x) (k.mono z1.sh))
    | false => exact iteF (hu A Λ ρ σ S1 H1 E o (r.ext z1) (by simpa using x) (k.mono z1.sh))
theorem set_inv {α : Type} {l : List α} {i j : Nat} {x y : α} (h : (l.set i x)[j]? = some y) : (i = j ∧ y = x ∧ i < l.length) ∨ (i ≠ j ∧ l[j]? = some y) := by
  by_cases hij : i = j
  · subst hij
    have hl := (List.getElem?_eq_some_iff.mp h).1
    rw [List.length_set] at hl
    rw [List.getElem?_set_self hl] at h
    exact .inl ⟨rfl, (Option.some.inj h).symm, hl⟩
  · rw [List.getElem?_set_ne hij] at h
    exact .inr ⟨hij, h⟩
theorem RlF.set {A : Hp} {Λ : Nat → Option Addr} {Φ : Nat → List Addr} {ρ : Env} {σ : St} {d : D} {v : V} (r : RlF K A Λ Φ ρ σ S H) (i : Nat) (h : Den K S d v) : RlF K A Λ Φ (ρ.set i (.sh d)) (σ.set i (some v)) S H where
  len := by rw [List.length_set, List.length_set]; exact r.len
  sub := r.sub
  sh := fun j e hj => by
    rcases set_inv hj with ⟨rfl, e, hl⟩ | ⟨hij, hj⟩
    · cases e
      exact ⟨v, List.getElem?_set_self (by rw [r.len]; exact hl), h⟩
    · rw [List.getElem?_set_ne hij]
      exact r.sh j e hj
  ow := fun j o hj => by
    rcases set_inv hj with ⟨rfl, e, hl⟩ | ⟨hij, hj⟩
    · cases e
    · rw [List.getElem?_set_ne hij]
      exact r.ow j o hj
  dj := fun j k o o' hjk h1 h2 => by
    rcases set_inv h1 with ⟨rfl, e, hl⟩ | ⟨hij, h1⟩
    · cases e
    · rcases set_inv h2 with ⟨rfl, e, hl⟩ | ⟨hik, h2⟩
      · cases e
      · exact r.dj j k o o' hjk h1 h2
  lo := fun j hj => by
    rcases set_inv hj with ⟨rfl, e, hl⟩ | ⟨hij, hj⟩
    · cases e
    · rw [List.getElem?_set_ne hij]
      exact r.lo j hj
  asub := r.asub
  adis := r.adis
theorem RlA.set {A : Hp} {Λ : Nat → Option Addr} {ρ : Env} {σ : St} {d : D} {v : V} (r : RlA K A Λ ρ σ S H) (i : Nat) (h : Den K S d v) : RlA K A Λ (ρ.set i (.sh d)) (σ.set i (some v)) S H := let ⟨Φ, f⟩ := r; ⟨Φ, f.set i h⟩
theorem RlF.put {A : Hp} {Λ : Nat → Option Addr} {Φ : Nat → List Addr} {ρ : Env} {σ : St} {o : O} {v : V} {fp : List Addr} (r : RlF K A Λ Φ ρ σ S H) (i : Nat) (sub : Same S H') (asub : Same A H') (ow : Own K S H' o v fp) (nd : fp.Nodup) (n : ∀ b ∈ fp, S b = none ∧ A b = none)
    (keep : ∀ (j : Nat) o', j ≠ i → ρ[j]? = some (.ow o') → ∀ b ∈ Φ j, H' b = H b ∧ b ∉ fp) : RlF K A Λ (fun j => if j = i then fp else Φ j) (ρ.set i (.ow o)) (σ.set i (some v)) S H' where
  len := by rw [List.length_set, List.length_set]; exact r.len
  sub := sub
  sh := fun j e hj => by
    rcases set_inv hj with ⟨rfl, e, hl⟩ | ⟨hij, hj⟩
    · cases e
    · rw [List.getElem?_set_ne hij]
      exact r.sh j e hj
  ow := fun j o' hj => by
    rcases set_inv hj with ⟨rfl, e, hl⟩ | ⟨hij, hj⟩
    · cases e
      rw [if_pos rfl]
      exact ⟨v, List.getElem?_set_self (by rw [r.len]; exact hl), ow, nd, n⟩
    · rw [List.getElem?_set_ne hij, if_neg (Ne.symm hij)]
      obtain ⟨w, h1, h2, h3, h4⟩ := r.ow j o' hj
      exact ⟨w, h1, h2.mono (Same.refl _) fun b hb => (keep j o' (Ne.symm hij) hj b hb).1, h3, h4⟩
  dj := fun j k o1 o2 hjk h1 h2 b hb hb2 => by
    rcases set_inv h1 with ⟨rfl, e, hl⟩ | ⟨hij, h1⟩
    · rcases set_inv h2 with ⟨rfl, e, hl⟩ | ⟨hik, h2⟩
      · exact hjk rfl
      · rw [if_pos rfl] at hb
        rw [if_neg (Ne.symm hik)] at hb2
        exact (keep k o2 (Ne.symm hik) h2 b hb2).2 hb
    · rcases set_inv h2 with ⟨rfl, e, hl⟩ | ⟨hik, h2⟩
      · rw [if_pos rfl] at hb2
        rw [if_neg (Ne.symm hij)] at hb
        exact (keep j o1 (Ne.symm hij) h1 b hb).2 hb2
      · rw [if_neg (Ne.symm hij)] at hb
        rw [if_neg (Ne.symm hik)] at hb2
        exact r.dj j k o1 o2 hjk h1 h2 b hb hb2
  lo := fun j hj => by
    rcases set_inv hj with ⟨rfl, e, hl⟩ | ⟨hij, hj⟩
    · cases e
    · rw [List.getElem?_set_ne hij]
      exact r.lo j hj
  asub := asub
  adis := r.adis
theorem set_same {α : Type} {l : List α} {i : Nat} {x : α} (h : l[i]? = some x) : l.set i x = l := by
  apply List.ext_getElem?
  intro j
  by_cases e : i = j
  · subst e
    rw [List.getElem?_set_self (List.getElem?_eq_some_iff.mp h).1, h]
  · rw [List.getElem?_set_ne e]
noncomputable def frz (i : Nat) (ρ : Env) : Env := match ρ[i]? with | some (.ow o) => ρ.set i (.sh o.d) | _ => ρ
theorem RlA.frz {A : Hp} {Λ : Nat → Option Addr} {ρ : Env} {σ : St} (r : RlA K A Λ ρ σ S H) (i : Nat) : ∃ S', Same S S' ∧ RlA K A Λ (frz i ρ) σ S' H := by
  unfold M.frz
  cases q : ρ[i]? with
  | none => exact ⟨S, Same.refl _, r⟩
  | some s =>
    cases s with
    | un => exact ⟨S, Same.refl _, r⟩
    | lo => exact ⟨S, Same.refl _, r⟩
    | sh d => exact ⟨S, Same.refl _, r⟩
    | ow o =>
      dsimp only
      obtain ⟨Φ, f⟩ := r
      obtain ⟨v, h1, h2, h3, h4⟩ := f.ow i o q
      have s2 : Same S (frzS S H (Φ i)) := frzS_same fun b hb => (h4 b hb).1
      have hd : Den K (frzS S H (Φ i)) o.d v := h2.den s2 fun b hb => frzS_in hb
      refine ⟨_, s2, Φ, ?_⟩
      exact {
        len := by rw [List.length_set]; exact f.len
        sub := frzS_sub f.sub
        sh := fun j d hj => by
          rcases set_inv hj with ⟨rfl, e, hl⟩ | ⟨hij, hj⟩
          · cases e
            exact ⟨v, h1, hd⟩
          · obtain ⟨w, k1, k2⟩ := f.sh j d hj
            exact ⟨w, k1, k2.mono s2⟩
        ow := fun j o' hj => by
          rcases set_inv hj with ⟨rfl, e, hl⟩ | ⟨hij, hj⟩
          · cases e
          · obtain ⟨w, k1, k2, k3, k4⟩ := f.ow j o' hj
            exact ⟨w, k1, k2.mono s2 fun _ _ => rfl, k3, fun b hb => ⟨by rw [frzS_out fun hi => f.dj i j o o' hij q hj b hi hb]; exact (k4 b hb).1, (k4 b hb).2⟩⟩
        dj := fun j k o1 o2 hjk g1 g2 => by
          rcases set_inv g1 with ⟨rfl, e, hl⟩ | ⟨hij, g1⟩
          · cases e
          · rcases set_inv g2 with ⟨rfl, e, hl⟩ | ⟨hik, g2⟩
            · cases e
            · exact f.dj j k o1 o2 hjk g1 g2
        lo := fun j hj => by
          rcases set_inv hj with ⟨rfl, e, hl⟩ | ⟨hij, hj⟩
          · cases e
          · exact f.lo j hj
        asub := f.asub
        adis := fun b => by
          by_cases hb : b ∈ Φ i
          · exact .inr (h4 b hb).2
          · rw [frzS_out hb]; exact f.adis b }
@[simp] noncomputable def xFrz (i : Nat) (m : XS) : XS := fun ρ => m (frz i ρ)
theorem s_frz {t : TS} {m : XS} (i : Nat) (h : SS K t m) : SS K t (xFrz i m) := fun A Λ ρ σ S H E o r x k => by
  obtain ⟨S', s, r'⟩ := r.frz i
  exact h A Λ _ σ S' H E o r' x (k.mono s)
noncomputable abbrev XG := D → Env → Option Env
noncomputable abbrev XGs := List D → Env → Option Env
noncomputable def SG (K : PySem.W.Frag) (g : TG) (x : XG) : Prop := ∀ A Λ ρ σ S H v d (Q : St → Hp → Prop) ρ', RlA K A Λ ρ σ S H → Den K S d v → x d ρ = some ρ' → (∀ σ', RlA K A Λ ρ' σ' S H → Q σ' H) → g v σ H Q
noncomputable def SGs (K : PySem.W.Frag) (g : TGs) (x : XGs) : Prop := ∀ A Λ ρ σ S H vs ds (Q : St → Hp → Prop) ρ', RlA K A Λ ρ σ S H → Dens K S ds vs → x ds ρ = some ρ' → (∀ σ', RlA K A Λ ρ' σ' S H → Q σ' H) → g vs σ H Q
@[simp] noncomputable def xgName (i : Nat) : XG := fun d ρ => some (ρ.set i (.sh d))
noncomputable def xgNil : XGs := fun ds ρ => match ds with | [] => some ρ | _ => none
noncomputable def xgCons (x : XG) (y : XGs) : XGs := fun ds ρ => match ds with | d :: r => (x d ρ).bind (y r) | [] => none
noncomputable def xgTup (y : XGs) : XG := fun d ρ => match d with | .tup l => y l ρ | _ => none
theorem g_name (i : Nat) : SG K (gName i) (xgName i) := fun A Λ ρ σ S H v d Q ρ' r dv x k => by cases x; exact k _ (r.set i dv)
theorem g_nil : SGs K gNil xgNil := fun A Λ ρ σ S H vs ds Q ρ' r dv x k => by
  cases ds with
  | nil => cases x; exact ⟨dv.nil_of, k σ r⟩
  | cons _ _ => cases x
theorem g_cons {g : TG} {gs : TGs} {x : XG} {y : XGs} (h : SG K g x) (hs : SGs K gs y) : SGs K (gCons g gs) (xgCons x y) := fun A Λ ρ σ S H vs ds Q ρ' r dv e k => by
  cases ds with
  | nil => cases e
  | cons d ds =>
    obtain ⟨v, vs, rfl, h1, h2⟩ := dv.cons_of
    have e' : (x d ρ).bind (y ds) = some ρ' := e
    cases q : x d ρ with
    | none => rw [q] at e'; cases e'
    | some ρ1 =>
      rw [q] at e'
      exact ⟨v, vs, rfl, h A Λ ρ σ S H v d _ ρ1 r h1 q fun σ1 r1 => hs A Λ ρ1 σ1 S H vs ds Q ρ' r1 h2 e' k⟩
noncomputable def lenIs (y : XGs) (n : Nat) : Prop := ∀ ds ρ ρ', y ds ρ = some ρ' → ds.length = n
theorem li_nil : lenIs xgNil 0 := fun ds ρ ρ' e => by cases ds with | nil => rfl | cons _ _ => cases e
theorem li_cons {x : XG} {y : XGs} {n : Nat} (h : lenIs y n) : lenIs (xgCons x y) (n + 1) := fun ds ρ ρ' e => by
  cases ds with
  | nil => cases e
  | cons d ds =>
    have e' : (x d ρ).bind (y ds) = some ρ' := e
    cases q : x d ρ with
    | none => rw [q] at e'; cases e'
    | some ρ1 => rw [q] at e'; rw [List.length_cons, h ds ρ1 ρ' e']
theorem g_tup {gs : TGs} {y : XGs} {n : Nat} (hs : SGs K gs y) (hl : lenIs y n) : SG K (gTup K n gs) (xgTup y) := fun A Λ ρ σ S H v d Q ρ' r dv e k => by
  cases d with
  | tup l =>
    obtain ⟨p, xs, rfl, h1, h2⟩ := den_tup.mp dv
    exact ⟨p, xs, rfl, sqT_mono r.sub h1, by rw [← h2.length]; exact hl l ρ ρ' e, hs A Λ ρ σ S H xs l Q ρ' r h2 e k⟩
  | _ => cases e
@[simp] noncomputable def xAsg (e : XE) (g : XG) : XS := fun ρ => (e ρ).bind fun d => (g d ρ).map .nx
theorem s_asg {te : TE} {g : TG} {e : XE} {x : XG} (h : SE K te e) (hg : SG K g x) : SS K (tAsg te g) (xAsg e x) := fun A Λ ρ σ S H E o r y k => by
  unfold xAsg at y
  cases q : e ρ with
  | none => rw [q] at y; cases y
  | some d =>
    rw [q] at y
    dsimp only [Option.bind] at y
    cases q2 : x d ρ with
    | none => rw [q2] at y; cases y
    | some ρ' =>
      rw [q2] at y
      cases y
      exact h ρ σ S H _ d r.toRl q fun v S1 H1 z1 d1 => hg A Λ ρ σ S1 H1 v d _ ρ' (r.ext z1) d1 q2 fun σ' r' => k σ' S1 H1 r' z1.sh
@[simp] noncomputable def xAsgT (e : Env → Option O) (i : Nat) : XS := fun ρ => (e ρ).map fun o => .nx (ρ.set i (.ow o))
theorem s_asgT {te : TE} {e : Env → Option O} {i : Nat} (h : STr K te e) : SS K (tAsg te (gName i)) (xAsgT e i) := fun A Λ ρ σ S H E o r y k => by
  unfold xAsgT at y
  cases q : e ρ with
  | none => rw [q] at y; cases y
  | some ot =>
    rw [q] at y
    cases y
    obtain ⟨Φ, f⟩ := r
    refine h ρ σ S H _ ot ⟨A, Λ, Φ, f⟩ q fun v fp S1 H1 z1 o1 nd n => ?_
    have r1 := f.ext z1
    refine k _ S1 H1 ⟨_, r1.put (H' := H1) i r1.sub r1.asub o1 nd (fun b hb => ⟨(n b hb).2, f.asub.free (n b hb).1⟩) fun j o' hj e1 b hb => ⟨rfl, fun hf => ?_⟩⟩ z1.sh
    obtain ⟨w, _, k2, _, _⟩ := f.ow j o' e1
    exact k2.there b hb (n b hf).1
@[simp] noncomputable def xAsgF (e : XA) (i : Nat) : XS := xAsgT (xLT e) i
theorem s_asgF {te : TE} {e : XA} {i : Nat} (h : SF K te e) : SS K (tAsg te (gName i)) (xAsgF e i) := s_asgT h.t
noncomputable def subO : O → List Int → Option O
  | o, [] => some o
  | .lst l, k :: r => (atI l k).bind fun o => subO o r
  | .tup l, k :: r => (atI l k).bind fun o => subO o r
  | .sh _, _ :: _ => none
noncomputable def putL (l : List O) (k : Int) (f : O → O) : List O := match ixN l.length k with
  | some j => (match l[j]? with | some o => l.set j (f o) | none => l)
  | none => l
noncomputable def putO : O → List Int → O → O
  | _, [], q => q
  | .lst l, k :: r, q => .lst (putL l k fun o => putO o r q)
  | .tup l, k :: r, q => .tup (putL l k fun o => putO o r q)
  | .sh d, _ :: _, _ => .sh d
noncomputable def WalkV (H : Hp) : V → List Int → V → Prop
  | v, [], w => v = w
  | v, k :: r, w => ∃ a xs u, v = .ref a ∧ (H a = some (.lst xs) ∨ H a = some (.tup xs)) ∧ atI xs k = some u ∧ WalkV H u r w
theorem WalkV.mono (s : Same H H') : ∀ {p : List Int} {v w : V}, WalkV H v p w → WalkV H' v p w
  | [], _, _, h => h
  | _ :: _, _, _, ⟨a, xs, u, e, h, k, m⟩ => ⟨a, xs, u, e, h.elim (fun z => .inl (s _ _ z)) (fun z => .inr (s _ _ z)), k, m.mono s⟩
theorem WalkV.uniq : ∀ {p : List Int} {v w w' : V}, WalkV H v p w → WalkV H v p w' → w = w'
  | [], _, _, _, h, k => h.symm.trans k
  | _ :: _, _, _, _, hpt0, hpt1 => by
    obtain ⟨a, xs, u, e, h, k, m⟩ := hpt0
    obtain ⟨a', xs', u', e', h', k', m'⟩ := hpt1
    rw [e] at e'
    cases e'
    have : xs = xs' := by
      rcases h with h | h <;> rcases h' with h' | h' <;> rw [h] at h' <;> cases h' <;> rfl
    subst this
    rw [k] at k'
    cases k'
    exact m.uniq m'
theorem WalkV.snoc : ∀ {p : List Int} {v w u : V} {k : Int} {a : Addr} {xs : List V}, WalkV H v p w → w = .ref a → (H a = some (.lst xs) ∨ H a = some (.tup xs)) → atI xs k = some u → WalkV H v (p ++ [k]) u
  | [], _, _, u, k, a, xs, h, e, h1, h2 => ⟨a, xs, u, h.trans e, h1, h2, rfl⟩
  | _ :: _, _, _, _, _, _, _, ⟨b, ys, u', e, h, k, m⟩, e', h1, h2 => ⟨b, ys, u', e, h, k, m.snoc e' h1 h2⟩
theorem subO_snoc : ∀ {p : List Int} {o q : O} {k : Int}, subO o (p ++ [k]) = some q → ∃ q0, subO o p = some q0 ∧ subO q0 [k] = some q
  | [], o, q, k, h => ⟨o, by unfold subO; rfl, h⟩
  | j :: p, o, q, k, h => by
    cases o with
    | sh d => cases h
    | lst l =>
      have h' : (atI l j).bind (fun o => subO o (p ++ [k])) = some q := h
      cases e : atI l j with
      | none => rw [e] at h'; cases h'
      | some o1 =>
        rw [e] at h'
        obtain ⟨q0, a, b⟩ := subO_snoc (p := p) h'
        exact ⟨q0, by show (atI l j).bind (fun o => subO o p) = some q0; rw [e]; exact a, b⟩
    | tup l =>
      have h' : (atI l j).bind (fun o => subO o (p ++ [k])) = some q := h
      cases e : atI l j with
      | none => rw [e] at h'; cases h'
      | some o1 =>
        rw [e] at h'
        obtain ⟨q0, a, b⟩ := subO_snoc (p := p) h'
        exact ⟨q0, by show (atI l j).bind (fun o => subO o p) = some q0; rw [e]; exact a, b⟩
theorem Owns.split : ∀ {l : List O} {xs : List V} {f : List Addr} {j : Nat} {o : O}, Owns K S H l xs f → l[j]? = some o → ∃ x f1 f2 f3, xs[j]? = some x ∧ f = f1 ++ (f2 ++ f3) ∧ Own K S H o x f2 ∧
    ∀ H' o' f2', Own K S H' o' x f2' → (∀ b ∈ f1, H' b = H b) → (∀ b ∈ f3, H' b = H b) → Owns K S H' (l.set j o') xs (f1 ++ (f2' ++ f3))
  | [], _, _, _, _, _, e => by simp at e
  | o0 :: l, _, _, 0, o, h, e => by
    obtain ⟨y, ys, f, g, rfl, rfl, a, b⟩ := h.cons_of
    simp at e; subst e
    exact ⟨y, [], f, g, rfl, rfl, a, fun H' o' f2' h1 _ h3 => Owns.cons (f := f2') h1 (b.mono (Same.refl _) h3)⟩
  | o0 :: l, _, _, j + 1, o, h, e => by
    obtain ⟨y, ys, f, g, rfl, rfl, a, b⟩ := h.cons_of
    obtain ⟨x, f1, f2, f3, e1, rfl, h1, h2⟩ := b.split (j := j) (by simpa using e)
    refine ⟨x, f ++ f1, f2, f3, by simpa using e1, by rw [List.append_assoc], h1, fun H' o' f2' k1 k2 k3 => ?_⟩
    rw [List.append_assoc]
    exact .cons (a.mono (Same.refl _) fun b hb => k2 b (List.mem_append_left _ hb)) (h2 H' o' f2' k1 (fun b hb => k2 b (List.mem_append_right _ hb)) k3)
theorem atI_ix {α : Type} {l : List α} {k : Int} {x : α} (h : atI l k = some x) : ∃ j, ixN l.length k = some j ∧ l[j]? = some x := by
  unfold atI at h
  cases q : ixN l.length k with
  | none => rw [q] at h; cases h
  | some j => rw [q] at h; exact ⟨j, rfl, h⟩
theorem focus : ∀ {p : List Int} {o q : O} {v : V} {fp : List Addr}, Own K S H o v fp → fp.Nodup → subO o p = some q → ∃ w fq, Own K S H q w fq ∧ WalkV H v p w ∧ (∀ b ∈ fq, b ∈ fp) ∧ fq.Nodup ∧
    ∀ H' q' fq', Own K S H' q' w fq' → fq'.Nodup → (∀ b ∈ fp, b ∉ fq → H' b = H b) → (∀ b ∈ fq', b ∈ fp → b ∈ fq) → ∃ fp', Own K S H' (putO o p q') v fp' ∧ fp'.Nodup ∧ ∀ b ∈ fp', b ∈ fp ∨ b ∈ fq'
  | [], o, q, v, fp, h, nd, e => by
    have e' : some o = some q := by unfold subO at e; exact e
    cases e'
    exact ⟨v, fp, h, rfl, fun b hb => hb, nd, fun H' q' fq' h1 n1 _ _ => ⟨fq', by unfold putO; exact h1, n1, fun b hb => .inr hb⟩⟩
  | k :: r, o, q, v, fp, h, nd, e => by
    have body : ∀ (l : List O) (a : Addr) (xs : List V) (f : List Addr), v = .ref a → fp = a :: f → (H a = some (.lst xs) ∨ H a = some (.tup xs)) → Owns K S H l xs f → ((atI l k).bind fun o => subO o r) = some q →
        ∃ w fq, Own K S H q w fq ∧ WalkV H v (k :: r) w ∧ (∀ b ∈ fq, b ∈ fp) ∧ fq.Nodup ∧ ∀ H' q' fq', Own K S H' q' w fq' → fq'.Nodup → (∀ b ∈ fp, b ∉ fq → H' b = H b) → (∀ b ∈ fq', b ∈ fp → b ∈ fq) →
          ∃ f', Owns K S H' (putL l k fun o => putO o r q') xs f' ∧ H' a = H a ∧ (a :: f').Nodup ∧ ∀ b ∈ a :: f', b ∈ fp ∨ b ∈ fq' := by
      rintro l a xs f rfl rfl ha hl hs
      obtain ⟨na, nf⟩ := List.nodup_cons.mp nd
      cases qa : atI l k with
      | none => rw [qa] at hs; cases hs
      | some o1 =>
        rw [qa] at hs
        obtain ⟨j, ej, el⟩ := atI_ix qa
        obtain ⟨x, f1, f2, f3, ex, rfl, h1, h2⟩ := hl.split el
        obtain ⟨n1, n23, d1⟩ := List.nodup_append.mp nf
        obtain ⟨n2, n3, d2⟩ := List.nodup_append.mp n23
        obtain ⟨w, fq, k1, k2, k3, k4, k5⟩ := focus (p := r) h1 n2 hs
        have ax : atI xs k = some x := by unfold atI; rw [← hl.length, ej]; exact ex
        refine ⟨w, fq, k1, ⟨a, xs, x, rfl, ha, ax, k2⟩, fun b hb => List.mem_cons_of_mem _ (List.mem_append_right _ (List.mem_append_left _ (k3 b hb))), k4, fun H' q' fq' g1 g2 g3 g4 => ?_⟩
        have in2 : ∀ b ∈ fq, b ∈ f2 := k3
        have a1 : ∀ b ∈ f1, b ∉ fq := fun b hb hq => d1 b hb b (List.mem_append_left _ (in2 b hq)) rfl
        have a3 : ∀ b ∈ f3, b ∉ fq := fun b hb hq => d2 b (in2 b hq) b hb rfl
        have aa : a ∉ fq := fun hq => na (List.mem_append_right _ (List.mem_append_left _ (in2 a hq)))
        obtain ⟨f2', m1, m2, m3⟩ := k5 H' q' fq' g1 g2 (fun b hb hn => g3 b (List.mem_cons_of_mem _ (List.mem_append_right _ (List.mem_append_left _ hb))) hn) fun b hb hp => g4 b hb (List.mem_cons_of_mem _ (List.mem_append_right _ (List.mem_append_left _ hp)))
        have out : ∀ b ∈ f2', b ∉ f1 ∧ b ∉ f3 ∧ b ≠ a := fun b hb => by
          rcases m3 b hb with hb | hb
          · exact ⟨fun z => d1 b z b (List.mem_append_left _ hb) rfl, fun z => d2 b hb b z rfl, fun z => na (z ▸ List.mem_append_right _ (List.mem_append_left _ hb))⟩
          · refine ⟨fun z => a1 b z (g4 b hb (List.mem_cons_of_mem _ (List.mem_append_left _ z))), fun z => a3 b z (g4 b hb (List.mem_cons_of_mem _ (List.mem_append_right _ (List.mem_append_right _ z)))), fun z => ?_⟩
            subst z
            exact aa (g4 b hb List.mem_cons_self)
        refine ⟨f1 ++ (f2' ++ f3), ?_, g3 a List.mem_cons_self aa, ?_, fun b hb => ?_⟩
        · unfold putL
          rw [ej]
          dsimp only
          rw [el]
          exact h2 H' _ f2' m1 (fun b hb => g3 b (List.mem_cons_of_mem _ (List.mem_append_left _ hb)) (a1 b hb)) fun b hb => g3 b (List.mem_cons_of_mem _ (List.mem_append_right _ (List.mem_append_right _ hb))) (a3 b hb)
        · refine List.nodup_cons.mpr ⟨fun z => ?_, List.nodup_append.mpr ⟨n1, List.nodup_append.mpr ⟨m2, n3, fun b hb c hc e => (out b hb).2.1 (e ▸ hc)⟩, fun b hb c hc e => ?_⟩⟩
          · rcases List.mem_append.mp z with z | z
            · exact na (List.mem_append_left _ z)
            · rcases List.mem_append.mp z with z | z
              · exact (out a z).2.2 rfl
              · exact na (List.mem_append_right _ (List.mem_append_right _ z))
          · subst e
            rcases List.mem_append.mp hc with hc | hc
            · exact (out b hc).1 hb
            · exact d1 b hb b (List.mem_append_right _ hc) rfl
        · rcases List.mem_cons.mp hb with rfl | hb
          · exact .inl List.mem_cons_self
          · rcases List.mem_append.mp hb with hb | hb
            · exact .inl (List.mem_cons_of_mem _ (List.mem_append_left _ hb))
            · rcases List.mem_append.mp hb with hb | hb
              · exact (m3 b hb).imp (fun z => List.mem_cons_of_mem _ (List.mem_append_right _ (List.mem_append_left _ z))) id
              · exact .inl (List.mem_cons_of_mem _ (List.mem_append_right _ (List.mem_append_right _ hb)))
    cases o with
    | sh d => cases e
    | lst l =>
      obtain ⟨a, xs, f, e1, e2, h1, h2⟩ := own_lst.mp h
      obtain ⟨w, fq, k1, k2, k3, k4, k5⟩ := body l a xs f e1 e2 (.inl h1) h2 e
      refine ⟨w, fq, k1, k2, k3, k4, fun H' q' fq' g1 g2 g3 g4 => ?_⟩
      obtain ⟨f', m1, m2, m3, m4⟩ := k5 H' q' fq' g1 g2 g3 g4
      exact ⟨a :: f', by unfold putO; exact own_lst.mpr ⟨a, xs, f', e1, rfl, by rw [m2]; exact h1, m1⟩, m3, m4⟩
    | tup l =>
      obtain ⟨a, xs, f, e1, e2, h1, h2⟩ := own_tup.mp h
      obtain ⟨w, fq, k1, k2, k3, k4, k5⟩ := body l a xs f e1 e2 (.inr h1) h2 e
      refine ⟨w, fq, k1, k2, k3, k4, fun H' q' fq' g1 g2 g3 g4 => ?_⟩
      obtain ⟨f', m1, m2, m3, m4⟩ := k5 H' q' fq' g1 g2 g3 g4
      exact ⟨a :: f', by unfold putO; exact own_tup.mpr ⟨a, xs, f', e1, rfl, by rw [m2]; exact h1, m1⟩, m3, m4⟩
noncomputable abbrev XP := Env → Option (List Int)
noncomputable def SPth (K : PySem.W.Frag) (to : TE) (i : Nat) (p : XP) : Prop := ∀ ρ σ S H (Q : VK) is o q, Rl K ρ σ S H → ρ[i]? = some (.ow o) → p ρ = some is → subO o is = some q → (∀ v w S' H', σ[i]? = some (some v) → Ext S H S' H' → WalkV H' v is w → Q w H') → to σ H Q
@[simp] noncomputable def xPv : XP := fun _ => some []
theorem p_var (i : Nat) : SPth K (tVar i) i xPv := fun ρ σ S H Q is o q r h1 h2 h3 k => by
  cases h2
  obtain ⟨v, fp, e, _⟩ := r.ow i o h1
  exact ⟨v, e, k v v S H e (Ext.refl r.sub) rfl⟩
@[simp] noncomputable def xPi (p : XP) (ix : XE) : XP := fun ρ => (p ρ).bind fun is => (ix ρ).bind fun d => match d with | .int k => some (is ++ [k]) | _ => none
theorem p_ix {to ti : TE} {i : Nat} {p : XP} {ix : XE} (hp : SPth K to i p) (hi : SPk K ti ix) : SPth K (tOp (rIx K) to ti) i (xPi p ix) := fun ρ σ S H Q is o q r h1 h2 h3 k => by
  unfold xPi at h2
  cases e1 : p ρ with
  | none => rw [e1] at h2; cases h2
  | some js =>
    rw [e1] at h2
    dsimp only [Option.bind] at h2
    cases e2 : ix ρ with
    | none => rw [e2] at h2; cases h2
    | some d =>
      rw [e2] at h2
      cases d with
      | int kk =>
        cases h2
        obtain ⟨q0, s1, s2⟩ := subO_snoc h3
        refine hp ρ σ S H _ js o q0 r h1 e1 s1 fun v w S1 H1 ev z1 wk => ?_
        have r1 := r.ext z1
        refine hi ρ σ S1 H1 _ _ r1 e2 fun u S2 H2 z2 d2 => ?_
        have r2 := r1.ext z2
        obtain ⟨v', fp, ev', ow, nd, _⟩ := r2.ow i o h1
        rw [ev] at ev'
        cases ev'
        obtain ⟨w', fq, k1, k2, _⟩ := focus ow nd s1
        have ew := k2.uniq (wk.mono (z2.same r1.sub))
        subst ew
        rw [d2.int]
        cases q0 with
        | sh _ => cases s2
        | lst l =>
          have s2' : (atI l kk).bind (fun o => subO o []) = some q := s2
          cases e3 : atI l kk with
          | none => rw [e3] at s2'; cases s2'
          | some o1 =>
            obtain ⟨a, xs, f, rfl, rfl, hx, hl⟩ := own_lst.mp k1
            obtain ⟨j, ej, el⟩ := atI_ix e3
            obtain ⟨x, _, _, _, ex, _⟩ := hl.split el
            have ax : atI xs kk = some x := by unfold atI; rw [← hl.length, ej]; exact ex
            exact .inl ⟨a, xs, kk, x, rfl, rfl, SqL.of hx, ax, k v x S2 H2 ev (z1.trans z2) (k2.snoc rfl (.inl hx) ax)⟩
        | tup l =>
          have s2' : (atI l kk).bind (fun o => subO o []) = some q := s2
          cases e3 : atI l kk with
          | none => rw [e3] at s2'; cases s2'
          | some o1 =>
            obtain ⟨a, xs, f, rfl, rfl, hx, hl⟩ := own_tup.mp k1
            obtain ⟨j, ej, el⟩ := atI_ix e3
            obtain ⟨x, _, _, _, ex, _⟩ := hl.split el
            have ax : atI xs kk = some x := by unfold atI; rw [← hl.length, ej]; exact ex
            exact .inr (.inl ⟨a, xs, kk, x, rfl, rfl, SqT.of hx, ax, k v x S2 H2 ev (z1.trans z2) (k2.snoc rfl (.inr hx) ax)⟩)
      | _ => cases h2
theorem RlF.at {A : Hp} {Λ : Nat → Option Addr} {Φ : Nat → List Addr} {ρ : Env} {σ : St} {i : Nat} {o : O} {is : List Int} {l : List O} {v w : V} (f : RlF K A Λ Φ ρ σ S H) (h1 : ρ[i]? = some (.ow o)) (h2 : subO o is = some (.lst l)) (ev : σ[i]? = some (some v)) (wk : WalkV H v is w) :
    ∃ a xs f0, w = .ref a ∧ H a = some (.lst xs) ∧ Owns K S H l xs f0 ∧ (a :: f0).Nodup ∧ (∀ b ∈ a :: f0, b ∈ Φ i) ∧ ∀ l' xs' f', (∀ H', (∀ b, b ≠ a → H' b = H b) → Owns K S H' l' xs' f') → (a :: f').Nodup → (∀ b ∈ f', b ∈ f0 ∨ ((∀ (j : Nat) o', ρ[j]? = some (.ow o') → b ∉ Φ j) ∧ S b = none ∧ A b = none)) →
      RlA K A Λ (ρ.set i (.ow (putO o is (.lst l')))) σ S (upd H a (.lst xs')) := by
  obtain ⟨v', e', ow, nd, n⟩ := f.ow i o h1
  rw [ev] at e'
  cases e'
  obtain ⟨w', fq, k1, k2, k3, k4, k5⟩ := focus ow nd h2
  have ew := k2.uniq wk
  subst ew
  obtain ⟨a, xs, g, rfl, rfl, hx, hl⟩ := own_lst.mp k1
  have ain := k3 a List.mem_cons_self
  refine ⟨a, xs, g, rfl, hx, hl, k4, k3, fun l' xs' f' g1 g2 g3 => ?_⟩
  have ne : ∀ b, b ≠ a → upd H a (.lst xs') b = H b := fun b hb => upd_ne hb
  obtain ⟨fp', m1, m2, m3⟩ := k5 (upd H a (.lst xs')) (.lst l') (a :: f') (own_lst.mpr ⟨a, xs', f', rfl, rfl, upd_same, g1 _ ne⟩) g2 (fun b hb hn => ne b fun z => hn (z ▸ List.mem_cons_self)) fun b hb hp => by
    rcases List.mem_cons.mp hb with rfl | hb
    · exact List.mem_cons_self
    · rcases g3 b hb with z | ⟨z, _⟩
      · exact List.mem_cons_of_mem _ z
      · exact absurd hp (z i o h1)
  have sub' : Same S (upd H a (.lst xs')) := fun b u e => by rw [ne b fun z => by subst z; rw [(n b ain).1] at e; cases e]; exact f.sub b u e
  have asub' : Same A (upd H a (.lst xs')) := fun b u e => by rw [ne b fun z => by subst z; rw [(n b ain).2] at e; cases e]; exact f.asub b u e
  have fin := f.put (H' := upd H a (.lst xs')) i sub' asub' m1 m2 (fun b hb => by
    rcases m3 b hb with z | z
    · exact n b z
    · rcases List.mem_cons.mp z with rfl | z
      · exact n b ain
      · rcases g3 b z with z | ⟨_, z⟩
        · exact n b (k3 b (List.mem_cons_of_mem _ z))
        · exact z) fun j o' hj e1 b hb => by
      have nb : b ∉ Φ i := fun z => f.dj j i o' o hj e1 h1 b hb z
      refine ⟨ne b fun z => nb (z ▸ ain), fun z => ?_⟩
      rcases m3 b z with z | z
      · exact nb z
      · rcases List.mem_cons.mp z with rfl | z
        · exact nb ain
        · rcases g3 b z with z | ⟨z, _⟩
          · exact nb (k3 b (List.mem_cons_of_mem _ z))
          · exact z j o' e1 hb
  rw [set_same ev] at fin
  exact ⟨_, fin⟩
theorem RlF.fresh {A : Hp} {Λ : Nat → Option Addr} {Φ : Nat → List Addr} {ρ : Env} {σ : St} {b : Addr} (f : RlF K A Λ Φ ρ σ S H) (h : H b = none) : (∀ (j : Nat) o', ρ[j]? = some (.ow o') → b ∉ Φ j) ∧ S b = none ∧ A b = none :=
  ⟨fun j o' e hb => by obtain ⟨_, _, ow, _⟩ := f.ow j o' e; exact ow.there b hb h, f.sub.free h, f.asub.free h⟩
@[simp] noncomputable def xAppP (i : Nat) (p : XP) (e : Env → Option O) : XS := fun ρ => match ρ[i]? with
  | some (.ow o) => (p ρ).bind fun is => (e ρ).bind fun x => match subO o is with
    | some (.lst l) => if l.length < LIM then some (.nx (ρ.set i (.ow (putO o is (.lst (l ++ [x])))))) else none
    | _ => none
  | _ => none
theorem s_appP {to te : TE} {i : Nat} {p : XP} {e : Env → Option O} (hp : SPth K to i p) (h : STr K te e) : SS K (tDrop (tBM K "list" rAppend to (tCons te tNil))) (xAppP i p e) := fun A Λ ρ σ S H E out r y k => by
  unfold xAppP at y
  cases q0 : ρ[i]? with
  | none => rw [q0] at y; cases y
  | some s =>
    rw [q0] at y
    cases s with
    | un => cases y
    | lo => cases y
    | sh d => cases y
    | ow o =>
      dsimp only at y
      cases q1 : p ρ with
      | none => rw [q1] at y; cases y
      | some is =>
        rw [q1] at y
        dsimp only [Option.bind] at y
        cases q2 : e ρ with
        | none => rw [q2] at y; cases y
        | some x =>
          rw [q2] at y
          dsimp only at y
          cases q3 : subO o is with
          | none => rw [q3] at y; cases y
          | some qo =>
            rw [q3] at y
            cases qo with
            | sh _ => cases y
            | tup _ => cases y
            | lst l =>
              dsimp only at y
              split at y
              · rename_i hl
                cases y
                obtain ⟨Φ, f⟩ := r
                refine hp ρ σ S H _ is o _ ⟨A, Λ, Φ, f⟩ q0 q1 q3 fun v w S1 H1 ev z1 wk => ?_
                have f1 := f.ext z1
                obtain ⟨a, xs, g0, rfl, hx, hw, nd0, in0, _⟩ := f1.at q0 q3 ev wk
                refine ⟨.inl ⟨rfl, xs, SqL.of hx⟩, h ρ σ S1 H1 _ x ⟨A, Λ, Φ, f1⟩ q2 fun u fu S2 H2 z2 ou nd n => ?_⟩
                have f2 := f1.ext z2
                obtain ⟨a', xs', g1, e1, hx', hw', nd1, in1, up⟩ := f2.at q0 q3 ev (wk.mono (z2.same f1.sub))
                cases e1
                have fr : ∀ b ∈ fu, (∀ (j : Nat) o', ρ[j]? = some (.ow o') → b ∉ Φ j) ∧ S2 b = none ∧ A b = none := fun b hb => ⟨(f1.fresh (n b hb).1).1, (n b hb).2, (f1.fresh (n b hb).1).2.2⟩
                have fa : ∀ b ∈ fu, b ∉ a :: g1 := fun b hb z => (fr b hb).1 i o q0 (in1 b z)
                obtain ⟨na, ng⟩ := List.nodup_cons.mp nd1
                refine ⟨a, xs', u, rfl, rfl, hx', ?_, ?_⟩
                · rw [← hw'.length]; exact Nat.lt_trans hl lim_lt
                · refine k σ S2 _ (up (l ++ [x]) (xs' ++ [u]) (g1 ++ fu) (fun H' ne => ?_) ?_ fun b hb => ?_) (z1.sh.trans z2.sh)
                  · have := (hw'.mono (H' := H') (Same.refl _) fun b hb => ne b fun z => na (z ▸ hb)).append (.cons (ou.mono (H' := H') (Same.refl _) fun b hb => ne b fun z => fa b hb (z ▸ List.mem_cons_self)) .nil)
                    rw [List.append_nil] at this
                    exact this
                  · refine List.nodup_cons.mpr ⟨fun z => ?_, List.nodup_append.mpr ⟨ng, nd, fun b hb c hc e => fa c hc (e ▸ List.mem_cons_of_mem _ hb)⟩⟩
                    rcases List.mem_append.mp z with z | z
                    · exact na z
                    · exact fa a z List.mem_cons_self
                  · rcases List.mem_append.mp hb with hb | hb
                    · exact .inl hb
                    · exact .inr (fr b hb)
              · cases y
@[simp] noncomputable def xPopP (i : Nat) (p : XP) (j : Nat) : XS := fun ρ => match ρ[i]? with
  | some (.ow o) => (p ρ).bind fun is => match subO o is with
    | some (.lst l) => (match l.getLast? with
      | some (.sh d) => some (.nx ((ρ.set i (.ow (putO o is (.lst l.dropLast)))).set j (.sh d)))
      | _ => none)
    | _ => none
  | _ => none
@[simp] noncomputable def xRevP (i : Nat) (p : XP) : XS := fun ρ => match ρ[i]? with
  | some (.ow o) => (p ρ).bind fun is => match subO o is with
    | some (.lst l) => (match shs l with | some ds => some (.nx (ρ.set i (.ow (putO o is (.lst (ds.reverse.map .sh)))))) | none => none)
    | _ => none
  | _ => none
noncomputable def rExtM : V → List V → Hp → VK → Prop := fun x vs H Q => ∃ l b xs zs, x = .ref l ∧ vs = [.ref b] ∧ H l = some (.lst xs) ∧ Rd H b (.lst zs) ∧ xs.length + zs.length ≤ sizeLine ∧ Q .non (upd H l (.lst (xs ++ zs)))
@[simp] noncomputable def xExtP (i : Nat) (p : XP) (e : XE) : XS := fun ρ => match ρ[i]? with
  | some (.ow o) => (p ρ).bind fun is => (e ρ).bind fun d => match subO o is, d with
    | some (.lst l), .lst ds => if l.length + ds.length ≤ LIM then some (.nx (ρ.set i (.ow (putO o is (.lst (l ++ ds.map .sh)))))) else none
    | _, _ => none
  | _ => none
theorem s_extP {to te : TE} {i : Nat} {p : XP} {e : XE} (hp : SPth K to i p) (h : SE K te e) : SS K (tDrop (tBM K "list" rExtM to (tCons te tNil))) (xExtP i p e) := fun A Λ ρ σ S H E out r y k => by
  unfold xExtP at y
  cases q0 : ρ[i]? with
  | none => rw [q0] at y; cases y
  | some s =>
    rw [q0] at y
    cases s with
    | un => cases y
    | lo => cases y
    | sh d => cases y
    | ow o =>
      dsimp only at y
      cases q1 : p ρ with
      | none => rw [q1] at y; cases y
      | some is =>
        rw [q1] at y
        dsimp only [Option.bind] at y
        cases q2 : e ρ with
        | none => rw [q2] at y; cases y
        | some dd =>
          rw [q2] at y
          dsimp only at y
          cases q3 : subO o is with
          | none => rw [q3] at y; cases y
          | some qo =>
            rw [q3] at y
            cases qo with
            | sh _ => cases y
            | tup _ => cases y
            | lst l =>
              cases dd with
              | lst ds =>
                dsimp only at y
                split at y
                · rename_i hl
                  cases y
                  obtain ⟨Φ, f⟩ := r
                  refine hp ρ σ S H _ is o _ ⟨A, Λ, Φ, f⟩ q0 q1 q3 fun v w S1 H1 ev z1 wk => ?_
                  have f1 := f.ext z1
                  obtain ⟨a, xs, g0, rfl, hx, hw, nd0, in0, _⟩ := f1.at q0 q3 ev wk
                  refine ⟨.inl ⟨rfl, xs, SqL.of hx⟩, h ρ σ S1 H1 _ _ ⟨A, Λ, Φ, f1⟩ q2 fun u S2 H2 z2 d2 => ?_⟩
                  have f2 := f1.ext z2
                  obtain ⟨a', xs', g1, e1, hx', hw', nd1, in1, up⟩ := f2.at q0 q3 ev (wk.mono (z2.same f1.sub))
                  cases e1
                  obtain ⟨b, zs, rfl, hb, dz⟩ := den_lst.mp d2
                  obtain ⟨na, ng⟩ := List.nodup_cons.mp nd1
                  refine ⟨a, b, xs', zs, rfl, rfl, hx', rd_mono z2.sub hb, ?_, ?_⟩
                  · rw [← hw'.length, ← dz.length]; exact Nat.le_of_lt (Nat.lt_of_le_of_lt hl lim_lt)
                  · refine k σ S2 _ (up (l ++ ds.map .sh) (xs' ++ zs) g1 (fun H' ne => ?_) nd1 fun b hb => .inl hb) (z1.sh.trans z2.sh)
                    have := (hw'.mono (H' := H') (Same.refl _) fun b hb => ne b fun z => na (z ▸ hb)).append (owns_sh (H := H') dz)
                    rw [List.append_nil] at this
                    exact this
                · cases y
              | _ => cases y
@[simp] noncomputable def xSetP (i : Nat) (p : XP) (ix e : XE) : XS := fun ρ => (e ρ).bind fun d => match ρ[i]? with
  | some (.ow o) => (p ρ).bind fun is => (ix ρ).bind fun k => match subO o is, k with
    | some (.lst l), .int k => (match shs l with | some ds => (ixN ds.length k).map fun j => .nx (ρ.set i (.ow (putO o is (.lst ((ds.set j d).map .sh))))) | none => none)
    | _, _ => none
  | _ => none
theorem s_setP {to te ti : TE} {i : Nat} {p : XP} {e ix : XE} (h : SE K te e) (hp : SPth K to i p) (hi : SPk K ti ix) : SS K (tAsg te (gSub to ti rSetL)) (xSetP i p ix e) := fun A Λ ρ σ S H E out r y k => by
  unfold xSetP at y
  cases q : e ρ with
  | none => rw [q] at y; cases y
  | some d =>
    rw [q] at y
    dsimp only [Option.bind] at y
    cases q0 : ρ[i]? with
    | none => rw [q0] at y; cases y
    | some s =>
      rw [q0] at y
      cases s with
      | un => cases y
      | lo => cases y
      | sh d => cases y
      | ow o =>
        dsimp only at y
        cases q1 : p ρ with
        | none => rw [q1] at y; cases y
        | some is =>
          rw [q1] at y
          dsimp only at y
          cases q2 : ix ρ with
          | none => rw [q2] at y; cases y
          | some dk =>
            rw [q2] at y
            dsimp only at y
            cases q3 : subO o is with
            | none => rw [q3] at y; cases y
            | some qo =>
              rw [q3] at y
              cases qo with
              | sh _ => cases y
              | tup _ => cases y
              | lst l =>
                cases dk with
                | int kk =>
                  dsimp only at y
                  cases q4 : shs l with
                  | none => rw [q4] at y; cases y
                  | some ds =>
                    rw [q4] at y
                    dsimp only at y
                    cases q5 : ixN ds.length kk with
                    | none => rw [q5] at y; cases y
                    | some j =>
                      rw [q5] at y
                      cases y
                      have ed := of_shs q4
                      subst ed
                      obtain ⟨Φ, f⟩ := r
                      refine h ρ σ S H _ d ⟨A, Λ, Φ, f⟩ q fun u S0 H0 z0 d0 => ?_
                      have f0 := f.ext z0
                      refine hp ρ σ S0 H0 _ is o _ ⟨A, Λ, Φ, f0⟩ q0 q1 q3 fun v w S1 H1 ev z1 wk => ?_
                      have f1 := f0.ext z1
                      refine hi ρ σ S1 H1 _ _ ⟨A, Λ, Φ, f1⟩ q2 fun w2 S2 H2 z2 d2 => ?_
                      have f2 := f1.ext z2
                      obtain ⟨a', xs', g1, rfl, hx', hw', nd1, in1, up⟩ := f2.at q0 q3 ev (wk.mono (z2.same f1.sub))
                      obtain ⟨hd, rfl⟩ := of_owns_sh hw'
                      refine ⟨a', xs', kk, j, rfl, d2.int, hx', by rw [← hd.length]; exact q5, ?_⟩
                      exact k σ S2 _ (up ((ds.set j d).map .sh) (xs'.set j u) [] (fun H' ne => owns_sh (hd.set j ((d0.mono z1.sh).mono z2.sh))) nd1 fun b hb => by cases hb) ((z0.sh.trans z1.sh).trans z2.sh)
                | _ => cases y
@[simp] noncomputable def xAug (i : Nat) (e : XE) (f : D → D → Option D) : XS := fun ρ => match ρ[i]? with
  | some (.sh x) => (e ρ).bind fun y => (f x y).map fun z => .nx (ρ.set i (.sh z))
  | _ => none
theorem s_aug {te : TE} {e : XE} {i : Nat} {ti : TIp} {f : D → D → Option D} (h : SPk K te e) (hr : SR2 K ti f) : SS K (tAug i te ti) (xAug i e f) := fun A Λ ρ σ S H E o r y k => by
  unfold xAug at y
  cases q0 : ρ[i]? with
  | none => rw [q0] at y; cases y
  | some s =>
    rw [q0] at y
    cases s with
    | un => cases y
    | lo => cases y
    | ow d => cases y
    | sh x =>
      dsimp only at y
      cases q : e ρ with
      | none => rw [q] at y; cases y
      | some d =>
        rw [q] at y
        dsimp only [Option.bind] at y
        cases q2 : f x d with
        | none => rw [q2] at y; cases y
        | some g =>
          rw [q2] at y
          cases y
          obtain ⟨v, h1, h2⟩ := r.sh i x q0
          refine ⟨v, h1, h ρ σ S H _ d r.toRl q fun w S1 H1 z1 d1 => ?_⟩
          exact hr S1 H1 v w x d g _ z1.sub (.inl (h2.mono z1.sh)) d1 q2 fun u S2 H2 z2 d2 => k _ S2 H2 ((r.ext (z1.trans z2)).set i d2) (z1.sh.trans z2.sh)
@[simp] noncomputable def xDrop (e : XE) : XS := fun ρ => (e ρ).map fun _ => .nx ρ
end
end M
namespace M
open PySem L2
section
variable {K : PySem.W.Frag} {S S' H H' : Hp}
noncomputable def Walks (K : PySem.W.Frag) (J : It) (S : Hp) (l : List D) : Prop := ∀ S' H', Same S S' → Same S' H' →
  (∀ i d, l[i]? = some d → J.go i H' ∧ ∀ x H'', J.yld i H' x H'' → H'' = H' ∧ Den K S' d x) ∧ J.stop l.length H'
noncomputable def SI (K : PySem.W.Frag) (wi : TI) (e : XA) : Prop := ∀ ρ σ S H (R : It → Hp → Prop) l, Rl K ρ σ S H → e ρ = some l → (∀ J S' H', Ext S H S' H' → Walks K J S' l → R J H') → wi σ H R
noncomputable def seqD : D → Option (List D)
  | .lst l => some l | .tup l => some l | .scr l => some l | _ => none
noncomputable def WalksE (K : PySem.W.Frag) (J : It) (S H : Hp) (l : List D) : Prop := ∀ S' H', Ext S H S' H' →
  (∀ i d, l[i]? = some d → J.go i H' ∧ ∀ x H'', J.yld i H' x H'' → H'' = H' ∧ Den K S' d x) ∧ J.stop l.length H'
noncomputable def SIP (K : PySem.W.Frag) (wi : TI) (e : XA) : Prop := ∀ ρ σ S H (R : It → Hp → Prop) l, Rl K ρ σ S H → e ρ = some l → (∀ J S' H', Ext S H S' H' → WalksE K J S' H' l → R J H') → wi σ H R
theorem SI.p {wi : TI} {e : XA} (h : SI K wi e) : SIP K wi e := fun ρ σ S H R l r x k => h ρ σ S H R l r x fun J S' H' z w => k J S' H' z fun S2 H2 z2 => w S2 H2 z2.sh z2.sub
@[simp] noncomputable def xIt (e : XE) : XA := fun ρ => (e ρ).bind seqD
theorem i_seq {tl : TE} {e : XE} (h : SE K tl e) : SI K (iSeq K tl) (xIt e) := fun ρ σ S H R l r x k => by
  unfold xIt at x
  cases q : e ρ with
  | none => rw [q] at x; cases x
  | some d =>
    rw [q] at x
    dsimp only [Option.bind] at x
    refine h ρ σ S H _ d r q fun v S1 H1 z1 d1 => ?_
    cases d with
    | lst l' =>
      cases x
      obtain ⟨p, xs, rfl, h1, h2⟩ := den_lst.mp d1
      refine ⟨p, rfl, .inl ⟨⟨xs, .inl (rd_mono z1.sub h1)⟩, k _ S1 H1 z1 fun S' H' s1 s2 => ⟨fun i d hd => ?_, xs, .inl (rd_mono (s1.trans s2) h1), Nat.le_of_eq h2.length.symm⟩⟩⟩
      obtain ⟨y, e1, e2⟩ := h2.get hd
      refine ⟨⟨xs, y, .inl (rd_mono (s1.trans s2) h1), e1⟩, fun x H'' hy => ⟨hy.1, ?_⟩⟩
      have := hy.2 xs (.inl (rd_mono (s1.trans s2) h1))
      rw [e1] at this
      cases this
      exact e2.mono s1
    | tup l' =>
      cases x
      obtain ⟨p, xs, rfl, h1, h2⟩ := den_tup.mp d1
      refine ⟨p, rfl, .inr ⟨⟨xs, sqT_mono z1.sub h1⟩, k _ S1 H1 z1 fun S' H' s1 s2 => ⟨fun i d hd => ?_, xs, sqT_mono (s1.trans s2) h1, Nat.le_of_eq h2.length.symm⟩⟩⟩
      obtain ⟨y, e1, e2⟩ := h2.get hd
      refine ⟨⟨xs, y, sqT_mono (s1.trans s2) h1, e1⟩, fun x H'' hy => ⟨hy.1, ?_⟩⟩
      have := hy.2 xs (sqT_mono (s1.trans s2) h1)
      rw [e1] at this
      cases this
      exact e2.mono s1
    | scr l' =>
      cases x
      obtain ⟨p, xs, rfl, h1, h2⟩ := den_scr.mp d1
      refine ⟨p, rfl, .inl ⟨⟨xs, sqL_mono z1.sub h1⟩, k _ S1 H1 z1 fun S' H' s1 s2 => ⟨fun i d hd => ?_, xs, sqL_mono (s1.trans s2) h1, Nat.le_of_eq h2.length.symm⟩⟩⟩
      obtain ⟨y, e1, e2⟩ := h2.get hd
      refine ⟨⟨xs, y, sqL_mono (s1.trans s2) h1, e1⟩, fun x H'' hy => ⟨hy.1, ?_⟩⟩
      have := hy.2 xs (sqL_mono (s1.trans s2) h1)
      rw [e1] at this
      cases this
      exact e2.mono s1
    | _ => cases x
noncomputable def ifC {α : Type} (p : Prop) (a b : α) : α := @ite α p (Classical.propDecidable p) a b
theorem ifC_pos {α : Type} {p : Prop} {a b : α} (h : p) : ifC p a b = a := by unfold ifC; exact if_pos h
theorem ifC_some {α : Type} {p : Prop} {a x : α} (h : ifC p (some a) none = some x) : p ∧ a = x := by
  unfold ifC at h
  by_cases c : p
  · rw [if_pos c] at h; exact ⟨c, Option.some.inj h⟩
  · rw [if_neg c] at h; cases h
theorem i_seqP {tl : TE} {e : XE} (h : SPk K tl e) : SIP K (iSeq K tl) (xIt e) := fun ρ σ S H R l r x k => by
  unfold xIt at x
  cases q : e ρ with
  | none => rw [q] at x; cases x
  | some d =>
    rw [q] at x
    dsimp only [Option.bind] at x
    refine h ρ σ S H _ d r q fun v S1 H1 z1 d1 => ?_
    rcases d1 with d1 | ⟨l', p, xs, rfl, rfl, hx, dx⟩
    · cases d with
      | lst l' =>
        cases x
        obtain ⟨p, xs, rfl, h1, h2⟩ := den_lst.mp d1
        refine ⟨p, rfl, .inl ⟨⟨xs, .inl (rd_mono z1.sub h1)⟩, k _ S1 H1 z1 fun S' H' z2 => ⟨fun i d hd => ?_, xs, .inl (rd_mono (z2.sh.trans z2.sub) h1), Nat.le_of_eq h2.length.symm⟩⟩⟩
        obtain ⟨y, e1, e2⟩ := h2.get hd
        refine ⟨⟨xs, y, .inl (rd_mono (z2.sh.trans z2.sub) h1), e1⟩, fun x H'' hy => ⟨hy.1, ?_⟩⟩
        have := hy.2 xs (.inl (rd_mono (z2.sh.trans z2.sub) h1))
        rw [e1] at this
        cases this
        exact e2.mono z2.sh
      | tup l' =>
        cases x
        obtain ⟨p, xs, rfl, h1, h2⟩ := den_tup.mp d1
        refine ⟨p, rfl, .inr ⟨⟨xs, sqT_mono z1.sub h1⟩, k _ S1 H1 z1 fun S' H' z2 => ⟨fun i d hd => ?_, xs, sqT_mono (z2.sh.trans z2.sub) h1, Nat.le_of_eq h2.length.symm⟩⟩⟩
        obtain ⟨y, e1, e2⟩ := h2.get hd
        refine ⟨⟨xs, y, sqT_mono (z2.sh.trans z2.sub) h1, e1⟩, fun x H'' hy => ⟨hy.1, ?_⟩⟩
        have := hy.2 xs (sqT_mono (z2.sh.trans z2.sub) h1)
        rw [e1] at this
        cases this
        exact e2.mono z2.sh
      | scr l' =>
        cases x
        obtain ⟨p, xs, rfl, h1, h2⟩ := den_scr.mp d1
        refine ⟨p, rfl, .inl ⟨⟨xs, sqL_mono z1.sub h1⟩, k _ S1 H1 z1 fun S' H' z2 => ⟨fun i d hd => ?_, xs, sqL_mono (z2.sh.trans z2.sub) h1, Nat.le_of_eq h2.length.symm⟩⟩⟩
        obtain ⟨y, e1, e2⟩ := h2.get hd
        refine ⟨⟨xs, y, sqL_mono (z2.sh.trans z2.sub) h1, e1⟩, fun x H'' hy => ⟨hy.1, ?_⟩⟩
        have := hy.2 xs (sqL_mono (z2.sh.trans z2.sub) h1)
        rw [e1] at this
        cases this
        exact e2.mono z2.sh
      | _ => cases x
    · cases x
      refine ⟨p, rfl, .inl ⟨⟨xs, SqL.of hx⟩, k _ S1 H1 z1 fun S' H' z2 => ?_⟩⟩
      have hx2 : H' p = some (.lst xs) := z2.same z1.sub _ _ hx
      refine ⟨fun i d hd => ?_, xs, SqL.of hx2, Nat.le_of_eq dx.length.symm⟩
      obtain ⟨y, e1, e2⟩ := dx.get hd
      refine ⟨⟨xs, y, SqL.of hx2, e1⟩, fun x H'' hy => ⟨hy.1, ?_⟩⟩
      have := hy.2 xs (SqL.of hx2)
      rw [e1] at this
      cases this
      exact e2.mono z2.sh
noncomputable def intsD (lo : Int) : Nat → List D
  | 0 => []
  | n + 1 => .int lo :: intsD (lo + 1) n
noncomputable def rngD : List D → Option (List D)
  | [.int j] => ifC (j < 1000000 ∧ -1000000 < j) (some (intsD 0 j.toNat)) none
  | [.int i, .int j] => ifC (j < 4000000000000000000 ∧ -4000000000000000000 < i ∧ i < 4000000000000000000 ∧ -4000000000000000000 < j) (some (intsD i (j - i).toNat)) none
  | _ => none
@[simp] noncomputable def xRng (a : XA) : XA := fun ρ => (a ρ).bind rngD
noncomputable def evensD : Nat → Nat → List D
  | _, 0 => []
  | k, n + 1 => .int (2 * k) :: evensD (k + 1) n
noncomputable def rng3D : List D → Option (List D)
  | [.int a, .int j, .int b] => ifC (a = 0 ∧ b = 2 ∧ 0 ≤ j ∧ j < 1000000) (some (evensD 0 ((j + 1) / 2).toNat)) none
  | _ => none
@[simp] noncomputable def xRng3 (a : XA) : XA := fun ρ => (a ρ).bind rng3D
noncomputable def loopF (g : XG) (m : XS) : List D → Env → Option Out
  | [], ρ => some (.nx ρ)
  | d :: l, ρ => (g d ρ).bind fun ρ1 => match m ρ1 with
    | some (.nx ρ2) => loopF g m l ρ2
    | some (.ct ρ2) => loopF g m l ρ2
    | some (.bk ρ2) => some (.nx ρ2)
    | some (.rt d) => some (.rt d)
    | some (.ro d) => some (.ro d)
    | none => none
@[simp] noncomputable def xFor (e : XA) (g : XG) (m : XS) : XS := fun ρ => (e ρ).bind fun l => loopF g m l ρ
theorem drop_get {l : List D} {i : Nat} {d : D} (h : l[i]? = some d) : l.drop i = d :: l.drop (i + 1) := by
  obtain ⟨h1, rfl⟩ := List.getElem?_eq_some_iff.mp h
  exact List.drop_eq_getElem_cons h1
theorem s_for {wi : TI} {g : TG} {tb : TS} {e : XA} {x : XG} {m : XS} (hi : SI K wi e) (hg : SG K g x) (hb : SS K tb m) : SS K (tFor wi g tb) (xFor e x m) := fun A Λ ρ σ S H E o r y k => by
  unfold xFor at y
  cases q : e ρ with
  | none => rw [q] at y; cases y
  | some l =>
    rw [q] at y
    dsimp only [Option.bind] at y
    refine hi ρ σ S H _ l r.toRl q fun J S1 H1 z1 wk => ?_
    have r1 := r.ext z1
    refine ⟨fun i n σ' H' => n = l.length - i ∧ i ≤ l.length ∧ ∃ ρ' S', RlA K A Λ ρ' σ' S' H' ∧ Same S1 S' ∧ loopF x m (l.drop i) ρ' = some o, ⟨_, rfl, Nat.zero_le _, ρ, S1, r1, Same.refl _, y⟩, ?_⟩
    rintro i n σ2 H2 ⟨rfl, hil, ρ2, S2, r2, s2, y2⟩
    obtain ⟨w1, w2⟩ := wk S2 H2 s2 r2.sub
    cases qd : l[i]? with
    | none =>
      have : l.length = i := by have := List.getElem?_eq_none_iff.mp qd; lia
      subst this
      rw [List.drop_of_length_le (Nat.le_refl _)] at y2
      cases y2
      exact .inl ⟨w2, k σ2 S2 H2 r2 (z1.sh.trans s2)⟩
    | some d =>
      obtain ⟨g1, g2⟩ := w1 i d qd
      have hlt := (List.getElem?_eq_some_iff.mp qd).1
      rw [drop_get qd] at y2
      unfold loopF at y2
      cases qx : x d ρ2 with
      | none => rw [qx] at y2; cases y2
      | some ρ3 =>
        rw [qx] at y2
        dsimp only [Option.bind] at y2
        refine .inr ⟨g1, fun σ' H' => ∃ ρ' S', RlA K A Λ ρ' σ' S' H' ∧ Same S1 S' ∧ loopF x m (l.drop (i + 1)) ρ' = some o, fun σ' H' ⟨ρ', S', a1, a2, a3⟩ => ⟨_, by lia, rfl, hlt, ρ', S', a1, a2, a3⟩, fun xv H3 hy => ?_⟩
        obtain ⟨rfl, dx⟩ := g2 xv H3 hy
        refine hg A Λ ρ2 σ2 S2 H3 xv d _ ρ3 r2 dx qx fun σ3 r3 => ?_
        cases qm : m ρ3 with
        | none => rw [qm] at y2; cases y2
        | some om =>
          rw [qm] at y2
          refine hb A Λ ρ3 σ3 S2 H3 _ om r3 qm ?_
          cases om with
          | nx ρ4 => exact fun σ4 S4 H4 r4 s4 => ⟨ρ4, S4, r4, s2.trans s4, y2⟩
          | ct ρ4 => exact fun σ4 S4 H4 r4 s4 => ⟨ρ4, S4, r4, s2.trans s4, y2⟩
          | bk ρ4 => cases y2; exact fun σ4 S4 H4 r4 s4 => k σ4 S4 H4 r4 ((z1.sh.trans s2).trans s4)
          | rt d4 => cases y2; exact fun v S4 H4 s4 => k v S4 H4 ((z1.sh.trans s2).trans s4)
          | ro d4 => cases y2; exact fun v fp S4 H4 s4 => k v fp S4 H4 ((z1.sh.trans s2).trans s4)
noncomputable def whileF (c : XT) (m : XS) : Nat → Env → Option Out
  | 0, _ => none
  | n + 1, ρ => (c ρ).bind fun b => if b = true then (match m ρ with
    | some (.nx ρ2) => whileF c m n ρ2
    | some (.ct ρ2) => whileF c m n ρ2
    | some (.bk ρ2) => some (.nx ρ2)
    | some (.rt d) => some (.rt d)
    | some (.ro d) => some (.ro d)
    | none => none) else some (.nx ρ)
noncomputable def xWhileC (c : XT) (m : XS) : XS := fun ρ => by
  classical
  exact if h : ∃ o n, whileF c m n ρ = some o then some h.choose else none
noncomputable def xWhile (c : XT) (m : XS) : XS := fun ρ => (whileF c m 64 ρ).or (xWhileC c m ρ)
theorem of_xWhile {c : XT} {m : XS} {ρ : Env} {o : Out} (h : xWhile c m ρ = some o) : ∃ n, whileF c m n ρ = some o := by
  unfold xWhile at h
  cases q : whileF c m 64 ρ with
  | some o' => rw [q] at h; exact ⟨64, q.trans h⟩
  | none =>
    rw [q] at h
    have h : xWhileC c m ρ = some o := h
    unfold xWhileC at h
    split at h
    · rename_i hx
      cases h
      exact hx.choose_spec
    · cases h
theorem s_while {tc : TT} {tb : TS} {c : XT} {m : XS} (hc : ST K tc c) (hb : SS K tb m) : SS K (tWhile tc tb) (xWhile c m) := fun A Λ ρ σ S H E o r y k => by
  obtain ⟨n, hn⟩ := of_xWhile y
  refine ⟨fun n σ' H' => ∃ ρ' S', RlA K A Λ ρ' σ' S' H' ∧ Same S S' ∧ whileF c m n ρ' = some o, ⟨n, ρ, S, r, Same.refl _, hn⟩, ?_⟩
  rintro n σ1 H1 ⟨ρ1, S1, r1, s1, h1⟩
  cases n with
  | zero => cases h1
  | succ n =>
    unfold whileF at h1
    cases qc : c ρ1 with
    | none => rw [qc] at h1; cases h1
    | some b =>
      rw [qc] at h1
      dsimp only [Option.bind] at h1
      refine hc ρ1 σ1 S1 H1 _ b r1.toRl qc fun S2 H2 z2 => ?_
      have r2 := r1.ext z2
      cases b with
      | false =>
        rw [if_neg (by decide)] at h1
        cases h1
        exact iteF (k σ1 S2 H2 r2 (s1.trans z2.sh))
      | true =>
        rw [if_pos rfl] at h1
        refine iteT ⟨fun σ' H' => ∃ ρ' S', RlA K A Λ ρ' σ' S' H' ∧ Same S S' ∧ whileF c m n ρ' = some o, fun σ' H' a => ⟨n, Nat.lt_succ_self _, a⟩, ?_⟩
        cases qm : m ρ1 with
        | none => rw [qm] at h1; cases h1
        | some om =>
          rw [qm] at h1
          refine hb A Λ ρ1 σ1 S2 H2 _ om r2 qm ?_
          cases om with
          | nx ρ4 => exact fun σ4 S4 H4 r4 s4 => ⟨ρ4, S4, r4, (s1.trans z2.sh).trans s4, h1⟩
          | ct ρ4 => exact fun σ4 S4 H4 r4 s4 => ⟨ρ4, S4, r4, (s1.trans z2.sh).trans s4, h1⟩
          | bk ρ4 => cases h1; exact fun σ4 S4 H4 r4 s4 => k σ4 S4 H4 r4 ((s1.trans z2.sh).trans s4)
          | rt d4 => cases h1; exact fun v S4 H4 s4 => k v S4 H4 ((s1.trans z2.sh).trans s4)
          | ro d4 => cases h1; exact fun v fp S4 H4 s4 => k v fp S4 H4 ((s1.trans z2.sh).trans s4)
@[simp] noncomputable def innX (js : List (Option Nat)) (ρ : Env) : Env := js.map fun o => match o with | none => .un | some j => match ρ[j]? with | some (.sh d) => .sh d | _ => .un
noncomputable def compF (g : XG) (c : XT) (e : XE) (ρ0 : Env) : List D → Option (List D)
  | [] => some []
  | d :: l => (g d ρ0).bind fun ρ1 => (c ρ1).bind fun b => if b = true then (e ρ1).bind fun y => (compF g c e ρ0 l).map fun r => y :: r else compF g c e ρ0 l
@[simp] noncomputable def xComp (js : List (Option Nat)) (w : XA) (g : XG) (c : XT) (e : XE) : XA := fun ρ => (w ρ).bind fun l => if l.length ≤ LIM then compF g c e (innX js ρ) l else none
@[simp] noncomputable def xYes : XT := fun _ => some true
theorem s_yes : ST K fNone xYes := fun ρ σ S H Q b r x k => by cases x; exact k S H (Ext.refl r.sub)
theorem innX_get {js : List (Option Nat)} {ρ : Env} {i : Nat} {s : Sl} (h : (innX js ρ)[i]? = some s) : s = .un ∨ ∃ d j, s = .sh d ∧ js[i]? = some (some j) ∧ ρ[j]? = some (.sh d) := by
  unfold innX at h
  rw [List.getElem?_map] at h
  cases q : js[i]? with
  | none => rw [q] at h; cases h
  | some o =>
    rw [q] at h
    cases o with
    | none => cases h; exact .inl rfl
    | some j =>
      simp only [Option.map_some] at h
      cases q2 : ρ[j]? with
      | none => rw [q2] at h; cases h; exact .inl rfl
      | some s2 =>
        rw [q2] at h
        cases s2 with
        | un => cases h; exact .inl rfl
        | lo => cases h; exact .inl rfl
        | ow l => cases h; exact .inl rfl
        | sh d => cases h; exact .inr ⟨d, j, rfl, rfl, q2⟩
noncomputable def alien (S H : Hp) : Hp := fun b => match S b with | none => H b | some _ => none
theorem alien_sub {S H : Hp} : Same (alien S H) H := fun b o h => by
  unfold alien at h
  cases q : S b with
  | none => rw [q] at h; exact h
  | some _ => rw [q] at h; cases h
theorem alien_dis {S H : Hp} (b : Addr) : S b = none ∨ alien S H b = none := by
  unfold alien
  cases q : S b with
  | none => exact .inl rfl
  | some _ => exact .inr rfl
theorem alien_of {S H : Hp} {b : Addr} {o : HO} (h : H b = some o) (n : S b = none) : alien S H b = some o := by
  unfold alien
  rw [n]
  exact h
theorem rl_inn {ρ : Env} {σ : St} (r : Rl K ρ σ S H) (js : List (Option Nat)) : RlA K (alien S H) (fun _ => none) (innX js ρ) (inn js σ) S H := by
  refine ⟨fun _ => [], ?_⟩
  exact {
    len := by unfold innX inn; rw [List.length_map, List.length_map]
    sub := r.sub
    sh := fun i d h => by
      rcases innX_get h with e | ⟨d', j, e, h1, h2⟩
      · cases e
      · cases e
        obtain ⟨v, k1, k2⟩ := r.sh j d h2
        refine ⟨v, ?_, k2⟩
        unfold inn
        rw [List.getElem?_map, h1]
        show some ((σ[j]?).join) = some (some v)
        rw [k1]
        rfl
    ow := fun i o h => by
      rcases innX_get h with e | ⟨d', j, e, h1, h2⟩
      · cases e
      · cases e
    dj := fun i j o o' _ h => by
      rcases innX_get h with e | ⟨d', j, e, h1, h2⟩
      · cases e
      · cases e
    lo := fun i h => by
      rcases innX_get h with e | ⟨d', j, e, h1, h2⟩
      · cases e
      · cases e
    asub := alien_sub
    adis := alien_dis }
theorem s_comp {js : List (Option Nat)} {wi : TI} {g : TG} {tt : TIf} {te : TE} {w : XA} {x : XG} {c : XT} {e : XE} (hi : SIP K wi w) (hg : SG K g x) (hc : ST K tt c) (he : SE K te e) : SF K (tComp js wi g tt te) (xComp js w x c e) := fun ρ σ S H Q l r y k => by
  unfold xComp at y
  cases q : w ρ with
  | none => rw [q] at y; cases y
  | some ds =>
    rw [q] at y
    dsimp only [Option.bind] at y
    split at y
    · rename_i hlim
      refine hi ρ σ S H _ ds r q fun J S1 H1 z1 wk D hD => ?_
      have r1 := r.ext z1
      have hD0 : H D = none := (z1.same r.sub).free hD
      -- the word: what is told so far, what is still to be told
      refine ⟨fun i n H' => n = ds.length - i ∧ i ≤ ds.length ∧ ∃ S' done ys rest, Ext S1 H1 S' H' ∧ Same S1 S' ∧ H' D = some (.lst ys) ∧ S' D = none ∧ Dens K S' done ys ∧ done.length ≤ i ∧ compF x c e (innX js ρ) (ds.drop i) = some rest ∧ l = done ++ rest,
        ⟨_, rfl, Nat.zero_le _, S1, [], [], l, Ext.own z1.sub hD, Same.refl _, upd_same, z1.sub.free hD, .nil, Nat.zero_le _, y, rfl⟩, ?_⟩
      rintro i n H2 ⟨rfl, hil, S2, done, ys, rest, z2, s2, hy, hSD, dy, hdl, y2, rfl⟩
      obtain ⟨w1, w2⟩ := wk S2 H2 z2
      cases qd : ds[i]? with
      | none =>
        have : ds.length = i := by have := List.getElem?_eq_none_iff.mp qd; lia
        subst this
        rw [List.drop_of_length_le (Nat.le_refl _)] at y2
        cases y2
        rw [List.append_nil] at k
        exact .inl ⟨w2, k D ys S2 H2 (z1.trans z2) hD0 hSD hy dy⟩
      | some d =>
        obtain ⟨g1, g2⟩ := w1 i d qd
        have hlt := (List.getElem?_eq_some_iff.mp qd).1
        rw [drop_get qd] at y2
        unfold compF at y2
        cases qx : x d (innX js ρ) with
        | none => rw [qx] at y2; cases y2
        | some ρ3 =>
          rw [qx] at y2
          dsimp only [Option.bind] at y2
          refine .inr ⟨g1, fun xv H3 hyl => ?_⟩
          obtain ⟨rfl, dx⟩ := g2 xv H3 hyl
          have ri := rl_inn (r1.ext z2) js
          refine hg _ _ _ _ S2 H3 xv d _ ρ3 ri dx qx fun σ3 r3 => ?_
          cases qc : c ρ3 with
          | none => rw [qc] at y2; cases y2
          | some b =>
            rw [qc] at y2
            dsimp only at y2
            refine hc ρ3 σ3 S2 H3 _ b r3.toRl qc fun S4 H4 z4 => ?_
            obtain ⟨al1, al2⟩ := z4.al D _ hy hSD
            cases b with
            | false =>
              rw [if_neg (by decide)] at y2
              exact iteF ⟨_, by lia, rfl, hlt, S4, done, ys, rest, z2.trans z4, s2.trans z4.sh, al1, al2, dy.mono z4.sh, by lia, y2, rfl⟩
            | true =>
              rw [if_pos rfl] at y2
              cases qe : e ρ3 with
              | none => rw [qe] at y2; cases y2
              | some dv =>
                rw [qe] at y2
                dsimp only at y2
                cases qr : compF x c e (innX js ρ) (ds.drop (i + 1)) with
                | none => rw [qr] at y2; cases y2
                | some rest2 =>
                  rw [qr] at y2
                  cases y2
                  refine iteT (he ρ3 σ3 S4 H4 _ dv (r3.toRl.ext z4) qe fun v S5 H5 z5 d5 => ?_)
                  obtain ⟨b1, b2⟩ := z5.al D _ al1 al2
                  refine ⟨ys, b1, ?_, _, by lia, rfl, hlt, S5, done ++ [dv], ys ++ [v], rest2, ?_, (s2.trans z4.sh).trans z5.sh, upd_same, b2, ((dy.mono z4.sh).mono z5.sh).append (.cons d5 .nil), by rw [List.length_append, List.length_singleton]; lia, qr, by rw [List.append_assoc]; rfl⟩
                  · rw [← dy.length]
                    exact Nat.lt_of_lt_of_le (Nat.lt_of_le_of_lt hdl hlt) (Nat.le_trans hlim (Nat.le_of_lt lim_lt))
                  · have z6 := (z2.trans z4).trans z5
                    exact ⟨z6.sh, fun b u hb => by rw [upd_ne fun z => by subst z; rw [b2] at hb; cases hb]; exact z6.sub b u hb, fun b o hb hn => by
                      obtain ⟨c1, c2⟩ := z6.al b o hb hn
                      exact ⟨by rw [upd_ne fun z => by subst z; rw [hD] at hb; cases hb]; exact c1, c2⟩⟩
    · cases y
@[simp] noncomputable def xForO (i : Nat) (g : XG) (m : XS) : XS := fun ρ => match ρ[i]? with
  | some (.ow (.lst os)) => (match shs os with
    | some l => (match loopF g m l (ρ.set i .lo) with
      | some (.nx ρ') => (match ρ'[i]? with | some .lo => some (.nx (ρ'.set i (.ow (.lst os)))) | _ => none)
      | some (.rt d) => some (.rt d)
      | _ => none)
    | none => none)
  | _ => none
noncomputable def fnO (n : Nat) (x : XS) (ds : List D) : Option O := match x (ds.map .sh ++ List.replicate (n - ds.length) .un) with
  | some (.rt d) => some (.sh d)
  | some (.ro o) => some o
  | some (.nx _) => some (.sh .non)
  | _ => none
theorem rl_start {N : List Str} {ds : List D} {vs : List V} (s : Same S H) (h : Dens K S ds vs) : RlA K (alien S H) (fun _ => none) (ds.map .sh ++ List.replicate (N.length - ds.length) .un) (L2.start N vs) S H := by
  have hl := h.length
  have key : ∀ (i : Nat) t, (ds.map Sl.sh ++ List.replicate (N.length - ds.length) .un)[i]? = some t → t = .un ∨ ∃ d v, t = .sh d ∧ (L2.start N vs)[i]? = some (some v) ∧ Den K S d v := fun i t ht => by
    by_cases hi : i < ds.length
    · rw [List.getElem?_append_left (by rw [List.length_map]; exact hi), List.getElem?_map] at ht
      cases q : ds[i]? with
      | none => rw [q] at ht; cases ht
      | some d =>
        rw [q] at ht
        cases ht
        obtain ⟨v, e1, e2⟩ := h.get q
        refine .inr ⟨d, v, rfl, ?_, e2⟩
        unfold L2.start
        rw [List.getElem?_append_left (by rw [List.length_map]; lia), List.getElem?_map, e1]
        rfl
    · rw [List.getElem?_append_right (by rw [List.length_map]; lia), List.getElem?_replicate] at ht
      split at ht
      · cases ht; exact .inl rfl
      · cases ht
  refine ⟨fun _ => [], ?_⟩
  exact {
    len := by unfold L2.start; rw [List.length_append, List.length_append, List.length_map, List.length_map, List.length_replicate, List.length_replicate, hl]
    sub := s
    sh := fun i d hi => by
      rcases key i _ hi with e | ⟨d', v, e, h1, h2⟩
      · cases e
      · cases e; exact ⟨v, h1, h2⟩
    ow := fun i o hi => by
      rcases key i _ hi with e | ⟨d', v, e, h1, h2⟩
      · cases e
      · cases e
    dj := fun i j o o' _ hi => by
      rcases key i _ hi with e | ⟨d', v, e, h1, h2⟩
      · cases e
      · cases e
    lo := fun i hi => by
      rcases key i _ hi with e | ⟨d', v, e, h1, h2⟩
      · cases e
      · cases e
    asub := alien_sub
    adis := alien_dis }
theorem rd_of {t : TS} {x : XS} {N : List Str} {n k : Nat} {vs : List V} {H : Hp} {Q : VK} {E : XK} (hs : SS K t x) (hN : N.length = n) (h : spOf K k (fnO n x) vs H Q E) :
    t { nx := fun _ H' => Q .non H', rt := Q } (L2.start N vs) H := by
  obtain ⟨_, S, ds, d, s, dd, y, q⟩ := h
  subst hN
  unfold fnO at y
  have r := rl_start (N := N) s dd
  have ex : ∀ {S' H' : Hp}, Same S S' → Same S' H' → Same (alien S H) H' → (∀ b, S' b = none ∨ alien S H b = none) → Ext S H S' H' := fun s1 s2 s3 s4 => ⟨s1, s2, fun b o hb hn => by
    have ha := alien_of hb hn
    refine ⟨s3 b o ha, ?_⟩
    rcases s4 b with z | z
    · exact z
    · rw [ha] at z; cases z⟩
  cases qx : x (ds.map .sh ++ List.replicate (N.length - ds.length) .un) with
  | none => rw [qx] at y; cases y
  | some o =>
    rw [qx] at y
    refine hs _ _ _ _ S H _ o r qx ?_
    cases o with
    | rt d' =>
      cases y
      exact fun v S' H' s1 s2 s3 s4 dv => q v [] S' H' (ex s1 s2 s3 s4) (own_sh.mpr ⟨rfl, dv⟩) .nil fun b hb => by cases hb
    | ro o' =>
      cases y
      refine fun v fp S' H' s1 s2 s3 s4 ow nd n => q v fp S' H' (ex s1 s2 s3 s4) ow nd fun b hb => ⟨?_, (n b hb).1⟩
      cases qb : H b with
      | none => rfl
      | some u =>
        have := alien_of qb (s1.free (n b hb).1)
        rw [(n b hb).2] at this; cases this
    | nx ρ' =>
      cases y
      exact fun σ' S' H' r' s1 => q .non [] S' H' (ex s1 r'.sub r'.asub r'.adis) (own_sh.mpr ⟨rfl, den_non.mpr rfl⟩) .nil fun b hb => by cases hb
    | bk ρ' => cases y
    | ct ρ' => cases y
end
end M
namespace M
open PySem L2
noncomputable def dI (f : Int → Int → Option D) : D → D → Option D
  | .int i, .int j => f i j
  | _, _ => none
noncomputable def dMul : D → D → Option D := dI fun i j => ifC ((-18446744073709551616 < i ∧ i < 18446744073709551616) ∨ (-18446744073709551616 < j ∧ j < 18446744073709551616)) (some (.int (i * j))) none
noncomputable def dDiv : D → D → Option D := dI fun i j => ifC (0 < j ∧ j < 1073741824) (some (.int (i / j))) none
noncomputable def dMod : D → D → Option D := dI fun i j => ifC (0 < j) (some (.int (i % j))) none
noncomputable def dPow : D → D → Option D := dI fun i j => ifC (0 ≤ j ∧ j ≤ 1000000 ∧ i.natAbs < 18446744073709551616) (some (.int (i ^ j.toNat))) none
noncomputable def dSub : D → D → Option D := dI fun i j => some (.int (i - j))
noncomputable def dLt : D → D → Option D := dI fun i j => some (.bl (decide (i < j)))
noncomputable def dLe : D → D → Option D := dI fun i j => some (.bl (decide (i ≤ j)))
noncomputable def dGt : D → D → Option D := dI fun i j => some (.bl (decide (j < i)))
noncomputable def dGe : D → D → Option D := dI fun i j => some (.bl (decide (j ≤ i)))
noncomputable def dNeg : D → Option D
  | .int i => some (.int (-i))
  | _ => none
section
variable {K : PySem.W.Frag}
theorem r_i {C : Int → Int → Prop} {g : Int → Int → V} {f : Int → Int → Option D} (h : ∀ i j d, f i j = some d → C i j ∧ flat d = some (g i j)) : SR2 K (rI C g) (dI f) := fun S H x y d e z Q s dx dy q k => by
  cases d <;> cases e <;> try cases q
  rename_i i j
  obtain ⟨h1, h2⟩ := h i j z q
  exact ⟨i, j, dx.int, dy.int, h1, k _ S H (Ext.refl s) (den_flat h2)⟩
theorem r_i0 {g : Int → Int → V} {f : Int → Int → Option D} (h : ∀ i j d, f i j = some d → flat d = some (g i j)) : SR2 K (rI0 g) (dI f) := fun S H x y d e z Q s dx dy q k => by
  cases d <;> cases e <;> try cases q
  rename_i i j
  exact ⟨i, j, dx.int, dy.int, k _ S H (Ext.refl s) (den_flat (h i j z q))⟩
theorem r_mul : SR2 K (rI CMul fun i j => .int (i * j)) dMul := r_i fun i j d h => by
  obtain ⟨c, rfl⟩ := ifC_some h
  refine ⟨?_, rfl⟩
  unfold CMul
  have : (2 : Int) ^ 64 = 18446744073709551616 := by decide
  rw [this]
  exact c
theorem r_div : SR2 K (rI CDiv fun i j => .int (i / j)) dDiv := r_i fun i j d h => by
  obtain ⟨c, rfl⟩ := ifC_some h
  exact ⟨c, rfl⟩
theorem r_mod : SR2 K (rI (fun _ j => 0 < j) fun i j => .int (i % j)) dMod := r_i fun i j d h => by
  obtain ⟨c, rfl⟩ := ifC_some h
  exact ⟨c, rfl⟩
theorem r_pow : SR2 K (rI CPow fun i j => .int (i ^ j.toNat)) dPow := r_i fun i j d h => by
  obtain ⟨c, rfl⟩ := ifC_some h
  refine ⟨?_, rfl⟩
  unfold CPow
  have : (2 : Nat) ^ 64 = 18446744073709551616 := by decide
  rw [this]
  exact c
theorem r_sub : SR2 K (rI0 fun i j => .int (i - j)) dSub := r_i0 fun i j d h => by cases h; rfl
theorem r_lt : SR2 K (rI0 fun i j => .bl (decide (i < j))) dLt := r_i0 fun i j d h => by cases h; rfl
theorem r_le : SR2 K (rI0 fun i j => .bl (decide (i ≤ j))) dLe := r_i0 fun i j d h => by cases h; rfl
theorem r_neg : SR1 K (rU fun i => .int (-i)) dNeg := fun S H x d g Q s dx q k => by
  cases d <;> try cases q
  rename_i i
  exact ⟨i, dx.int, k _ S H (Ext.refl s) (den_int.mpr rfl)⟩
end
noncomputable def rCatM : R2 := fun x y H Q => ∃ l b xs zs, x = .ref l ∧ y = .ref b ∧ Rd H l (.lst xs) ∧ Rd H b (.lst zs) ∧ xs.length + zs.length ≤ sizeLine ∧ ∀ p, H p = none → Q (.ref p) (upd H p (.lst (xs ++ zs)))
noncomputable def rTupM (K : PySem.W.Frag) : R2 := fun x y H Q => ∃ a b xs ys, x = .ref a ∧ y = .ref b ∧ SqT K H a xs ∧ SqT K H b ys ∧ xs.length + ys.length ≤ sizeLine ∧
  (ys = [] → Q (.ref a) H) ∧ (xs = [] → Q (.ref b) H) ∧ ∀ p, H p = none → Q (.ref p) (upd H p (.tup (xs ++ ys)))
noncomputable def rStrM : R2 := fun x y H Q => ∃ i j, x = .str i ∧ y = .str j ∧ i.length + j.length ≤ sizeLine ∧ Q (.str (i ++ j)) H
noncomputable def rAddM (K : PySem.W.Frag) : R2 := fun x y H Q => (∃ i j, x = .int i ∧ y = .int j ∧ Q (.int (i + j)) H) ∨ rCatM x y H Q ∨ rTupM K x y H Q ∨ rStrM x y H Q
noncomputable def dAdd : D → D → Option D
  | .int i, .int j => some (.int (i + j))
  | .lst a, .lst b => if a.length + b.length ≤ LIM then some (.lst (a ++ b)) else none
  | .tup a, .tup b => if a.length + b.length ≤ LIM then some (.tup (a ++ b)) else none
  | .str a, .str b => if a.length + b.length ≤ LIM then some (.str (a ++ b)) else none
  | _, _ => none
section
variable {K : PySem.W.Frag}
theorem Dens.nil_iff {S : Hp} {ds : List D} {xs : List V} (h : Dens K S ds xs) : xs = [] ↔ ds = [] := by
  have := h.length
  cases ds <;> cases xs <;> simp_all
theorem lim_le {n : Nat} (h : n ≤ LIM) : n ≤ sizeLine := Nat.le_of_lt (Nat.lt_of_le_of_lt h lim_lt)
theorem r_add : SR2 K (rAddM K) dAdd := fun S H x y d e z Q s dx dy q k => by
  cases d <;> cases e <;> try (cases q; done)
  · rename_i i j
    cases q
    exact .inl ⟨i, j, dx.int, dy.int, k _ S H (Ext.refl s) (den_int.mpr rfl)⟩
  · rename_i i j
    have q' : (if i.length + j.length ≤ LIM then some (D.str (i ++ j)) else none) = some z := q
    split at q'
    · rename_i hl
      cases q'
      exact .inr (.inr (.inr ⟨i, j, dx.str, dy.str, lim_le hl, k _ S H (Ext.refl s) (den_str.mpr rfl)⟩))
    · cases q'
  · rename_i a b
    have q' : (if a.length + b.length ≤ LIM then some (D.lst (a ++ b)) else none) = some z := q
    split at q'
    · rename_i hl
      cases q'
      obtain ⟨p, xs, rfl, h1, h2⟩ := dx.lst s
      obtain ⟨p', ys, rfl, h3, h4⟩ := dy.lst s
      refine .inr (.inl ⟨p, p', xs, ys, rfl, rfl, h1, h3, by rw [← h2.length, ← h4.length]; exact lim_le hl, fun q hq => ?_⟩)
      have z := Ext.new (o := .lst (xs ++ ys)) s hq
      exact k _ _ _ z (den_lst.mpr ⟨q, _, rfl, .inl upd_same, (h2.append h4).mono z.sh⟩)
    · cases q'
  · rename_i a b
    have q' : (if a.length + b.length ≤ LIM then some (D.tup (a ++ b)) else none) = some z := q
    split at q'
    · rename_i hl
      cases q'
      obtain ⟨p, xs, e1, h1, h2⟩ := dx.tup s
      obtain ⟨p', ys, e2, h3, h4⟩ := dy.tup s
      have dx' : Den K S (.tup a) x := dx.elim id fun ⟨_, _, _, e, _⟩ => by cases e
      have dy' : Den K S (.tup b) y := dy.elim id fun ⟨_, _, _, e, _⟩ => by cases e
      subst e1 e2
      refine .inr (.inr (.inl ⟨p, p', xs, ys, rfl, rfl, h1, h3, by rw [← h2.length, ← h4.length]; exact lim_le hl, fun e => ?_, fun e => ?_, fun q hq => ?_⟩))
      · have := h4.nil_iff.mp e
        subst this
        exact k _ S H (Ext.refl s) (by rw [List.append_nil]; exact dx')
      · have := h2.nil_iff.mp e
        subst this
        exact k _ S H (Ext.refl s) (by rw [List.nil_append]; exact dy')
      · have z := Ext.new (o := .tup (xs ++ ys)) s hq
        exact k _ _ _ z (den_tup.mpr ⟨q, _, rfl, SqT.of upd_same, (h2.append h4).mono z.sh⟩)
    · cases q'
end
mutual
noncomputable def eqD : D → D → Bool
  | .non, .non => true
  | .bl a, .bl b => a == b
  | .bl a, .int j => (if a then 1 else 0) == j
  | .int i, .bl b => i == (if b then 1 else 0)
  | .int i, .int j => i == j
  | .str x, .str y => x == y
  | .lst a, .lst b => eqDs a b
  | .tup a, .tup b => eqDs a b
  | _, _ => false
noncomputable def eqDs : List D → List D → Bool
  | [], [] => true
  | x :: xs, y :: ys => eqD x y && eqDs xs ys
  | _, _ => false
end
mutual
noncomputable def okD : Nat → D → Bool
  | _, .non => true
  | _, .bl _ => true
  | _, .int _ => true
  | _, .str x => PyData.strOk x
  | n + 1, .lst l => okDs n l
  | n + 1, .tup l => okDs n l
  | _, _ => false
noncomputable def okDs : Nat → List D → Bool
  | _, [] => true
  | n, d :: l => okD n d && okDs n l
end
noncomputable def rEqM (K : PySem.W.Frag) (neg : Bool) : R2 := fun x y H Q => ∃ S d e, Same S H ∧ DenP K S H d x ∧ DenP K S H e y ∧ okD 50 d = true ∧ okD 50 e = true ∧ Q (.bl (if neg then !eqD d e else eqD d e)) H
noncomputable def dEq (neg : Bool) (d e : D) : Option D := if okD 50 d = true ∧ okD 50 e = true then some (.bl (if neg then !eqD d e else eqD d e)) else none
section
variable {K : PySem.W.Frag}
theorem r_eq (neg : Bool) : SR2 K (rEqM K neg) (dEq neg) := fun S H x y d e z Q s dx dy q k => by
  unfold dEq at q
  split at q
  · rename_i c
    cases q
    exact ⟨S, d, e, s, dx, dy, c.1, c.2, k _ S H (Ext.refl s) (den_bl.mpr rfl)⟩
  · cases q
end
noncomputable def isNon : D → Bool
  | .non => true | _ => false
noncomputable def dIsN (neg : Bool) (d e : D) : Option D := match e with | .non => some (.bl (if neg then !isNon d else isNon d)) | _ => none
section
variable {K : PySem.W.Frag}
end
noncomputable def dIx : D → D → Option D
  | .lst l, .int i => atI l i
  | .tup l, .int i => atI l i
  | .scr l, .int i => atI l i
  | .str x, .int i => if x.length ≤ LIM then (atI x.cps.toList i).map fun c => .str ⟨#[c]⟩ else none
  | _, _ => none
section
variable {K : PySem.W.Frag}
theorem atI_dens {S : Hp} {ds : List D} {xs : List V} {i : Int} {d : D} (h : Dens K S ds xs) (e : atI ds i = some d) : ∃ v, atI xs i = some v ∧ Den K S d v := by
  unfold atI at e ⊢
  rw [← h.length]
  cases q : ixN ds.length i with
  | none => rw [q] at e; cases e
  | some j =>
    rw [q] at e
    exact h.get e
theorem r_ix : SR2 K (rIx K) dIx := fun S H x y d e z Q s dx dy q k => by
  cases d <;> cases e <;> try (cases q; done)
  · rename_i x' i
    have q' : (if x'.length ≤ LIM then (atI x'.cps.toList i).map fun c => D.str ⟨#[c]⟩ else none) = some z := q
    split at q'
    · rename_i hl
      cases qc : atI x'.cps.toList i with
      | none => rw [qc] at q'; cases q'
      | some c =>
        rw [qc] at q'
        cases q'
        exact .inr (.inr ⟨x', i, c, dx.str, dy.int, lim_le hl, qc, k _ S H (Ext.refl s) (den_str.mpr rfl)⟩)
    · cases q'
  · rename_i l i
    obtain ⟨p, xs, rfl, h1, h2⟩ := dx.lst s
    obtain ⟨v, h3, h4⟩ := atI_dens h2 q
    exact .inl ⟨p, xs, i, v, rfl, dy.int, .inl h1, h3, k v S H (Ext.refl s) h4⟩
  · rename_i l i
    obtain ⟨p, xs, rfl, h1, h2⟩ := dx.tup s
    obtain ⟨v, h3, h4⟩ := atI_dens h2 q
    exact .inr (.inl ⟨p, xs, i, v, rfl, dy.int, h1, h3, k v S H (Ext.refl s) h4⟩)
  · rename_i l i
    obtain ⟨p, xs, rfl, h1, h2⟩ := dx.scr s
    obtain ⟨v, h3, h4⟩ := atI_dens h2 q
    exact .inl ⟨p, xs, i, v, rfl, dy.int, h1, h3, k v S H (Ext.refl s) h4⟩
end
noncomputable def cutD {α : Type} (xs : List α) (lo hi : Option Int) : List α := (xs.drop (HT.sIx xs.length 0 lo)).take (HT.sIx xs.length xs.length hi - HT.sIx xs.length 0 lo)
noncomputable def rSlM (K : PySem.W.Frag) : V → Option Int → Option Int → Hp → VK → Prop := fun x lo hi H Q => rSlL K x lo hi H Q ∨
  ∃ a xs, x = .ref a ∧ SqT K H a xs ∧ (cutV xs lo hi = xs → Q (.ref a) H) ∧ ∀ p, H p = none → Q (.ref p) (upd H p (.tup (cutV xs lo hi)))
noncomputable abbrev XO := Env → Option (Option Int)
noncomputable def SO (K : PySem.W.Frag) (t : TO) (o : XO) : Prop := ∀ ρ σ S H (Q : Option Int → Hp → Prop) i, Rl K ρ σ S H → o ρ = some i → (∀ S' H', Ext S H S' H' → Q i H') → t σ H Q
@[simp] noncomputable def xNoPart : XO := fun _ => some none
@[simp] noncomputable def xPart (a : XE) : XO := fun ρ => (a ρ).bind fun d => match d with | .int i => some (some i) | _ => none
section
variable {K : PySem.W.Frag}
theorem s_noPart : SO K tNoPart xNoPart := fun ρ σ S H Q i r x k => by cases x; exact k S H (Ext.refl r.sub)
theorem s_part {ta : TE} {a : XE} (h : SPk K ta a) : SO K (tPart ta) (xPart a) := fun ρ σ S H Q i r x k => by
  unfold xPart at x
  cases q : a ρ with
  | none => rw [q] at x; cases x
  | some d =>
    rw [q] at x
    dsimp only [Option.bind] at x
    cases d <;> try (cases x; done)
    rename_i j
    cases x
    exact h ρ σ S H _ _ r q fun v S1 H1 z1 d1 => ⟨j, d1.int, k S1 H1 z1⟩
theorem cut_dens {S : Hp} {ds : List D} {xs : List V} (h : Dens K S ds xs) (lo hi : Option Int) : Dens K S (cutD ds lo hi) (cutV xs lo hi) := by
  unfold cutD cutV
  rw [h.length]
  exact (h.drop _).take _
noncomputable def dSl (d : D) (lo hi : Option Int) : Option D := match d with
  | .lst l => some (.lst (cutD l lo hi))
  | .tup l => some (.tup (cutD l lo hi))
  | .scr l => some (.lst (cutD l lo hi))
  | _ => none
@[simp] noncomputable def xSl (a : XE) (lo hi : XO) : XE := fun ρ => (a ρ).bind fun d => (lo ρ).bind fun l => (hi ρ).bind fun h => dSl d l h
theorem s_sl {te : TE} {tl th : TO} {a : XE} {lo hi : XO} (ha : SPk K te a) (hl : SO K tl lo) (hh : SO K th hi) : SE K (tSl (rSlM K) te tl th) (xSl a lo hi) := fun ρ σ S H Q g r x k => by
  unfold xSl at x
  cases q : a ρ with
  | none => rw [q] at x; cases x
  | some d =>
    rw [q] at x
    dsimp only [Option.bind] at x
    cases ql : lo ρ with
    | none => rw [ql] at x; cases x
    | some l =>
      rw [ql] at x
      dsimp only at x
      cases qh : hi ρ with
      | none => rw [qh] at x; cases x
      | some h =>
        rw [qh] at x
        dsimp only at x
        refine ha ρ σ S H _ d r q fun v S1 H1 z1 d1 => ?_
        have r1 := r.ext z1
        refine hl ρ σ S1 H1 _ l r1 ql fun S2 H2 z2 => ?_
        have r2 := r1.ext z2
        refine hh ρ σ S2 H2 _ h r2 qh fun S3 H3 z3 => ?_
        have z23 := z2.trans z3
        have d3 := d1.mono z23 r1.sub
        have s3 := (r2.ext z3).sub
        have z := z1.trans z23
        cases d <;> try (cases x; done)
        · cases x
          obtain ⟨p, xs, rfl, h1, h2⟩ := d3.lst s3
          refine .inl ⟨p, xs, rfl, .inl h1, fun p' hp => ?_⟩
          have z4 := Ext.new (o := .lst (cutV xs l h)) s3 hp
          exact k _ _ _ (z.trans z4) (den_lst.mpr ⟨p', _, rfl, .inl upd_same, (cut_dens h2 l h).mono z4.sh⟩)
        · rename_i ds
          cases x
          have d3' : Den K S3 (.tup ds) v := d3.elim id fun ⟨_, _, _, e, _⟩ => by cases e
          obtain ⟨p, xs, e, h1, h2⟩ := d3.tup s3
          subst e
          refine .inr ⟨p, xs, rfl, h1, fun e => k _ S3 H3 z ?_, fun p' hp => ?_⟩
          · obtain ⟨p2, xs2, e2, h3, h4⟩ := den_tup.mp d3'
            cases e2
            have c := cut_dens h2 l h
            rw [e] at c
            refine den_tup.mpr ⟨p, xs2, rfl, h3, ?_⟩
            have hlen := c.length
            have : cutD ds l h = ds := by
              have hl2 : (cutD ds l h).length = ds.length := by rw [c.length, h2.length]
              unfold cutD at hl2 ⊢
              rw [List.length_take, List.length_drop] at hl2
              have a0 : HT.sIx ds.length 0 l = 0 ∨ ds.length = 0 := by lia
              rcases a0 with a0 | a0
              · rw [a0, List.drop_zero] at *
                exact List.take_of_length_le (by lia)
              · have : ds = [] := List.length_eq_zero_iff.mp a0
                subst this
                simp
            rw [this]
            exact h4
          · have z4 := Ext.new (o := .tup (cutV xs l h)) s3 hp
            exact k _ _ _ (z.trans z4) (den_tup.mpr ⟨p', _, rfl, SqT.of upd_same, (cut_dens h2 l h).mono z4.sh⟩)
        · cases x
          obtain ⟨p, xs, rfl, h1, h2⟩ := d3.scr s3
          refine .inl ⟨p, xs, rfl, h1, fun p' hp => ?_⟩
          have z4 := Ext.new (o := .lst (cutV xs l h)) s3 hp
          exact k _ _ _ (z.trans z4) (den_lst.mpr ⟨p', _, rfl, .inl upd_same, (cut_dens h2 l h).mono z4.sh⟩)
noncomputable def bLen : List D → Option D
  | [.lst l] => some (.int l.length)
  | [.tup l] => some (.int l.length)
  | [.scr l] => some (.int l.length)
  | [.str x] => if x.length ≤ LIM then some (.int x.length) else none
  | _ => none
theorem one_of {S H : Hp} {d : D} {vs : List V} (h : DensP K S H [d] vs) : ∃ v, vs = [v] ∧ DenP K S H d v := by
  cases h with
  | cons a b => cases b; exact ⟨_, rfl, a⟩
theorem two_of {S H : Hp} {d e : D} {vs : List V} (h : DensP K S H [d, e] vs) : ∃ v w, vs = [v, w] ∧ DenP K S H d v ∧ DenP K S H e w := by
  cases h with
  | cons a b => cases b with
    | cons c b => cases b; exact ⟨_, _, rfl, a, c⟩
noncomputable def bTuple : List D → Option D
  | [.lst l] => some (.tup l)
  | [.tup l] => some (.tup l)
  | [.scr l] => some (.tup l)
  | _ => none
theorem b_tuple : SRB K (rTuple K) bTuple := fun S H vs ds g Q s d q k => by
  unfold bTuple at q
  split at q
  · rename_i l
    cases q
    obtain ⟨v, rfl, d1⟩ := one_of d
    obtain ⟨p, xs, rfl, h1, h2⟩ := d1.lst s
    refine ⟨p, xs, rfl, .inl ⟨.inl h1, fun q hq => ?_⟩⟩
    have z := Ext.new (o := .tup xs) s hq
    exact k _ _ _ z (den_tup.mpr ⟨q, _, rfl, SqT.of upd_same, h2.mono z.sh⟩)
  · rename_i l
    cases q
    obtain ⟨v, rfl, d1⟩ := one_of d
    have d' : Den K S (.tup l) v := d1.elim id fun ⟨_, _, _, e, _⟩ => by cases e
    obtain ⟨p, xs, rfl, h1, h2⟩ := d1.tup s
    exact ⟨p, xs, rfl, .inr ⟨h1, k _ S H (Ext.refl s) d'⟩⟩
  · rename_i l
    cases q
    obtain ⟨v, rfl, d1⟩ := one_of d
    obtain ⟨p, xs, rfl, h1, h2⟩ := d1.scr s
    refine ⟨p, xs, rfl, .inl ⟨h1, fun q hq => ?_⟩⟩
    have z := Ext.new (o := .tup xs) s hq
    exact k _ _ _ z (den_tup.mpr ⟨q, _, rfl, SqT.of upd_same, h2.mono z.sh⟩)
  · cases q
noncomputable def bList : List D → Option (List D)
  | [.lst l] => some l
  | [.tup l] => some l
  | [.scr l] => some l
  | _ => none
noncomputable def bMax2 : List D → Option D
  | [.int i, .int j] => some (.int (if j > i then j else i))
  | _ => none
noncomputable def bMin2 : List D → Option D
  | [.int i, .int j] => some (.int (if j < i then j else i))
  | _ => none
theorem b_max2 : SRB K rMax2 bMax2 := fun S H vs ds g Q s d q k => by
  unfold bMax2 at q
  split at q
  · rename_i i j
    cases q
    obtain ⟨v, w, rfl, d1, d2⟩ := two_of d
    exact ⟨i, j, by rw [d1.int, d2.int], k _ S H (Ext.refl s) (den_int.mpr rfl)⟩
  · cases q
theorem b_min2 : SRB K rMin2 bMin2 := fun S H vs ds g Q s d q k => by
  unfold bMin2 at q
  split at q
  · rename_i i j
    cases q
    obtain ⟨v, w, rfl, d1, d2⟩ := two_of d
    exact ⟨i, j, by rw [d1.int, d2.int], k _ S H (Ext.refl s) (den_int.mpr rfl)⟩
  · cases q
noncomputable def intsOf : List D → Option (List Int)
  | [] => some []
  | .int i :: l => (intsOf l).map fun r => i :: r
  | _ => none
theorem ints_dens {S : Hp} : ∀ {ds : List D} {xs : List V} {ns : List Int}, Dens K S ds xs → intsOf ds = some ns → xs = ns.map V.int ∧ ds = ns.map D.int
  | [], xs, ns, h, e => by cases e; exact ⟨h.nil_of, rfl⟩
  | d :: ds, xs, ns, h, e => by
    obtain ⟨y, ys, rfl, h1, h2⟩ := h.cons_of
    cases d <;> try (cases e; done)
    rename_i i
    have e' : (intsOf ds).map (fun r => i :: r) = some ns := e
    cases q : intsOf ds with
    | none => rw [q] at e'; cases e'
    | some ms =>
      rw [q] at e'
      cases e'
      obtain ⟨k1, k2⟩ := ints_dens h2 q
      rw [den_int.mp h1, k1]
      exact ⟨rfl, congrArg (D.int i :: ·) k2⟩
noncomputable def bSum : List D → Option D
  | [.lst l] => (intsOf l).map fun ns => .int ns.sum
  | _ => none
noncomputable def bInt : List D → Option D
  | [.int i] => some (.int i)
  | [.bl b] => some (.int (if b then 1 else 0))
  | _ => none
@[simp] noncomputable def xRevL (a : XE) : XA := fun ρ => (a ρ).bind fun d => match d with | .lst l => some l.reverse | _ => none
noncomputable def tyD : D → Option String
  | .non => some "NoneType" | .bl _ => some "bool" | .int _ => some "int" | .str _ => some "str" | .lst _ => some "list" | .tup _ => some "tuple" | _ => none
noncomputable def subM (t T : String) : Bool := t == T || (t == "bool" && T == "int")
noncomputable def isiM : List String := ["bool", "int", "str", "list", "tuple"]
noncomputable def bIsi : List D → Option D
  | [d, .ty T] => if T ∈ isiM then (tyD d).map fun t => .bl (subM t T) else none
  | _ => none
end
end M
namespace M
open PySem L2
noncomputable def tupI (k : List Int) : D := .tup (k.map D.int)
noncomputable def keyD : D → Option (List Int)
  | .tup l => if l.isEmpty then none else intsOf l
  | _ => none
noncomputable def keys : List D → Option (List (List Int))
  | [] => some []
  | d :: l => (keyD d).bind fun k => (keys l).map fun r => k :: r
theorem lex_asym : ∀ a b : List Int, HT.lexLt a b = true → HT.lexLt b a = false
  | [], [], h => by cases h
  | [], _ :: _, _ => rfl
  | _ :: _, [], h => by cases h
  | x :: a, y :: b, h => by
    have h' : (if x = y then HT.lexLt a b else decide (x < y)) = true := h
    show (if y = x then HT.lexLt b a else decide (y < x)) = false
    by_cases e : x = y
    · rw [if_pos e] at h'; rw [if_pos e.symm]; exact lex_asym a b h'
    · rw [if_neg e] at h'; rw [if_neg (fun z => e z.symm)]
      have := of_decide_eq_true h'
      exact decide_eq_false (by lia)
theorem lex_total : ∀ a b : List Int, HT.lexLt a b = false → HT.lexLt b a = false → a = b
  | [], [], _, _ => rfl
  | [], _ :: _, h, _ => by cases h
  | _ :: _, [], _, h => by cases h
  | x :: a, y :: b, h, k => by
    have h' : (if x = y then HT.lexLt a b else decide (x < y)) = false := h
    have k' : (if y = x then HT.lexLt b a else decide (y < x)) = false := k
    by_cases e : x = y
    · rw [if_pos e] at h'; rw [if_pos e.symm] at k'
      rw [e, lex_total a b h' k']
    · rw [if_neg e] at h'; rw [if_neg (fun z => e z.symm)] at k'
      have := of_decide_eq_false h'
      have := of_decide_eq_false k'
      lia
theorem lex_trans : ∀ a b c : List Int, HT.lexLt a b = false → HT.lexLt b c = false → HT.lexLt a c = false
  | [], [], _, _, k => k
  | [], _ :: _, _, h, _ => by cases h
  | _ :: _, _, [], _, _ => rfl
  | _ :: _, [], _ :: _, _, k => by cases k
  | x :: a, y :: b, z :: c, h, k => by
    have h' : (if x = y then HT.lexLt a b else decide (x < y)) = false := h
    have k' : (if y = z then HT.lexLt b c else decide (y < z)) = false := k
    show (if x = z then HT.lexLt a c else decide (x < z)) = false
    by_cases e1 : x = y
    · rw [if_pos e1] at h'
      subst e1
      by_cases e2 : x = z
      · rw [if_pos e2] at k' ⊢; exact lex_trans a b c h' k'
      · rw [if_neg e2] at k' ⊢; exact k'
    · rw [if_neg e1] at h'
      have g1 := of_decide_eq_false h'
      by_cases e2 : y = z
      · subst e2
        rw [if_neg e1]; exact h'
      · rw [if_neg e2] at k'
        have g2 := of_decide_eq_false k'
        rw [if_neg (by lia)]
        exact decide_eq_false (by lia)
noncomputable def insK (x : List Int) : List (List Int) → List (List Int)
  | [] => [x]
  | y :: l => if HT.lexLt y x = true then y :: insK x l else x :: y :: l
noncomputable def sortK (ks : List (List Int)) : List (List Int) := ks.foldr insK []
theorem insK_perm (x : List Int) (l : List (List Int)) : (insK x l).Perm (x :: l) := by
  induction l with
  | nil => exact .refl _
  | cons y l ih =>
    unfold insK
    split
    · exact (ih.cons y).trans (.swap x y l)
    · exact .refl _
noncomputable def sortI (ns : List Int) : List Int := ns.mergeSort fun a b => decide (a ≤ b)
theorem sortK_perm (ks : List (List Int)) : (sortK ks).Perm ks := by
  induction ks with
  | nil => exact .refl _
  | cons x l ih => exact (insK_perm x (sortK l)).trans (ih.cons x)
theorem sortI_perm (ns : List Int) : (sortI ns).Perm ns := List.mergeSort_perm _ _
theorem insK_pw (x : List Int) (l : List (List Int)) (h : l.Pairwise fun a b => HT.lexLt b a = false) : (insK x l).Pairwise fun a b => HT.lexLt b a = false := by
  induction l with
  | nil => exact .cons (fun _ z => by cases z) .nil
  | cons y l ih =>
    have hy : ∀ z, z ∈ l → HT.lexLt z y = false := fun z hz => List.rel_of_pairwise_cons h hz
    unfold insK
    cases q : HT.lexLt y x with
    | true =>
      refine .cons (fun z hz => ?_) (ih (List.Pairwise.of_cons h))
      rcases List.mem_cons.mp ((insK_perm x l).mem_iff.mp hz) with rfl | hz
      · exact lex_asym y _ q
      · exact hy z hz
    | false =>
      refine .cons (fun z hz => ?_) h
      rcases List.mem_cons.mp hz with rfl | hz
      · exact q
      · exact lex_trans z y x (hy z hz) q
theorem sortK_pw (ks : List (List Int)) : (sortK ks).Pairwise fun a b => HT.lexLt b a = false := by
  induction ks with
  | nil => exact .nil
  | cons x l ih => exact insK_pw x (sortK l) ih
theorem sortI_pw (ns : List Int) : (sortI ns).Pairwise (· ≤ ·) := by
  have h := List.pairwise_mergeSort (le := fun a b : Int => decide (a ≤ b)) (fun a b c h k => by
    have := of_decide_eq_true h; have := of_decide_eq_true k; exact decide_eq_true (by lia)) (fun a b => by
    by_cases h : a ≤ b
    · simp [h]
    · simp [show b ≤ a by lia]) ns
  exact h.imp fun {a b} e => of_decide_eq_true e
theorem sortK_uniq {ks js : List (List Int)} (hp : js.Perm ks) (hw : js.Pairwise fun a b => HT.lexLt b a = false) : js = sortK ks :=
  List.Perm.eq_of_pairwise (fun a b _ _ h k => lex_total a b k h) hw (sortK_pw ks) (hp.trans (sortK_perm ks).symm)
theorem sortI_uniq {ns ms : List Int} (hp : ms.Perm ns) (hw : ms.Pairwise (· ≤ ·)) : ms = sortI ns :=
  List.Perm.eq_of_pairwise (fun a b _ _ h k => by lia) hw (sortI_pw ns) (hp.trans (sortI_perm ns).symm)
noncomputable def rSortM (K : PySem.W.Frag) : List V → Hp → VK → Prop := fun xs H Q => ∃ p, ∃ yks : List (V × List Int), xs = [.ref p] ∧ SqL K H p (yks.map (·.1)) ∧ yks.length < 64 ∧ (∀ yk ∈ yks, ∃ q, yk.1 = .ref q ∧ SqT K H q (yk.2.map V.int) ∧ yk.2 ≠ []) ∧
  ∀ (zks : List (V × List Int)) l, zks.Perm yks → zks.Pairwise (fun a b => HT.lexLt b.2 a.2 = false) → H l = none → Q (.ref l) (upd H l (.lst (zks.map (·.1))))
noncomputable def rSortedM (K : PySem.W.Frag) : List V → Hp → VK → Prop := fun xs H Q => rSortedI K xs H Q ∨ rSortM K xs H Q
noncomputable def bSorted : List D → Option (List D)
  | [.lst l] => if l.length < 64 then (match intsOf l with
    | some ns => some ((sortI ns).map D.int)
    | none => (keys l).map fun ks => (sortK ks).map tupI) else none
  | _ => none
section
variable {K : PySem.W.Frag}
theorem keyD_of {d : D} {k : List Int} (h : keyD d = some k) : d = tupI k ∧ k ≠ [] := by
  cases d <;> try (cases h; done)
  rename_i l
  have h' : (if l.isEmpty then none else intsOf l) = some k := h
  split at h'
  · cases h'
  · rename_i hne
    have key : ∀ (l : List D) (k : List Int), intsOf l = some k → l = k.map D.int := by
      intro l
      induction l with
      | nil => intro k e; cases e; rfl
      | cons d l ih =>
        intro k e
        cases d <;> try (cases e; done)
        rename_i i
        have e' : (intsOf l).map (fun r => i :: r) = some k := e
        cases q : intsOf l with
        | none => rw [q] at e'; cases e'
        | some m => rw [q] at e'; cases e'; rw [ih m q]; rfl
    have e := key l k h'
    subst e
    exact ⟨rfl, fun z => by subst z; exact hne rfl⟩
theorem keys_of : ∀ {l : List D} {ks : List (List Int)}, keys l = some ks → l = ks.map tupI ∧ ∀ k ∈ ks, k ≠ []
  | [], ks, h => by cases h; exact ⟨rfl, fun _ h => by cases h⟩
  | d :: l, ks, h => by
    have h' : ((keyD d).bind fun k => (keys l).map fun r => k :: r) = some ks := h
    cases q : keyD d with
    | none => rw [q] at h'; cases h'
    | some k =>
      rw [q] at h'
      dsimp only [Option.bind] at h'
      cases q2 : keys l with
      | none => rw [q2] at h'; cases h'
      | some r =>
        rw [q2] at h'
        cases h'
        obtain ⟨a, b⟩ := keys_of q2
        obtain ⟨c, d⟩ := keyD_of q
        refine ⟨by rw [List.map_cons, ← a, ← c], fun k hk => ?_⟩
        rcases List.mem_cons.mp hk with rfl | hk
        · exact d
        · exact b k hk
theorem ints_map_V : ∀ {S : Hp} {k : List Int} {xs : List V}, Dens K S (k.map D.int) xs → xs = k.map V.int
  | S, [], xs, h => h.nil_of
  | S, i :: k, xs, h => by
    obtain ⟨y, ys, rfl, h1, h2⟩ := h.cons_of
    rw [den_int.mp h1, ints_map_V h2]
    rfl
theorem dens_zip {S : Hp} : ∀ {ks : List (List Int)} {xs : List V}, Dens K S (ks.map tupI) xs → (xs.zip ks).map (·.1) = xs ∧ (xs.zip ks).map (·.2) = ks ∧ (xs.zip ks).length = ks.length ∧ ∀ yk ∈ xs.zip ks, Den K S (tupI yk.2) yk.1
  | [], xs, h => by rw [h.nil_of]; exact ⟨rfl, rfl, rfl, fun _ h => by cases h⟩
  | k :: ks, xs, h => by
    obtain ⟨y, ys, rfl, h1, h2⟩ := h.cons_of
    obtain ⟨a, b, c, d⟩ := dens_zip h2
    refine ⟨by rw [List.zip_cons_cons, List.map_cons, a], by rw [List.zip_cons_cons, List.map_cons, b], by rw [List.zip_cons_cons, List.length_cons, c, List.length_cons], fun yk hm => ?_⟩
    rw [List.zip_cons_cons] at hm
    rcases List.mem_cons.mp hm with rfl | hm
    · exact h1
    · exact d yk hm
theorem dens_of_pairs {S : Hp} : ∀ {zks : List (V × List Int)}, (∀ yk ∈ zks, Den K S (tupI yk.2) yk.1) → Dens K S ((zks.map (·.2)).map tupI) (zks.map (·.1))
  | [], _ => .nil
  | yk :: zks, h => .cons (h yk List.mem_cons_self) (dens_of_pairs fun z hz => h z (List.mem_cons_of_mem _ hz))
theorem b_sorted : SRF K (rSortedM K) bSorted := fun S H vs ds g Q s d q k => by
  unfold bSorted at q
  split at q
  · rename_i l
    split at q
    · rename_i hl
      obtain ⟨v, rfl, d1⟩ := one_of d
      obtain ⟨p, xs, rfl, h1, h2⟩ := d1.lst s
      cases qi : intsOf l with
      | some ns =>
        rw [qi] at q
        cases q
        obtain ⟨e1, e2⟩ := ints_dens h2 qi
        subst e1 e2
        refine .inl ⟨p, ns, rfl, .inl h1, by rw [List.length_map] at hl; exact hl, fun ms a pm pw ha => ?_⟩
        rw [sortI_uniq pm pw]
        refine k a _ _ (Ext.own s ha) ha upd_same ?_
        have key : ∀ ns : List Int, Dens K S (ns.map D.int) (ns.map V.int) := by
          intro ns
          induction ns with
          | nil => exact .nil
          | cons n ns ih => exact .cons (den_int.mpr rfl) ih
        exact key _
      | none =>
        rw [qi] at q
        dsimp only at q
        cases qk : keys l with
        | none => rw [qk] at q; cases q
        | some ks =>
          rw [qk] at q
          cases q
          obtain ⟨e1, e2⟩ := keys_of qk
          subst e1
          obtain ⟨a, b, c, dd⟩ := dens_zip h2
          refine .inr ⟨p, xs.zip ks, rfl, by rw [a]; exact .inl h1, by rw [c]; rw [List.length_map] at hl; exact hl, fun yk hm => ?_, fun zks l pm pw hl => ?_⟩
          · obtain ⟨q, ys, e, g1, g2⟩ := den_tup.mp (dd yk hm)
            have := ints_map_V g2
            subst this
            refine ⟨q, e, sqT_mono s g1, e2 _ ?_⟩
            rw [← b]
            exact List.mem_map.mpr ⟨yk, hm, rfl⟩
          · have e : zks.map (·.2) = sortK ks := by
              refine sortK_uniq ?_ ?_
              · rw [← b]; exact pm.map _
              · rw [List.pairwise_map]; exact pw
            have dz : Dens K S ((zks.map (·.2)).map tupI) (zks.map (·.1)) := dens_of_pairs fun yk hm => dd yk (pm.mem_iff.mp hm)
            rw [e] at dz
            exact k l _ _ (Ext.own s hl) hl upd_same dz
    · cases q
  · cases q
theorem s_truK {ta : TE} {a : XE} (ha : SPk K ta a) : ST K (tTru K ta) (xTru a) := s_tru ha
end
end M
namespace M
open PySem L2
noncomputable def dAddI : D → D → Option D := dI fun i j => some (.int (i + j))
section
variable {K : PySem.W.Frag}
theorem r_ipadd : SR2 K (ipI fun i j => i + j) dAddI := r_i0 (g := fun i j => .int (i + j)) fun i j d h => by cases h; rfl
end
end M
namespace M
open PySem L2
theorem s_truQ {K : PySem.W.Frag} {ta : TE} {a : XE} (ha : SQ K ta a) : ST K (tTru K ta) (xTru a) := fun ρ σ S H Q b r x k => by
  unfold xTru at x
  cases qa : a ρ with
  | none => rw [qa] at x; cases x
  | some da =>
    rw [qa] at x
    exact ha ρ σ S H _ da r qa fun v S1 H1 z1 d1 => ⟨b, tru_of (Same.refl H1) (.inl d1) x, k S1 H1 z1⟩
end M
namespace M
open PySem L2
theorem loopF_cons (g : XG) (m : XS) (d : D) (l : List D) (ρ : Env) : loopF g m (d :: l) ρ = (g d ρ).bind fun ρ1 => match m ρ1 with
    | some (.nx ρ2) => loopF g m l ρ2
    | some (.ct ρ2) => loopF g m l ρ2
    | some (.bk ρ2) => some (.nx ρ2)
    | some (.rt d) => some (.rt d)
    | some (.ro d) => some (.ro d)
    | none => none := rfl
@[simp] theorem atI_neg1 {α : Type} (l : List α) (x : α) : atI (l ++ [x]) (-1) = some x := by
  unfold atI ixN
  rw [if_neg (by decide), List.length_append, List.length_singleton, if_pos (by lia)]
  have : ((-1 : Int) + ((l.length + 1 : Nat) : Int)).toNat = l.length := by lia
  dsimp only [Option.bind]
  rw [this]
  simp
theorem atI_of {α : Type} {l : List α} {j : Nat} {x : α} (h : l[j]? = some x) : atI l (j : Int) = some x := by
  have := (List.getElem?_eq_some_iff.mp h).1
  unfold atI ixN
  rw [if_pos (by lia), if_pos (by lia)]
  dsimp only [Option.bind]
  rw [Int.toNat_natCast]
  exact h
@[simp] theorem putL_last (l : List O) (x : O) (f : O → O) : putL (l ++ [x]) (-1) f = l ++ [f x] := by
  unfold putL ixN
  rw [if_neg (by decide), List.length_append, List.length_singleton, if_pos (by lia)]
  have : ((-1 : Int) + ((l.length + 1 : Nat) : Int)).toNat = l.length := by lia
  dsimp only
  rw [this]
  simp
@[simp] theorem atI_last2 {α : Type} (l : List α) (a b : α) : atI (l ++ [a, b]) (-1) = some b := by
  have := atI_neg1 (l ++ [a]) b
  rw [List.append_assoc] at this
  exact this
@[simp] theorem atI_one {α : Type} (a : α) : atI [a] (-1) = some a := atI_neg1 [] a
@[simp] theorem putL_last2 (l : List O) (a b : O) (f : O → O) : putL (l ++ [a, b]) (-1) f = l ++ [a, f b] := by
  have := putL_last (l ++ [a]) b f
  rw [List.append_assoc, List.append_assoc] at this
  exact this
@[simp] theorem putL_one (a : O) (f : O → O) : putL [a] (-1) f = [f a] := putL_last [] a f
@[simp] theorem flat_int (i : Int) : flat (.int i) = some (.int i) := rfl
@[simp] theorem flat_bl (i : Bool) : flat (.bl i) = some (.bl i) := rfl
@[simp] theorem flat_str (i : Str) : flat (.str i) = some (.str i) := rfl
@[simp] theorem flat_non : flat .non = some .non := rfl
@[simp] theorem putL2_1 (a b : O) (f : O → O) : putL [a, b] 1 f = [a, f b] := rfl
section
variable (i j : Int) (a b : List D) (neg : Bool) (ρ : Env)
@[simp] theorem v_sub : dSub (.int i) (.int j) = some (.int (i - j)) := rfl
@[simp] theorem v_add : dAdd (.int i) (.int j) = some (.int (i + j)) := rfl
@[simp] theorem v_addI : dAddI (.int i) (.int j) = some (.int (i + j)) := rfl
@[simp] theorem v_lt : dLt (.int i) (.int j) = some (.bl (decide (i < j))) := rfl
@[simp] theorem v_le : dLe (.int i) (.int j) = some (.bl (decide (i ≤ j))) := rfl
@[simp] theorem v_gt : dGt (.int i) (.int j) = some (.bl (decide (j < i))) := rfl
@[simp] theorem v_ge : dGe (.int i) (.int j) = some (.bl (decide (j ≤ i))) := rfl
@[simp] theorem v_neg : dNeg (.int i) = some (.int (-i)) := rfl
@[simp] theorem v_mulR {i j : Int} (h : -18446744073709551616 < j ∧ j < 18446744073709551616) : dMul (.int i) (.int j) = some (.int (i * j)) := ifC_pos (.inr h)
@[simp] theorem v_mulL {i j : Int} (h : -18446744073709551616 < i ∧ i < 18446744073709551616) : dMul (.int i) (.int j) = some (.int (i * j)) := ifC_pos (.inl h)
@[simp] theorem v_div {i j : Int} (h : 0 < j ∧ j < 1073741824) : dDiv (.int i) (.int j) = some (.int (i / j)) := ifC_pos h
@[simp] theorem v_mod {i j : Int} (h : 0 < j) : dMod (.int i) (.int j) = some (.int (i % j)) := ifC_pos h
@[simp] theorem v_pow {i j : Int} (h : 0 ≤ j ∧ j ≤ 1000000 ∧ i.natAbs < 18446744073709551616) : dPow (.int i) (.int j) = some (.int (i ^ j.toNat)) := ifC_pos h
@[simp] theorem v_isN (d : D) : dIsN neg d .non = some (.bl (if neg then !isNon d else isNon d)) := rfl
@[simp] theorem v_isNon1 : isNon .non = true := rfl
@[simp] theorem v_isNon2 : isNon (.int i) = false := rfl
@[simp] theorem v_isNon3 : isNon (.tup a) = false := rfl
@[simp] theorem v_ixL : dIx (.lst a) (.int i) = atI a i := rfl
@[simp] theorem v_ixT : dIx (.tup a) (.int i) = atI a i := rfl
@[simp] theorem v_ixS : dIx (.scr a) (.int i) = atI a i := rfl
@[simp] theorem v_truL : truD (.lst a) = some (!a.isEmpty) := rfl
@[simp] theorem v_truT : truD (.tup a) = some (!a.isEmpty) := rfl
@[simp] theorem v_truS : truD (.scr a) = some (!a.isEmpty) := rfl
@[simp] theorem v_truB (x : Bool) : truD (.bl x) = some x := rfl
@[simp] theorem v_truI : truD (.int i) = some (i != 0) := rfl
@[simp] theorem v_truN : truD .non = some false := rfl
@[simp] theorem v_lenL : bLen [.lst a] = some (.int a.length) := rfl
@[simp] theorem v_lenT : bLen [.tup a] = some (.int a.length) := rfl
@[simp] theorem v_lenS : bLen [.scr a] = some (.int a.length) := rfl
@[simp] theorem v_tupL : bTuple [.lst a] = some (.tup a) := rfl
@[simp] theorem v_tupT : bTuple [.tup a] = some (.tup a) := rfl
@[simp] theorem v_lstL : bList [.lst a] = some a := rfl
@[simp] theorem v_lstT : bList [.tup a] = some a := rfl
@[simp] theorem v_lstS : bList [.scr a] = some a := rfl
@[simp] theorem v_max : bMax2 [.int i, .int j] = some (.int (if j > i then j else i)) := rfl
@[simp] theorem v_min : bMin2 [.int i, .int j] = some (.int (if j < i then j else i)) := rfl
@[simp] theorem v_int : bInt [.int i] = some (.int i) := rfl
@[simp] theorem v_intB (x : Bool) : bInt [.bl x] = some (.int (if x then 1 else 0)) := rfl
@[simp] theorem v_seqL : seqD (.lst a) = some a := rfl
@[simp] theorem v_seqT : seqD (.tup a) = some a := rfl
@[simp] theorem v_seqS : seqD (.scr a) = some a := rfl
@[simp] theorem v_slL (lo hi : Option Int) : dSl (.lst a) lo hi = some (.lst (cutD a lo hi)) := rfl
@[simp] theorem v_slT (lo hi : Option Int) : dSl (.tup a) lo hi = some (.tup (cutD a lo hi)) := rfl
@[simp] theorem v_slS (lo hi : Option Int) : dSl (.scr a) lo hi = some (.lst (cutD a lo hi)) := rfl
@[simp] theorem v_gT (y : XGs) : xgTup y (.tup a) ρ = y a ρ := rfl
@[simp] theorem v_gC (x : XG) (y : XGs) (d : D) : xgCons x y (d :: a) ρ = (x d ρ).bind (y a) := rfl
@[simp] theorem v_gN : xgNil [] ρ = some ρ := rfl
@[simp] theorem v_isiI : bIsi [.int i, .ty "int"] = some (.bl true) := rfl
@[simp] theorem v_isiB : bIsi [.int i, .ty "bool"] = some (.bl false) := rfl
@[simp] theorem v_isiT : bIsi [.tup a, .ty "tuple"] = some (.bl true) := rfl
@[simp] theorem v_isiL : bIsi [.lst a, .ty "list"] = some (.bl true) := rfl
@[simp] theorem v_isiBB (x : Bool) : bIsi [.bl x, .ty "bool"] = some (.bl true) := rfl
end
@[simp] theorem peek_lst (os : List O) : peek (.ow (.lst os)) = (shs os).map D.lst := rfl
@[simp] theorem shs_nil : shs [] = some [] := rfl
@[simp] theorem shs_cons (d : D) (l : List O) : shs (.sh d :: l) = (shs l).map fun r => d :: r := rfl
@[simp] theorem shs_map' (l : List D) : shs (l.map O.sh) = some l := shs_map l
@[simp] theorem shs_mapc {α : Type} (f : α → D) (l : List α) : shs (l.map (O.sh ∘ f)) = some (l.map f) := by rw [← List.map_map]; exact shs_map _
@[simp] theorem shs_mapf {α : Type} (f : α → D) (l : List α) : shs (l.map fun a => O.sh (f a)) = some (l.map f) := shs_mapc f l
@[simp] theorem shs_app : ∀ (a b : List O), shs (a ++ b) = (shs a).bind fun x => (shs b).map fun y => x ++ y
  | [], b => by cases h : shs b <;> simp [h]
  | .sh d :: a, b => by
    rw [List.cons_append, shs_cons, shs_cons, shs_app a b]
    cases shs a with
    | none => rfl
    | some x => cases shs b <;> rfl
  | .lst _ :: a, b => rfl
  | .tup _ :: a, b => rfl
@[simp] theorem subO_nil (o : O) : subO o [] = some o := by unfold subO; rfl
@[simp] theorem subO_lst (l : List O) (k : Int) (r : List Int) : subO (.lst l) (k :: r) = (atI l k).bind fun o => subO o r := rfl
@[simp] theorem subO_tup (l : List O) (k : Int) (r : List Int) : subO (.tup l) (k :: r) = (atI l k).bind fun o => subO o r := rfl
@[simp] theorem putO_nil (o q : O) : putO o [] q = q := by unfold putO; rfl
@[simp] theorem putO_lst (l : List O) (k : Int) (r : List Int) (q : O) : putO (.lst l) (k :: r) q = .lst (putL l k fun o => putO o r q) := rfl
@[simp] theorem putO_tup (l : List O) (k : Int) (r : List Int) (q : O) : putO (.tup l) (k :: r) q = .tup (putL l k fun o => putO o r q) := rfl
@[simp] theorem O_d_sh (d : D) : O.d (.sh d) = d := by unfold O.d; rfl
@[simp] theorem O_d_lst (l : List O) : O.d (.lst l) = .lst (O.ds l) := by rw [O.d]
@[simp] theorem O_d_tup (l : List O) : O.d (.tup l) = .tup (O.ds l) := by rw [O.d]
@[simp] theorem O_ds_nil : O.ds [] = [] := by rw [O.ds]
@[simp] theorem O_ds_cons (o : O) (l : List O) : O.ds (o :: l) = o.d :: O.ds l := by rw [O.ds]
@[simp] theorem O_ds_app : ∀ (a b : List O), O.ds (a ++ b) = O.ds a ++ O.ds b
  | [], b => by simp
  | o :: a, b => by simp [O_ds_app a b]
@[simp] theorem O_ds_map : ∀ l : List D, O.ds (l.map O.sh) = l
  | [] => by simp
  | d :: l => by simp [O_ds_map l]
@[simp] theorem O_ds_mapc {α : Type} (f : α → D) (l : List α) : O.ds (l.map (O.sh ∘ f)) = l.map f := by rw [← List.map_map]; exact O_ds_map _
@[simp] theorem at2_0 {α : Type} (a b : α) : atI [a, b] 0 = some a := rfl
@[simp] theorem at2_1 {α : Type} (a b : α) : atI [a, b] 1 = some b := rfl
@[simp] theorem at3_0 {α : Type} (a b c : α) : atI [a, b, c] 0 = some a := rfl
@[simp] theorem at3_1 {α : Type} (a b c : α) : atI [a, b, c] 1 = some b := rfl
@[simp] theorem at3_2 {α : Type} (a b c : α) : atI [a, b, c] 2 = some c := rfl
theorem lim_is : LIM = 1000000 := by unfold LIM; rfl
@[simp] theorem lim0 : (0 : Nat) ≤ LIM := Nat.zero_le _
@[simp] theorem lim1 : (1 : Nat) ≤ LIM := by rw [lim_is]; decide
@[simp] theorem lim2 : (2 : Nat) ≤ LIM := by rw [lim_is]; decide
@[simp] theorem lim3 : (3 : Nat) ≤ LIM := by rw [lim_is]; decide
@[simp] theorem lim4 : (4 : Nat) ≤ LIM := by rw [lim_is]; decide
@[simp] theorem lim5 : (5 : Nat) ≤ LIM := by rw [lim_is]; decide
@[simp] theorem lim6 : (6 : Nat) ≤ LIM := by rw [lim_is]; decide
@[simp] theorem lim7 : (7 : Nat) ≤ LIM := by rw [lim_is]; decide
@[simp] theorem lim8 : (8 : Nat) ≤ LIM := by rw [lim_is]; decide
@[simp] theorem lim9 : (9 : Nat) ≤ LIM := by rw [lim_is]; decide
@[simp] theorem lim10 : (10 : Nat) ≤ LIM := by rw [lim_is]; decide
@[simp] theorem lim0' : (0 : Nat) < LIM := by rw [lim_is]; decide
@[simp] theorem dEq_int (neg : Bool) (i j : Int) : dEq neg (.int i) (.int j) = some (.bl (if neg then !decide (i = j) else decide (i = j))) := by
  unfold dEq
  rw [if_pos ⟨by simp [okD], by simp [okD]⟩]
  have : eqD (.int i) (.int j) = decide (i = j) := by simp [eqD]; by_cases h : i = j <;> simp [h]
  rw [this]
@[simp] theorem dEq_bl (neg : Bool) (i j : Bool) : dEq neg (.bl i) (.bl j) = some (.bl (if neg then !decide (i = j) else decide (i = j))) := by
  unfold dEq
  rw [if_pos ⟨by simp [okD], by simp [okD]⟩]
  have : eqD (.bl i) (.bl j) = decide (i = j) := by simp [eqD]; by_cases h : i = j <;> simp [h]
  rw [this]
end M
namespace M
open PySem L2
theorem dens_ints {K : PySem.W.Frag} {S : Hp} : ∀ ns : List Int, Dens K S (ns.map D.int) (ns.map V.int)
  | [] => .nil
  | n :: ns => .cons (den_int.mpr rfl) (dens_ints ns)
theorem sp_script {K : PySem.W.Frag} {H : Hp} {a : Addr} {ns : List Int} {m : List D → Option O} {E : XK} (hS : SqL K H a (ns.map V.int)) (h : (m [.scr (ns.map D.int)]).map O.d = some (.bl true)) : spOf K 1 m [.ref a] H (fun v _ => v = .bl true) E := by
  cases q : m [.scr (ns.map D.int)] with
  | none => rw [q] at h; cases h
  | some o =>
    rw [q] at h
    have e : o.d = .bl true := Option.some.inj h
    exact ⟨rfl, H, [.scr (ns.map D.int)], o, Same.refl _, .cons (den_scr.mpr ⟨a, _, rfl, hS, dens_ints ns⟩) .nil, q, fun v fp S' H' z ow _ _ => by
      have dv := ow.denH z.sub
      rw [e] at dv
      exact den_bl.mp dv⟩
end M
namespace L2
open PySem PySem.Spec PyProof.Rows
theorem bt_sorted : bootBuiltins "sorted" = some (.builtin "sorted") := by decide +kernel
theorem bt_max : bootBuiltins "max" = some (.builtin "max") := by decide +kernel
theorem bt_min : bootBuiltins "min" = some (.builtin "min") := by decide +kernel
theorem bt_isinstance : bootBuiltins "isinstance" = some (.builtin "isinstance") := by decide +kernel
theorem bt_tuple : bootBuiltins "tuple" = some (.type "tuple") := by decide +kernel
section
variable {X : Cx}
theorem lex_same : ∀ a b : List Int, Srt.lexI a b = HT.lexLt a b
  | [], [] => rfl
  | [], _ :: _ => rfl
  | _ :: _, [] => rfl
  | x :: xs, y :: ys => by
    rw [HT.lexLt_cons, ← lex_same xs ys]
    rfl
end
end L2
namespace Rev
open PySem
section
variable {prog : Program} {w : World} {A : Around} {s : Shared} {R : Result → Shared → Prop} {I : Addr} {fp wr : List Addr} {G : Array GenState → Array GenState → Prop} {n : Nat} {P : Nat → Value → Prop} {St : Nat → Shared → Prop}
end
section
variable {prog : Program} {w : World} {A : Around} {E : Value → Shared → Prop} {s : Shared} {I : Addr} {fp wr : List Addr} {G : Array GenState → Array GenState → Prop} {n : Nat} {P : Nat → Value → Prop} {St : Nat → Shared → Prop}
end
end Rev
namespace L2
open PySem PySem.Spec PyProof.Rows
theorem bt_reversed : bootBuiltins "reversed" = some (.type "reversed") := by decide +kernel
section
variable {X : Cx} {tg : Expr}
theorem pi_seq {l : Expr} {tl : TE} (hl : PE X l tl) : PI X tg l (iSeq X.K tl) := by
  intro pins s σ H R I h
  refine thn (hl pins s σ H _ I h) fun v s1 h1 => ?_
  obtain ⟨x, H1, I1, r1, a, e, q⟩ := h1
  subst e
  cases r1
  rcases q with ⟨⟨xs, hq⟩, q⟩ | ⟨⟨xs, hq⟩, q⟩
  · obtain ⟨its, rv, p, hz⟩ := I1.list hq
    refine wpAny_pyIter_list p.isList ⟨s1.heap.objs.size, [s1.heap.objs.size], _, _, H1, rfl, I1.kept (t' := s1.toks) fun b o e => Heap.get?_push_of_some _ e, turn_list a _, ⟨_, Heap.get?_push_size _ rfl, rfl, rfl⟩, fun b hb => ?_, q⟩
    rw [List.mem_singleton.mp hb]
    exact I1.fpOk (Nat.le_refl _) I1.fresh
  · obtain ⟨its, rv, p, hz⟩ := I1.tuple hq
    refine wpAny_pyIter_tuple (show s1.heap.IsTuple a its.toArray from p) ⟨s1.heap.objs.size, [s1.heap.objs.size], _, _, H1, rfl, I1.kept (t' := s1.toks) fun b o e => Heap.get?_push_of_some _ e, turn_tuple a _, ⟨_, Heap.get?_push_size _ rfl, rfl, rfl⟩, fun b hb => ?_, q⟩
    rw [List.mem_singleton.mp hb]
    exact I1.fpOk (Nat.le_refl _) I1.fresh
end
end L2
namespace L2
open PySem PySem.Spec PyProof.Rows
section
variable {X : Cx} {tg : Expr}
theorem ints_vals : ∀ {vs : List Value} {ns : List Int}, IntsAre vs ns → Vals (ns.map V.int) vs
  | _, _, .nil => .nil
  | _, _, .cons n t h => .cons ⟨t, rfl⟩ (ints_vals h)
theorem call_sortedI : CallR X (.builtin "sorted") (rSortedI X.K) := by
  intro pins s σ H xs us Q I r h
  obtain ⟨p, ns, rfl, hS, h64, k⟩ := h
  obtain ⟨u, rfl, ru⟩ := r.one
  cases ru
  obtain ⟨its, rv, pl, hz⟩ := I.list hS
  have hI : IntsAre its ns := intsAre_of rv
  have hl : its.length = ns.length := by have := rv.length; rw [List.length_map] at this; exact this.symm
  refine sorted_ints pl.isList hI (by lia) fun out ms ho perm pw => ?_
  obtain ⟨e, at1⟩ := sortedAll_at s.heap its out
  have fresh : s.heap.objs.size ≤ s.heap.objs.size + 1 := Nat.le_succ _
  refine ⟨.ref (s.heap.objs.size + 1), upd H (s.heap.objs.size + 1) (.lst (ms.map V.int)), I.laid (t' := s.toks) (fun b o hb => sortedAll_old hb) fresh ?_, rfl, k ms _ perm pw (I.hok.fresh fresh)⟩
  exact ⟨by rw [List.length_map, perm.length_eq, sizeLine_eq]; lia, out.toList, e, ints_vals ho, by simpa using at1⟩
end
end L2
namespace HT
open PySem PySem.Spec PyProof.Rows
section
variable {prog : Program} {w : World} {A : Around} {E : Value → Shared → Prop} {s : Shared}
theorem getItem_tuple_whole {t sl : Addr} {items : Array Value} {vl vu : Value} {lo hi : Option Int} {Q : Value → Shared → Prop} (ht : IsTup s.heap t items) (hs : s.heap.IsSliceOf sl vl vu .none) (pl : IsPart vl lo) (pu : IsPart vu hi)
    (hw : sIx items.size 0 lo = 0 ∧ sIx items.size items.size hi = items.size) (h : Q (.ref t) s) : wpAny (model prog w) A (getItem (.ref t) (.ref sl)) Q E s := by
  obtain ⟨os, hos, hcs, hds⟩ := id hs
  have hTs : s.TypeIs (.ref sl) "slice" := ⟨os, hos, hcs⟩
  unfold getItem
  try with_reducible refine wpAny_holding ?_
  first | refine wpAny_bind (wpAny_pure ?_) | skip
  refine wpAny_bind (wpAny_sequenceKey ht.typeIs (by decide) ?_)
  refine wpAny_bind (wpAny_callSpecial?_slot (name := Str.ofString "__getitem__") ht.typeIs PyProof.Rows.slot_tuple_getitem
    (wpAny_call_entry PyProof.Rows.slot_tuple_getitem ht.typeIs entry_tuple_getitem ?_ (args_tuple_getitem _ _)))
  show wpAny _ _ (Builtin.Tuple.tupleItemsOf (.ref t) >>= _) _ _ s
  refine wpAny_bind (tupleItemsOf_ ht ?_)
  refine wpAny_bind (wpAny_typeOf hTs ?_)
  rw [if_pos (by decide)]
  refine wpAny_bind (sliceApplied_gen hs pl pu ?_)
  have hyes : ((((sIx items.size 0 lo : Nat) : Int) == 0 && (1 : Int) == 1 && (sIx items.size items.size hi - sIx items.size 0 lo) == items.size) = true) := by
    rw [hw.1, hw.2]
    simp
  show wpAny _ _ (if (((sIx items.size 0 lo : Nat) : Int) == 0 && (1 : Int) == 1 && (sIx items.size items.size hi - sIx items.size 0 lo) == items.size) = true then _ else _) _ _ s
  rw [if_pos hyes]
  refine wpAny_bind (m := Builtin.Tuple.tupleIsExact _) (wpAny_bind (wpAny_typeOf ht.typeIs (wpAny_pure ?_)))
  rw [if_pos (by decide)]
  exact wpAny_bind (wpAny_rule (wpAny_pure ⟨_, rfl, wpAny_pure h⟩))
end
end HT
namespace L2
open PySem PySem.Spec PyProof.Rows M
theorem Inv.rdl {X : Cx} {pins : List (Addr × Obj)} {σ : St} {H : Hp} {s : Shared} {l : Addr} {xs : List V} (I : Inv X pins σ H s) (h : Rd H l (.lst xs)) : xs.length ≤ sizeLine ∧ ∃ (its : List Value) (n : Nat), Vals xs its ∧ xs.length = its.length ∧ s.heap.get? l = some { cls := .type "list", data := .seq its.toArray n } := by
  obtain ⟨h1, its, n, r, e⟩ := (show ObjOk X.prog X.w H s.heap l (.lst xs) from h.ok I.hok)
  exact ⟨h1, its, n, r, r.length, e⟩
section
variable {X : Cx}
theorem op_catM : OpR X (binaryOp .Add) rCatM := by
  intro pins s σ H x y v u Q I rx ry h
  obtain ⟨l, b, xs, zs, rfl, rfl, hH, hB, hz, q⟩ := h
  cases rx
  cases ry
  obtain ⟨z, its, n, r, hl, e⟩ := I.rdl hH
  obtain ⟨z2, its2, n2, r2, hl2, e2⟩ := I.rdl hB
  refine PySem.P.add_list e e2 ?_ (by rw [List.size_toArray, List.size_toArray]; lia)
  have ea : its.toArray ++ its2.toArray = (its ++ its2).toArray := by simp
  rw [ea]
  exact ⟨.ref _, _, I.lnew (t' := s.toks) (r.append r2) (by rw [List.length_append]; lia), rfl, q _ I.fresh⟩
theorem op_tupM : OpR X (binaryOp .Add) (rTupM X.K) := by
  intro pins s σ H x y v u Q I rx ry h
  obtain ⟨a, b, xs, ys, rfl, rfl, ha, hb, hz, q1, q2, q⟩ := h
  cases rx
  cases ry
  obtain ⟨its, r1, p1, _⟩ := I.tuple ha
  obtain ⟨its2, r2, p2, _⟩ := I.tuple hb
  have hz2 : its.length + its2.length ≤ sizeLine := by rw [← r1.length, ← r2.length]; exact hz
  by_cases hv : its = []
  · have hx : xs = [] := r1.nil_iff.mp hv
    obtain ⟨⟨cls, dd, data, sl⟩, ho, hc, n, hd⟩ := id p1
    obtain ⟨⟨cls2, dd2, data2, sl2⟩, ho2, hc2, n2, hd2⟩ := id p2
    simp only at hc hd hc2 hd2; subst hc hd hc2 hd2
    exact concat_meets ⟨_, ho, rfl⟩ ⟨_, ho2, rfl⟩ noFill_tuple_add seq_tuple_add PySem.F.slot_tuple_add PySem.F.entry_tuple_add (PySem.F.args_tuple_add_2 (.ref a) (.ref b)) (tuple_addW0 a b its.toArray its2.toArray n n2 dd dd2 sl sl2 (by simp [hv])) ⟨ho, ho2, ⟨.ref b, H, I, rfl, q2 hx⟩⟩
  · refine HT.cat_tup p1 p2 hv (fun z => ⟨.ref a, H, I, rfl, q1 (r2.nil_iff.mp z)⟩) (fun z => ?_) hz2
    refine ⟨.ref s.heap.objs.size, _, I.laid (t' := s.toks) (o := .tup (xs ++ ys)) (fun b ob e => Heap.get?_push_of_some _ e) (Nat.le_refl _) ?_, rfl, q _ (I.hok.fresh (Nat.le_refl _))⟩
    exact ⟨by rw [List.length_append]; exact hz, _, r1.append r2, IsTup.new _ _⟩
theorem op_strM : OpR X (binaryOp .Add) rStrM := op_add_str
theorem op_addM : OpR X (binaryOp .Add) (rAddM X.K) := op_add.or (op_catM.or (op_tupM.or op_strM))
mutual
noncomputable def pyD : D → PyData
  | .non => .none
  | .bl b => .bool b
  | .int i => .int i
  | .str x => .str x
  | .lst l => .list (pyDs l)
  | .tup l => .tuple (pyDs l)
  | _ => .none
noncomputable def pyDs : List D → List PyData
  | [] => []
  | d :: l => pyD d :: pyDs l
end
mutual
theorem ok_can : ∀ (n : Nat) (d : D), okD n d = true → (pyD d).canLay0 = true ∧ (pyD d).depth ≤ n
  | _, .non, _ => by simp [pyD, PyData.canLay0, PyData.depth]
  | _, .bl _, _ => by simp [pyD, PyData.canLay0, PyData.depth]
  | _, .int _, _ => by simp [pyD, PyData.canLay0, PyData.depth]
  | n, .str x, h => by
    have h' : PyData.strOk x = true := by cases n <;> simpa [okD] using h
    simp [pyD, PyData.canLay0, PyData.depth, h']
  | 0, .lst l, h => by simp [okD] at h
  | n + 1, .lst l, h => by
    obtain ⟨a, b⟩ := oks_can n l (by simpa [okD] using h)
    simp only [pyD, PyData.canLay0, PyData.depth]
    exact ⟨a, by lia⟩
  | 0, .tup l, h => by simp [okD] at h
  | n + 1, .tup l, h => by
    obtain ⟨a, b⟩ := oks_can n l (by simpa [okD] using h)
    simp only [pyD, PyData.canLay0, PyData.depth]
    exact ⟨a, by lia⟩
  | n, .ty _, h => by cases n <;> simp [okD] at h
  | n, .scr _, h => by cases n <;> simp [okD] at h
  | n, .ins _ _ _, h => by cases n <;> simp [okD] at h
theorem oks_can : ∀ (n : Nat) (l : List D), okDs n l = true → PyData.canLayAll0 (pyDs l) = true ∧ PyData.depthAll (pyDs l) ≤ n
  | _, [], _ => by simp [pyDs, PyData.canLayAll0, PyData.depthAll]
  | n, d :: l, h => by
    rw [okDs, Bool.and_eq_true] at h
    obtain ⟨a, b⟩ := ok_can n d h.1
    obtain ⟨c, e⟩ := oks_can n l h.2
    simp only [pyDs, PyData.canLayAll0, PyData.depthAll, a, c]
    exact ⟨rfl, by lia⟩
end
mutual
theorem eqv_is : ∀ (n m : Nat) (d e : D), okD n d = true → okD m e = true → PyData.eqv (pyD d) (pyD e) = eqD d e
  | n, m, .non, e, _, he => by cases e <;> first | (simp [pyD, PyData.eqv, eqD]; done) | (cases m <;> simp [okD] at he)
  | n, m, .bl _, e, _, he => by cases e <;> first | (simp [pyD, PyData.eqv, eqD]; done) | (cases m <;> simp [okD] at he)
  | n, m, .int _, e, _, he => by cases e <;> first | (simp [pyD, PyData.eqv, eqD]; done) | (cases m <;> simp [okD] at he)
  | n, m, .str _, e, _, he => by cases e <;> first | (simp [pyD, PyData.eqv, eqD]; done) | (cases m <;> simp [okD] at he)
  | 0, m, .lst _, e, hd, he => by simp [okD] at hd
  | n + 1, m, .lst l, e, hd, he => by
    cases e with
    | lst l' =>
      cases m with
      | zero => simp [okD] at he
      | succ m =>
        simp only [pyD, PyData.eqv, eqD]
        exact eqvs_is n m l l' (by simpa [okD] using hd) (by simpa [okD] using he)
    | _ => first | (simp [pyD, PyData.eqv, eqD]; done) | (cases m <;> simp [okD] at he)
  | 0, m, .tup _, e, hd, he => by simp [okD] at hd
  | n + 1, m, .tup l, e, hd, he => by
    cases e with
    | tup l' =>
      cases m with
      | zero => simp [okD] at he
      | succ m =>
        simp only [pyD, PyData.eqv, eqD]
        exact eqvs_is n m l l' (by simpa [okD] using hd) (by simpa [okD] using he)
    | _ => first | (simp [pyD, PyData.eqv, eqD]; done) | (cases m <;> simp [okD] at he)
  | n, _, .ty _, _, h, _ => by cases n <;> simp [okD] at h
  | n, _, .scr _, _, h, _ => by cases n <;> simp [okD] at h
  | n, _, .ins _ _ _, _, h, _ => by cases n <;> simp [okD] at h
theorem eqvs_is : ∀ (n m : Nat) (l l' : List D), okDs n l = true → okDs m l' = true → PyData.eqvAll (pyDs l) (pyDs l') = eqDs l l'
  | _, _, [], [], _, _ => by simp [pyDs, PyData.eqvAll, eqDs]
  | _, _, [], _ :: _, _, _ => by simp [pyDs, PyData.eqvAll, eqDs]
  | _, _, _ :: _, [], _, _ => by simp [pyDs, PyData.eqvAll, eqDs]
  | n, m, d :: l, e :: l', hd, he => by
    rw [okDs, Bool.and_eq_true] at hd he
    rw [pyDs, pyDs, PyData.eqvAll, eqDs, eqv_is n m d e hd.1 he.1, eqvs_is n m l l' hd.2 he.2]
end
mutual
theorem den_reads {pins : List (Addr × Obj)} {σ : St} {H : Hp} {s : Shared} (I : Inv X pins σ H s) : ∀ (n : Nat) {d : D} {x : V} {v : Value}, okD n d = true → Den X.K H d x → RelV x v → ∃ as, Reads s.heap v (pyD d) as
  | _, .non, x, v, _, dx, r => by rw [den_non.mp dx] at r; cases r; exact ⟨_, .none⟩
  | _, .bl b, x, v, _, dx, r => by rw [den_bl.mp dx] at r; cases r; exact ⟨_, .bool b⟩
  | _, .int i, x, v, _, dx, r => by rw [den_int.mp dx] at r; obtain ⟨t, rfl⟩ := r; exact ⟨_, .int i t⟩
  | _, .str y, x, v, _, dx, r => by rw [den_str.mp dx] at r; obtain ⟨t, rfl⟩ := r; exact ⟨_, .str y t⟩
  | 0, .lst _, x, v, h, dx, r => by simp [okD] at h
  | n + 1, .lst l, x, v, h, dx, r => by
    obtain ⟨p, xs, rfl, hp, ds⟩ := den_lst.mp dx
    cases r
    obtain ⟨_, its, k, rv, _, e⟩ := I.rdl hp
    obtain ⟨as, ra⟩ := dens_reads I n (by simpa [okD] using h) ds rv
    exact ⟨_, .list e rfl rfl (by simpa using ra)⟩
  | 0, .tup _, x, v, h, dx, r => by simp [okD] at h
  | n + 1, .tup l, x, v, h, dx, r => by
    obtain ⟨p, xs, rfl, hp, ds⟩ := den_tup.mp dx
    cases r
    obtain ⟨its, rv, ⟨o, e, c, k, d⟩, _⟩ := I.tuple hp
    obtain ⟨as, ra⟩ := dens_reads I n (by simpa [okD] using h) ds rv
    exact ⟨_, .tuple e c d (by simpa using ra)⟩
  | n, .ty _, _, _, h, _, _ => by cases n <;> simp [okD] at h
  | n, .scr _, _, _, h, _, _ => by cases n <;> simp [okD] at h
  | n, .ins _ _ _, _, _, h, _, _ => by cases n <;> simp [okD] at h
theorem dens_reads {pins : List (Addr × Obj)} {σ : St} {H : Hp} {s : Shared} (I : Inv X pins σ H s) : ∀ (n : Nat) {ds : List D} {xs : List V} {vs : List Value}, okDs n ds = true → Dens X.K H ds xs → Vals xs vs → ∃ as, ReadsAll s.heap vs (pyDs ds) as
  | _, [], xs, vs, _, d, r => by
    rw [d.nil_of] at r
    cases r
    exact ⟨_, .nil⟩
  | n, d :: ds, xs, vs, h, dd, r => by
    rw [okDs, Bool.and_eq_true] at h
    obtain ⟨y, ys, rfl, a, b⟩ := dd.cons_of
    cases r with
    | cons r rr =>
      obtain ⟨as, ra⟩ := den_reads I n h.1 a r
      obtain ⟨bs, rb⟩ := dens_reads I n h.2 b rr
      exact ⟨_, .cons ra rb⟩
end
theorem op_eqM (hu : X.A.units + 64 < cLine) : OpR X (compareOp .Eq) (rEqM X.K false) := by
  intro pins s σ H x y v u Q I rx ry h
  obtain ⟨S, d, e, sm, dx, dy, cd, ce, q⟩ := h
  obtain ⟨as, ra⟩ := den_reads I 50 cd (denP_H sm dx) rx
  obtain ⟨bs, rb⟩ := den_reads I 50 ce (denP_H sm dy) ry
  obtain ⟨a1, a2⟩ := ok_can 50 d cd
  obtain ⟨b1, b2⟩ := ok_can 50 e ce
  have hm := Nat.min_le_left (pyD d).depth (pyD e).depth
  refine SeqAt.compareEq_reads ra rb a1 b1 (by lia) ⟨.bl _, H, I, rfl, ?_⟩
  rw [eqv_is 50 50 d e cd ce]
  exact q
theorem op_neM (hu : X.A.units + 64 < cLine) : OpR X (compareOp .NotEq) (rEqM X.K true) := by
  intro pins s σ H x y v u Q I rx ry h
  obtain ⟨S, d, e, sm, dx, dy, cd, ce, q⟩ := h
  obtain ⟨as, ra⟩ := den_reads I 50 cd (denP_H sm dx) rx
  obtain ⟨bs, rb⟩ := den_reads I 50 ce (denP_H sm dy) ry
  obtain ⟨a1, a2⟩ := ok_can 50 d cd
  obtain ⟨b1, b2⟩ := ok_can 50 e ce
  have hm := Nat.min_le_left (pyD d).depth (pyD e).depth
  refine SeqAt.compareNe_reads ra rb a1 b1 (by lia) ⟨.bl _, H, I, rfl, ?_⟩
  rw [eqv_is 50 50 d e cd ce]
  exact q
theorem mt_extM : MtM X "list.extend" rExtM := by
  intro pins s σ H x vs v us Q I rx rv h
  obtain ⟨l, b, xs, zs, rfl, rfl, hH, hB, hz, q⟩ := h
  cases rx
  obtain ⟨u, rfl, ru⟩ := rv.one
  cases ru
  obtain ⟨z, its, n, r, hl, e⟩ := I.lstM hH
  obtain ⟨z2, its2, n2, r2, hl2, e2⟩ := I.rdl hB
  have hsz : its.toArray.size + its2.toArray.size ≤ sizeLine := by rw [List.size_toArray, List.size_toArray]; lia
  have hlong : ¬ (!its.toArray.isEmpty && Builtin.List.listTooLong (its.toArray.size + its2.toArray.size)) = true := by
    rw [notLongL hsz, Bool.and_false]
    exact Bool.false_ne_true
  refine call_meets F.slot_list_extend ⟨_, e, rfl⟩ F.entry_list_extend (F.args_list_extend_2 _ _)
    (AutoSeq1.list_extend_list_list_0 l its.toArray n b its2.toArray n2 hlong (by rw [List.size_toArray]; lia) (by lia)) ⟨e, e2, ?_⟩
  refine ⟨.non, _, I.lset (its' := its ++ its2) hH e (by simp) (r.append r2) ?_, rfl, q⟩
  rw [List.length_append]
  lia
theorem sl_M : SlR X (rSlM X.K) := by
  refine SlR.or sl_list ?_
  intro pins s σ H x v vl vu lo hi sl Q I rx hs pl pu h
  obtain ⟨a, xs, rfl, hx, q1, q2⟩ := h
  cases rx
  by_cases hw : HT.sIx xs.length 0 lo = 0 ∧ HT.sIx xs.length xs.length hi = xs.length
  · obtain ⟨its, r, ht, hz⟩ := I.tuple hx
    have hlen : its.toArray.size = xs.length := by rw [List.size_toArray]; exact r.length.symm
    have hcut : cutV xs lo hi = xs := by
      unfold cutV
      rw [hw.1, hw.2, List.drop_zero, Nat.sub_zero, List.take_of_length_le (Nat.le_refl _)]
    refine ⟨"tuple", _, PyProof.Rows.slot_tuple_getitem.lookup, ht.typeIs, ?_⟩
    exact HT.getItem_tuple_whole ht hs pl pu (by rw [hlen]; exact hw) ⟨.ref a, H, I, rfl, q1 hcut⟩
  · exact sl_tup pins s σ H (.ref a) (.ref a) vl vu lo hi sl Q I rfl hs pl pu ⟨a, xs, rfl, hx, hw, q2⟩
theorem call_sortM : CallR X (.builtin "sorted") (rSortM X.K) := by
  intro pins s σ H xs us Q I r h
  obtain ⟨p, yks, rfl, hS, h64, hk, k⟩ := h
  obtain ⟨u, rfl, ru⟩ := r.one
  cases ru
  obtain ⟨its, rv, pl, hz⟩ := I.list hS
  have hl : yks.length = its.length := by rw [← rv.length, List.length_map]
  have atI : ∀ i, i < its.length → ∃ yk, yks[i]? = some yk ∧ yks.getD i (.non, []) = yk ∧ RelV yk.1 (its.getD i Value.none) := fun i hi => by
    have ey : yks[i]? = some yks[i] := List.getElem?_eq_getElem (by lia)
    have ex : (yks.map (·.1))[i]? = some yks[i].1 := by rw [List.getElem?_map, ey]; rfl
    obtain ⟨v, ev, rl⟩ := rv.get ex
    exact ⟨_, ey, by rw [List.getD_eq_getElem?_getD, ey]; rfl, by rw [List.getD_eq_getElem?_getD, ev]; exact rl⟩
  have tup : ∀ i, i < its.length → Srt.TupI s.heap (its.getD i Value.none) (yks.getD i (.non, [])).2 ∧ (yks.getD i (.non, [])).2 ≠ [] := fun i hi => by
    obtain ⟨yk, e1, e2, rl⟩ := atI i hi
    obtain ⟨q, e3, e4, e5⟩ := hk _ (List.mem_of_getElem? e1)
    rw [e2]
    refine ⟨?_, e5⟩
    rw [e3] at rl
    have rl' : its.getD i Value.none = Value.ref q := rl
    obtain ⟨js, rj, ⟨o, ho, hc, n, hd⟩, _⟩ := I.tuple e4
    refine ⟨q, o, js.toArray, n, rl', ho, hc, hd, ?_⟩
    simpa using intsAre_of rj
  refine Srt.sorted_by (Srt.lexI_ord fun i => (yks.getD i (.non, [])).2) pl.isList (by lia) (Srt.known_tups tup) fun q hq ha => ?_
  obtain ⟨pv, pw⟩ := Srt.out_ok (vs := its) (d := Value.none) hq ha
  rw [← hl] at hq ha
  obtain ⟨py, wy⟩ := Srt.out_ok (vs := yks) (d := ((V.non, []) : V × List Int)) hq ha
  obtain ⟨e, at1⟩ := sortedAll_at s.heap its (Srt.outOf its q)
  have hv : Vals ((q.toList.map fun i => yks.getD i (.non, [])).map (·.1)) (q.toList.map fun i => its.getD i Value.none) := by
    have hb : ∀ i ∈ q.toList, i < its.length := fun i hi => by
      have : i < yks.length := by simpa using (Array.perm_iff_toList_perm.mp hq).mem_iff.mp hi
      lia
    revert hb
    generalize q.toList = L
    induction L with
    | nil => exact fun _ => .nil
    | cons i L ih =>
      intro hb
      refine .cons ?_ (ih fun j hj => hb j (List.mem_cons_of_mem _ hj))
      obtain ⟨yk, _, e2, rl⟩ := atI i (hb i List.mem_cons_self)
      dsimp only
      rw [e2]
      exact rl
  have fresh : s.heap.objs.size ≤ s.heap.objs.size + 1 := Nat.le_succ _
  refine ⟨.ref (s.heap.objs.size + 1), upd H (s.heap.objs.size + 1) (.lst ((q.toList.map fun i => yks.getD i (.non, [])).map (·.1))), I.laid (t' := s.toks) (fun b o hb => sortedAll_old hb) fresh ?_, rfl, ?_⟩
  · refine ⟨by rw [List.length_map, py.length_eq, sizeLine_eq]; lia, _, e, hv, at1⟩
  · refine k _ _ py (wy _ fun i j _ _ h => ?_) (I.hok.fresh fresh)
    rw [← lex_same]
    exact h
theorem call_sortedM : CallR X (.builtin "sorted") (rSortedM X.K) := call_sortedI.or call_sortM
end
end L2
namespace M
noncomputable def dStep (a : List Int) (k : Int) : List Int := if a.any (· == k) then a else a ++ [k]
noncomputable def dist (ns : List Int) : List Int := ns.foldl dStep []
end M
namespace L2
open PySem
section
variable {X : Cx}
end
end L2
namespace M
open PySem L2
section
variable {K : PySem.W.Frag}
noncomputable def tG (K : PySem.W.Frag) (d : D) : TE := fun _ H Q => ∀ v, (∀ S, Den K S d v) → Q v H
theorem s_g {d : D} : SE K (tG K d) (xC d) := fun ρ σ S H Q e r x k v hv => by
  cases x
  exact k v S H (Ext.refl r.sub) (hv S)
end
end M
namespace L2
open PySem M
theorem pe_globD {X : _} {x : Str} {v : V} {u : Value} {pos : Pos} {K : PySem.W.Frag} {d : D} (hg : Gl X x) (hm : X.mg x = some u) (r : RelV v u) (hD : ∀ S, Den K S d v) (hd : (x == ("__debug__" : Str)) = false := by decide) : PE X (.Name x pos) (tG K d) :=
  fun a b c H Q I h => pe_glob hg hm r hd a b c H Q I (h v hD)
end L2
namespace M
open PySem L2
theorem den_modT {K : PySem.W.Frag} {a : Addr} {o : Obj} {its : Array Value} {n : Nat} {xs : List V} {l : List D} (h : K.lookup a = some o) (hc : o.cls = .type "tuple") (hd : o.data = .seq its n) (hs : its.size ≤ sizeLine) (hv : Vals xs its.toList) (hD : ∀ S, Dens K S l xs) (S : Hp) : Den K S (.tup l) (.ref a) :=
  den_tup.mpr ⟨a, xs, rfl, .inr ⟨o, its, n, h, hc, hd, hs, hv⟩, hD S⟩
end M
namespace M
open PySem L2
@[simp] noncomputable def xLenSet (a : XE) : XE := fun ρ => (a ρ).bind fun d => match d with | .lst l => (intsOf l).bind fun ns => if ns.length < 4000 then some (.int ((dist ns).length : Nat)) else none | _ => none
end M
namespace L2
open PySem
noncomputable def ClsN (K : PySem.W.Frag) (Ns : List Str) (P : Addr → Prop) : Prop := ∀ N ∈ Ns, ∀ C, PySem.W.nsIn K mainGlobals N = some (some (.ref C)) → P C
noncomputable def InsN (K : PySem.W.Frag) (Ns : List Str) (H : Hp) (x : V) (a : Addr) (C dx : Addr) (fs : List (Str × V)) : Prop := x = .ref a ∧ (∃ N ∈ Ns, PySem.W.nsIn K mainGlobals N = some (some (.ref C))) ∧ H a = some (.ins C dx fs)
noncomputable def tFldN (K : PySem.W.Frag) (Ns : List Str) (ta : TE) (f : Str) : TE := fun σ H Q => ta σ H fun x H1 => ∃ a C dx fs v, InsN K Ns H1 x a C dx fs ∧ fs.lookup f = some v ∧ Q v H1
noncomputable def tMethN (K : PySem.W.Frag) (Ns : List Str) (m : Str) (sp : Sp) (ta : TE) (t : TA) : TE := fun σ H Q => ta σ H fun x H1 => ∃ a C dx fs, InsN K Ns H1 x a C dx fs ∧ fs.lookup m = none ∧ t σ H1 fun vs H2 => sp (x :: vs) H2 Q E0
noncomputable def tMakeN (K : PySem.W.Frag) (N : Str) (sp : Sp) (t : TA) : TE := fun σ H Q => ∀ C, PySem.W.nsIn K mainGlobals N = some (some (.ref C)) → tMake C sp [] E0 t σ H Q
section
variable {X : Cx} {o e : Expr} {es : List Expr} {f m : Str} {pos apos p : Pos} {ta : TE} {t : TA} {Ns : List Str} {k : Nat} {g C : Addr} {fd : FuncData} {ps : List Str} {sp : Sp}
theorem pe_fldN (hc : ClsN X.K Ns fun C => Cls X.K C ∧ NoAttr X.K C f) (he : PE X e ta) (hb : attributeBase e f X.env (eval e X.env) = eval e X.env) : PE X (.Attribute e f pos) (tFldN X.K Ns ta f) := by
  intro pins s σ H Q I h
  refine attr_of hb (thn (he pins s σ H _ I h) fun u s1 hpt9 => ?_)
  obtain ⟨x, H1, I1, rx, a, C, dx, fs, v, ⟨ex, ⟨N, hN, hC⟩, ea⟩, l, q⟩ := hpt9
  subst ex
  have eu : u = Value.ref a := rx
  subst eu
  obtain ⟨c, n⟩ := hc N hN C hC
  exact getattr_ok I1 ea c n l fun u' s2 I2 ru => ⟨v, H1, I2, ru, q⟩
theorem pe_methN {pl : Sem Bool} (hc : ClsN X.K Ns fun C => Cls X.K C ∧ Meth X.K C m g) (F : FnOk X.prog X.w X.K X.mg X.base CX0 k g fd ps sp) (hr : Room k X.A) (hb : Binds X.K fd ps []) (hx : Passes CX0 X E0) (he : PE X o ta) (ha : PA X (e :: es) t)
    (hst : starEach (e :: es) X.env = (false, eval e X.env) :: starEach es X.env := by rfl) (hpl : (backTo pos (starEach es X.env)).any (·.1) = false := by rfl)
    (ht : eval (.Call (.Attribute o m apos) (e :: es) [] pos) X.env = (do
      let ov ← eval o X.env
      standAt apos.atName
      let (f, first) ← holding [ov] (getMethod ov m pl)
      callWith pos f first (backTo pos (starEach (e :: es) X.env)) (backToKw pos (keywordEach [] X.env))) := by rfl) :
    PE X (.Call (.Attribute o m apos) (e :: es) [] pos) (tMethN X.K Ns m sp ta t) := by
  intro pins s σ H Q I h
  refine PySem.W.methodCall_KW (pl := pl) (thn (he pins s σ H _ I h) fun u s1 hpt9 => ?_) ht
  obtain ⟨x, H1, I1, rx, a, C, dx, fs, ⟨ex, ⟨N, hN, hC⟩, ea⟩, l, q⟩ := hpt9
  subst ex
  have eu : u = Value.ref a := rx
  subst eu
  obtain ⟨c, hm⟩ := hc N hN C hC
  refine getmeth_ok I1 ea c hm l ?_
  refine PySem.W.callWith_K (first := [.ref a]) (h₀ := X.base) I.ok.mod.kin hm.kp (thn (ha pos pins s1 σ H1 _ I1 q) fun us s2 ⟨vs, H2, I2, r, q2⟩ => ⟨I2.kIn, ?_⟩) hst hpl
  exact run_fn (us := .ref a :: us) (vs := .ref a :: vs) (dvs := []) F hr hb .nil hx I2 (.cons rfl r) (by rw [List.append_nil]; exact q2)
theorem pe_methN0 {pl : Sem Bool} (hc : ClsN X.K Ns fun C => Cls X.K C ∧ Meth X.K C m g) (F : FnOk X.prog X.w X.K X.mg X.base CX0 k g fd ps sp) (hr : Room k X.A) (hb : Binds X.K fd ps []) (hx : Passes CX0 X E0) (he : PE X o ta)
    (ht : eval (.Call (.Attribute o m apos) [] [] pos) X.env = (do
      let ov ← eval o X.env
      standAt apos.atName
      let (f, first) ← holding [ov] (getMethod ov m pl)
      callWith pos f first (backTo pos (starEach [] X.env)) (backToKw pos (keywordEach [] X.env))) := by rfl) :
    PE X (.Call (.Attribute o m apos) [] [] pos) (tMethN X.K Ns m sp ta tNil) := by
  intro pins s σ H Q I h
  refine PySem.W.methodCall_KW (pl := pl) (thn (he pins s σ H _ I h) fun u s1 hpt9 => ?_) ht
  obtain ⟨x, H1, I1, rx, a, C, dx, fs, ⟨ex, ⟨N, hN, hC⟩, ea⟩, l, q⟩ := hpt9
  subst ex
  have eu : u = Value.ref a := rx
  subst eu
  obtain ⟨c, hm⟩ := hc N hN C hC
  refine getmeth_ok I1 ea c hm l ?_
  exact PySem.W.callWith_K0 (first := [.ref a]) I1.kIn hm.kp (run_fn (us := [.ref a]) (vs := [.ref a]) (dvs := []) F hr hb .nil hx I1 (.cons rfl .nil) q)
structure ClsFn (K : PySem.W.Frag) (C : Addr) (m : Str) (f : Addr) : Prop where
  sp : PySem.W.specialIn K (.ref C) "__getattribute__" = some (some (.builtin "type.__getattribute__"))
  rd : PySem.W.readsIn K C (.type "type") = true
  fn : PySem.W.findCls K (.ref C) (.type "type") m = some (.val (.ref f))
  kp : PySem.W.keepIn K (.ref f) = true
theorem pe_clsCall {pl : Sem Bool} {B : Str} (cf : ClsFn X.K C m g) (gB : Gl X B) (hm : X.mg B = some (.ref C)) (F : FnOk X.prog X.w X.K X.mg X.base CX0 k g fd ps sp) (hr : Room k X.A) (hb : Binds X.K fd ps []) (hx : Passes CX0 X E0) (ha : PA X (e :: es) t) (hdb : (B == ("__debug__" : Str)) = false := by decide)
    (hst : starEach (e :: es) X.env = (false, eval e X.env) :: starEach es X.env := by rfl) (hpl : (backTo pos (starEach es X.env)).any (·.1) = false := by rfl)
    (ht : eval (.Call (.Attribute (.Name B p) m apos) (e :: es) [] pos) X.env = (do
      let ov ← eval (.Name B p) X.env
      standAt apos.atName
      let (f, first) ← holding [ov] (getMethod ov m pl)
      callWith pos f first (backTo pos (starEach (e :: es) X.env)) (backToKw pos (keywordEach [] X.env))) := by rfl) :
    PE X (.Call (.Attribute (.Name B p) m apos) (e :: es) [] pos) (tCall sp [] E0 t) := by
  intro pins s σ H Q I h
  refine PySem.W.methodCall_KW (pl := pl) (thn (pe_glob (v := .ref C) gB hm rfl hdb pins s σ H (fun x H1 => x = .ref C ∧ H1 = H) I ⟨rfl, rfl⟩) fun u s1 hpt9 => ?_) ht
  obtain ⟨x, H1, I1, rx, ex, eH⟩ := hpt9
  subst ex
  subst eH
  have eu : u = Value.ref C := rx
  subst eu
  refine PySem.W.method_cls I1.kIn cf.sp (PySem.W.cls_value I1.kIn cf.rd cf.fn rfl ?_)
  refine PySem.W.callWith_K (first := []) (h₀ := X.base) I.ok.mod.kin cf.kp (thn (ha pos pins _ σ H1 _ (I1.tok _) h) fun us s2 ⟨vs, H2, I2, r, q2⟩ => ⟨I2.kIn, ?_⟩) hst hpl
  exact run_fn F hr hb .nil hx I2 r q2
theorem pe_makeN {N : Str} (hN : PySem.W.nsIn X.K mainGlobals N = some (some (.ref C))) (M : Mk X.K C g) (F : FnOk X.prog X.w X.K X.mg X.base CX0 k g fd ps sp) (hr : Room (k + 1) X.A) (hg : Gl X N) (hm : X.mg N = some (.ref C)) (hb : Binds X.K fd ps []) (hx : Passes CX0 X E0)
    (ha : PA X (e :: es) t) (hdb : (N == ("__debug__" : Str)) = false := by decide) (he : starEach (e :: es) X.env = (false, eval e X.env) :: starEach es X.env := by rfl) (hpl : (backTo pos (starEach es X.env)).any (·.1) = false := by rfl) :
    PE X (.Call (.Name N p) (e :: es) [] pos) (tMakeN X.K N sp t) := fun a b c d q I h => pe_make M F hr hg hm hb .nil hx ha hdb he hpl a b c d q I (h C hN)
end
end L2
namespace M
open PySem L2
section
variable {K : PySem.W.Frag} {S S' H H' : Hp}
noncomputable def fldD : List Str → List D → Str → Option D
  | n :: ns, d :: l, f => if f = n then some d else fldD ns l f
  | _, _, _ => none
theorem fld_of : ∀ {fs : List (Str × V)} {l : List D} {f : Str} {d : D}, Dens K S l (fs.map (·.2)) → fldD (fs.map (·.1)) l f = some d → ∃ v, fs.lookup f = some v ∧ Den K S d v
  | [], l, f, d, h, e => by
    cases l <;> simp [fldD] at e
  | (n, v) :: fs, l, f, d, h, e => by
    cases l with
    | nil => simp [fldD] at e
    | cons a l =>
      obtain ⟨y, ys, e1, h1, h2⟩ := h.cons_of
      rw [List.map_cons] at e1
      cases e1
      rw [List.map_cons, fldD] at e
      by_cases hf : f = n
      · rw [if_pos hf] at e
        cases e
        exact ⟨v, by simp [List.lookup, hf], h1⟩
      · rw [if_neg hf] at e
        obtain ⟨w, q1, q2⟩ := fld_of h2 e
        have hb : (f == n) = false := by simpa using hf
        exact ⟨w, by simp [List.lookup, hb, q1], q2⟩
theorem fld_no : ∀ {fs : List (Str × V)} {f : Str}, (fs.map (·.1)).contains f = false → fs.lookup f = none
  | [], _, _ => rfl
  | (n, v) :: fs, f, h => by
    simp at h
    have hb : (f == n) = false := by simpa using h.1
    rw [List.lookup, hb]
    exact fld_no (by simpa using h.2)
@[simp] noncomputable def xFld (Ns : List Str) (f : Str) (e : XE) : XE := fun ρ => (e ρ).bind fun d => match d with | .ins N ns l => if Ns.contains N then fldD ns l f else none | _ => none
theorem s_fld {Ns : List Str} {f : Str} {ta : TE} {e : XE} (h : SE K ta e) : SE K (tFldN K Ns ta f) (xFld Ns f e) := fun ρ σ S H Q d r x k => by
  unfold xFld at x
  cases q : e ρ with
  | none => rw [q] at x; cases x
  | some d0 =>
    rw [q] at x
    dsimp only [Option.bind] at x
    cases d0 <;> try (cases x; done)
    rename_i N ns l
    dsimp only at x
    split at x
    · rename_i hc
      refine h ρ σ S H _ _ r q fun v S1 H1 z1 d1 => ?_
      obtain ⟨p, C, dx, fs, rfl, hC, h1, h2, h3⟩ := den_ins.mp d1
      subst h2
      obtain ⟨w, w1, w2⟩ := fld_of h3 x
      exact ⟨p, C, dx, fs, w, ⟨rfl, ⟨N, by simpa using hc, hC⟩, z1.sub _ _ h1⟩, w1, k w S1 H1 z1 w2⟩
    · cases x
@[simp] noncomputable def xMeth (Ns : List Str) (m : Str) (g : List D → Option D) (e : XE) (a : XA) : XE := fun ρ => (e ρ).bind fun d => match d with | .ins N ns l => if Ns.contains N && !ns.contains m then (a ρ).bind fun ds => g (.ins N ns l :: ds) else none | _ => none
theorem s_meth {Ns : List Str} {m : Str} {n : Nat} {g : List D → Option O} {ta : TE} {t : TA} {e : XE} {a : XA} (h : SE K ta e) (ha : SA K t a) (hn : ∀ ρ ds, a ρ = some ds → ds.length = n) : SE K (tMethN K Ns m (spOf K (n + 1) g) ta t) (xMeth Ns m (fun ds => (g ds).map O.d) e a) := fun ρ σ S H Q d r x k => by
  unfold xMeth at x
  cases q : e ρ with
  | none => rw [q] at x; cases x
  | some d0 =>
    rw [q] at x
    dsimp only [Option.bind] at x
    cases d0 <;> try (cases x; done)
    rename_i N ns l
    dsimp only at x
    split at x
    · rename_i hc
      rw [Bool.and_eq_true] at hc
      cases qa : a ρ with
      | none => rw [qa] at x; cases x
      | some ds =>
        rw [qa] at x
        dsimp only at x
        cases qg : g (.ins N ns l :: ds) with
        | none => rw [qg] at x; cases x
        | some o =>
          rw [qg] at x
          cases x
          refine h ρ σ S H _ _ r q fun v S1 H1 z1 d1 => ?_
          obtain ⟨p, C, dx, fs, rfl, hC, h1, h2, h3⟩ := den_ins.mp d1
          refine ⟨p, C, dx, fs, ⟨rfl, ⟨N, by simpa using hc.1, hC⟩, z1.sub _ _ h1⟩, fld_no (by rw [h2]; simpa using hc.2), ?_⟩
          refine ha ρ σ S1 H1 _ ds (r.ext z1) qa fun vs S2 H2 z2 d2 => ?_
          have dd : Dens K S2 (.ins N ns l :: ds) (.ref p :: vs) := .cons (d1.mono z2.sh) d2
          refine ⟨by rw [List.length_cons, ← d2.length, hn ρ ds qa], S2, _, o, z2.sub, dd, qg, fun v fp S3 H3 z3 ow nd fr => ?_⟩
          exact k v _ H3 ((z1.trans z2).trans (frzS_ext z3 fr)) (ow.den (frzS_same fun b hb => (fr b hb).2) fun b hb => frzS_in hb)
    · cases x
noncomputable def spIni (K : PySem.W.Frag) (Ns : List Str) (f : Str) (n : Nat) (mi : List D → Option D) : Sp := fun vs H Q _ => vs.length = n + 1 ∧ ∃ x rest C dx S ds d, vs = .ref x :: rest ∧ H x = some (.ins C dx []) ∧ (∃ N ∈ Ns, PySem.W.nsIn K mainGlobals N = some (some (.ref C))) ∧ S x = none ∧ Same S H ∧ Dens K S ds rest ∧ mi ds = some d ∧
  ∀ S' H' v, Ext S H S' H' → Den K S' d v → Q .non (upd H' x (.ins C dx [(f, v)]))
noncomputable def ini1 : List D → Option D
  | [d] => some d
  | _ => none
theorem ini_base {Ns : List Str} {f : Str} {vs : List V} {H : Hp} {Q : VK} {E : XK} (hc : ClsN K Ns fun C => Cls K C ∧ NoAttr K C f) {N : List Str} (h : spIni K Ns f 1 ini1 vs H Q E) : sFld K (tVar 0) (tVar 1) f { nx := fun _ H' => Q .non H', rt := Q } (L2.start N vs) H := by
  obtain ⟨_, x, rest, C, dx, S, ds, d, rfl, hx, ⟨M, hM, hC⟩, nS, sub, dd, e, k⟩ := h
  match ds, e with
  | [d'], e =>
    cases e
    obtain ⟨v, ys, rfl, dv, dn⟩ := dd.cons_of
    cases dn.nil_of
    obtain ⟨c, n⟩ := hc M hM C hC
    exact ⟨v, rfl, .ref x, rfl, x, C, dx, [], rfl, hx, c, n, by decide, k S H v (Ext.refl sub) dv⟩
theorem rl_self {x : Addr} {ds : List D} {vs : List V} (s : Same S H) (h : Dens K S ds vs) : Rl K (.lo :: ds.map .sh) (some (.ref x) :: vs.map some) S H := by
  have hl := h.length
  refine ⟨fun _ => none, fun i => if i = 0 then some x else none, fun _ => [], ?_⟩
  have ge : ∀ (i : Nat) t, (Sl.lo :: ds.map Sl.sh)[i]? = some t → (i = 0 ∧ t = .lo) ∨ ∃ d v, t = .sh d ∧ (some (V.ref x) :: vs.map some)[i]? = some (some v) ∧ Den K S d v := fun i t ht => by
    cases i with
    | zero => cases ht; exact .inl ⟨rfl, rfl⟩
    | succ i =>
      rw [List.getElem?_cons_succ, List.getElem?_map] at ht
      cases q : ds[i]? with
      | none => rw [q] at ht; cases ht
      | some d =>
        rw [q] at ht
        cases ht
        obtain ⟨v, e1, e2⟩ := h.get q
        refine .inr ⟨d, v, rfl, ?_, e2⟩
        rw [List.getElem?_cons_succ, List.getElem?_map, e1]
        rfl
  exact {
    len := by rw [List.length_cons, List.length_cons, List.length_map, List.length_map, hl]
    sub := s
    sh := fun i d hi => by
      rcases ge i _ hi with ⟨_, e⟩ | ⟨d', v, e, h1, h2⟩
      · cases e
      · cases e; exact ⟨v, h1, h2⟩
    ow := fun i o hi => by
      rcases ge i _ hi with ⟨_, e⟩ | ⟨d', v, e, h1, h2⟩
      · cases e
      · cases e
    dj := fun i j o o' _ hi _ => by
      rcases ge i _ hi with ⟨_, e⟩ | ⟨d', v, e, h1, h2⟩
      · cases e
      · cases e
    lo := fun i hi => by
      rcases ge i _ hi with ⟨rfl, e⟩ | ⟨d', v, e, h1, h2⟩
      · exact ⟨x, rfl, rfl⟩
      · cases e
    asub := fun b o e => by cases e
    adis := fun b => .inr rfl }
noncomputable def iniT (xt : XT) (xe : XE) (ds : List D) : Option D := if xt (.lo :: ds.map .sh) = some false then xe (.lo :: ds.map .sh) else none
theorem ini_call {Ns : List Str} {f : Str} {te : TE} {xe : XE} {x : Addr} {rest : List V} {C dx : Addr} {ds : List D} {d : D} {S H : Hp} {Dd : _} {Q : VK} (he : SE K te xe) (sub : Same S H) (dd : Dens K S ds rest) (hx : H x = some (.ins C dx [])) (hc : ∃ N ∈ Ns, PySem.W.nsIn K mainGlobals N = some (some (.ref C))) (nS : S x = none)
    (e : xe (.lo :: ds.map .sh) = some d) (hD : Dd = ({ nx := fun _ H' => Q .non H', rt := Q } : _)) (k : ∀ S' H' v, Ext S H S' H' → Den K S' d v → Q .non (upd H' x (.ins C dx [(f, v)]))) :
    tDrop (tCall (spIni K Ns f 1 ini1) [] E0 (tCons (tVar 0) (tCons te tNil))) Dd (some (.ref x) :: rest.map some) H := by
  subst hD
  refine ⟨.ref x, rfl, he _ _ S H _ d (rl_self sub dd) e fun v S1 H1 z1 d1 => ?_⟩
  refine ⟨rfl, x, [v], C, dx, S1, [d], d, rfl, (z1.al x _ hx nS).1, hc, (z1.al x _ hx nS).2, z1.sub, .cons d1 .nil, rfl, fun S2 H2 w z2 d2 => k S2 H2 w (z1.trans z2) d2⟩
theorem ini_test {Ns : List Str} {f : Str} {n : Nat} {tt : TT} {xt : XT} {te : TE} {xe : XE} {N : List Str} {vs : List V} {H : Hp} {Q : VK} {E : XK} (ht : ST K tt xt) (he : SE K te xe) (hN : N.length = n + 1) (h : spIni K Ns f n (iniT xt xe) vs H Q E) :
    tSeq (tIfS tt tNever tNext) (tDrop (tCall (spIni K Ns f 1 ini1) [] E0 (tCons (tVar 0) (tCons te tNil)))) { nx := fun _ H' => Q .non H', rt := Q } (L2.start N vs) H := by
  obtain ⟨hl, x, rest, C, dx, S, ds, d, rfl, hx, hc, nS, sub, dd, e, k⟩ := h
  have es : L2.start N (.ref x :: rest) = some (.ref x) :: rest.map some := by
    unfold L2.start
    rw [hl, hN, Nat.sub_self]
    simp
  unfold iniT at e
  split at e
  · rename_i q
    rw [es]
    refine ht _ _ S H _ false (rl_self sub dd) q fun S1 H1 z1 => ?_
    rw [if_neg Bool.false_ne_true]
    exact ini_call he z1.sub (dd.mono z1.sh) (z1.al x _ hx nS).1 hc (z1.al x _ hx nS).2 e rfl fun S2 H2 w z2 d2 => k S2 H2 w (z1.trans z2) d2
  · cases e
@[simp] noncomputable def xMake (N f : Str) (mi : List D → Option D) (a : XA) : XE := fun ρ => ((a ρ).bind mi).map fun d => .ins N [f] [d]
theorem s_make {Ns : List Str} {N f : Str} {n : Nat} {mi : List D → Option D} {t : TA} {a : XA} (hN : N ∈ Ns) (h : SA K t a) (hn : ∀ ρ ds, a ρ = some ds → ds.length = n) : SE K (tMakeN K N (spIni K Ns f n mi) t) (xMake N f mi a) := fun ρ σ S H Q d r x k C hC => by
  unfold xMake at x
  cases q : a ρ with
  | none => rw [q] at x; cases x
  | some ds =>
    rw [q] at x
    dsimp only [Option.bind] at x
    cases q2 : mi ds with
    | none => rw [q2] at x; cases x
    | some d0 =>
      rw [q2] at x
      cases x
      refine h ρ σ S H _ ds r q fun vs S1 H1 z1 d1 => ?_
      intro x dx nx ndx nex
      have s0 : Same S1 (upd (upd H1 dx (.own x)) x (.ins C dx [])) := fun b o e => by
        have e' := z1.sub b o e
        rw [upd_ne (ne_of_none e' nx), upd_ne (ne_of_none e' ndx)]
        exact e'
      have nS : S1 x = none := z1.sub.free nx
      refine ⟨by rw [List.append_nil, List.length_cons, ← d1.length, hn ρ ds q], x, vs, C, dx, S1, ds, d0, by rw [List.append_nil], upd_same, ⟨N, hN, hC⟩, nS, s0, d1, q2, fun S2 H2 v z2 d2 => ⟨rfl, ?_⟩⟩
      have hx2 := z2.al x _ upd_same nS
      have z3 : Ext S1 H1 (upd S2 x (.ins C dx [(f, v)])) (upd H2 x (.ins C dx [(f, v)])) := {
        sh := fun b o e => by
          rw [upd_ne (ne_of_none (z1.sub b o e) nx)]
          exact z2.sh b o e
        sub := fun b o e => by
          by_cases hb : b = x
          · subst hb; rw [upd_same] at e ⊢; exact e
          · rw [upd_ne hb] at e ⊢; exact z2.sub b o e
        al := fun b o e ne => by
          have hb := ne_of_none e nx
          rw [upd_ne hb, upd_ne hb]
          exact z2.al b o (by rw [upd_ne hb, upd_ne (ne_of_none e ndx)]; exact e) ne }
      refine k (.ref x) _ _ (z1.trans z3) (den_ins.mpr ⟨x, C, dx, [(f, v)], rfl, hC, upd_same, rfl, ?_⟩)
      refine .cons (d2.mono fun b o e => ?_) .nil
      rw [upd_ne (ne_of_none e hx2.2)]
      exact e
end
end M
namespace M
noncomputable def minL : List Int → Int
  | [] => 0
  | [a] => a
  | a :: l => min a (minL l)
theorem minL_cons (a b : Int) (l : List Int) : minL (a :: b :: l) = min a (minL (b :: l)) := rfl
theorem minL_spec : ∀ (a : Int) (l : List Int), minL (a :: l) ∈ a :: l ∧ ∀ b ∈ a :: l, minL (a :: l) ≤ b
  | a, [] => ⟨List.mem_cons_self, fun b hb => by rw [List.mem_singleton] at hb; subst hb; exact Int.le_refl _⟩
  | a, c :: l => by
    obtain ⟨h1, h2⟩ := minL_spec c l
    rw [minL_cons]
    refine ⟨?_, fun b hb => ?_⟩
    · rcases Int.le_total a (minL (c :: l)) with h | h
      · rw [Int.min_eq_left h]; exact List.mem_cons_self
      · rw [Int.min_eq_right h]; exact List.mem_cons_of_mem _ h1
    · rcases List.mem_cons.mp hb with rfl | hb
      · exact Int.min_le_left _ _
      · exact Int.le_trans (Int.min_le_right _ _) (h2 b hb)
theorem minL_uniq {ns : List Int} {m : Int} (h1 : m ∈ ns) (h2 : ∀ a, a ∈ ns → m ≤ a) : minL ns = m := by
  cases ns with
  | nil => cases h1
  | cons a l =>
    obtain ⟨k1, k2⟩ := minL_spec a l
    exact Int.le_antisymm (k2 m h1) (h2 _ k1)
end M
namespace L2
open PySem PySem.Spec PyProof.Rows
section
variable {prog : Program} {w : World} {A : Around} {E : Value → Shared → Prop} {s : Shared}
theorem args_min4 (a b c d : Value) : argsOk "min" ⟨[a, b, c, d], []⟩ := by unfold argsOk; kernel_rfl
theorem min_walk4 {a b c d : Value} {Q : Value → Shared → Prop}
    (h : wpAny (model prog w) A.in1 (pyIter (.ref s.heap.objs.size)) (fun it s₂ => ∃ I fp wr n P St bt, it = .ref I ∧ Walks prog w A.in1 I fp wr n P St ∧ St 0 s₂.heap ∧ (∀ b ∈ fp, b < s₂.heap.objs.size) ∧ 0 < n ∧ CmpOf prog w A.in1 .Lt P bt ∧ ∀ v h' tk, P (argBest bt (n - 1)) v → (∀ b o, b ∉ wr → s₂.heap.get? b = some o → h'.get? b = some o) → Q v { s₂ with heap := h', toks := tk }) E { s with heap := s.heap.push { cls := .type "tuple", data := .seq #[a, b, c, d] } }) :
    wpAny (model prog w) A (call (.builtin "min") [a, b, c, d]) Q E s := by
  have hname : (toString "min" ++ toString ".loop" : String) = "min.loop" := by decide
  refine call_function_tree F.kind_min F.plain_min F.entry_min (args_min4 _ _ _ _) ?_; show wpAny _ A.in1 (Builtin.Builtins.bindParams "min" ["key", "default"] 0 ⟨[], []⟩ >>= _) _ _ s
  refine wpAny_bind (wpAny_of_eq (show Builtin.Builtins.bindParams "min" ["key", "default"] 0 ⟨[], []⟩ = pure [none, none] from rfl) ?_); show wpAny _ A.in1 (newTuple [a, b, c, d] >>= _) _ _ s
  refine wpAny_bind (wpAny_newObj_type ?_); refine wpAny_bind (wpAny_mono h (fun it s₂ h₂ => ?_) fun _ _ e => e); obtain ⟨I, fp, wr, n, P, St, bt, rfl, W, hst, hfp, hn, hcmp, hQ⟩ := h₂
  refine wpAny_bind (wpAny_newObj_type ?_); have hSf : s₂.heap.objs.size ∉ fp := fun hm => Nat.lt_irrefl _ (hfp _ hm)
  rw [hname]; refine wpAny_pure ⟨plainId_quiet F.plain_min_loop _, codeAny_min_loop_first W bt hcmp s₂.heap.objs.size hSf hn (W.frame _ _ _ hst fun b _ o e => Heap.get?_push_of_some _ e) (Heap.get?_push_size _ rfl) fun v h' tk hP hk => ?_⟩
  exact hQ v h' tk hP fun b o hbw e => hk b o hbw (Nat.ne_of_lt (Heap.lt_size e)) (Heap.get?_push_of_some _ e)
theorem min_of_four {a b c d : Int} {t u x y : Tok} {Q : Value → Shared → Prop} (hh : A.handled = none) (h : ∀ (h' : Heap) (z : Tok) (tk : Nat), (∀ b o, s.heap.get? b = some o → h'.get? b = some o) → Q (.int (M.minL [a, b, c, d]) z) { s with heap := h', toks := tk }) :
    wpAny (model prog w) A (call (.builtin "min") [.int a t, .int b u, .int c x, .int d y]) Q E s := by
  have hT : (s.heap.push { cls := .type "tuple", data := .seq #[.int a t, .int b u, .int c x, .int d y] }).IsTuple s.heap.objs.size (intItems #[(a, t), (b, u), (c, x), (d, y)]) := ⟨_, Heap.get?_push_size _ rfl, rfl, 0, by simp [intItems]⟩
  refine min_walk4 (wpAny_pyIter_tuple hT ?_); have hsz : (s.heap.push { cls := .type "tuple", data := .seq #[.int a t, .int b u, .int c x, .int d y] }).objs.size = s.heap.objs.size + 1 := Heap.size_push ..
  refine ⟨_, [_, s.heap.objs.size], [_], _, _, _, _, rfl, Walks.tuple (A := A.in1) hh _ s.heap.objs.size (by rw [hsz]; exact Nat.ne_of_lt (Nat.lt_succ_self _)) (intItems #[(a, t), (b, u), (c, x), (d, y)]), ⟨⟨_, Heap.get?_push_size _ rfl, rfl, rfl⟩, hT.push _⟩, fun e hd => ?_, by simp [intItems], CmpOf.ints_lt (numAt #[(a, t), (b, u), (c, x), (d, y)]) (fun _ _ => intItems_at), fun v h' tk hP hk => ?_⟩
  · show e < ((s.heap.push _).push _).objs.size
    rw [Heap.size_push, hsz]; rcases List.mem_cons.mp hd with rfl | hd
    · rw [hsz]; exact Nat.lt_succ_self _
    · rcases List.mem_cons.mp hd with rfl | hd
      · exact Nat.lt_succ_of_lt (Nat.lt_succ_self _)
      · cases hd
  · have hold : ∀ z o, s.heap.get? z = some o → h'.get? z = some o := fun z o e => by
      refine hk z o (fun hm => ?_) (Heap.get?_push_of_some _ (Heap.get?_push_of_some _ e)); rcases List.mem_cons.mp hm with e1 | hm
      · have := Heap.lt_size e; rw [e1, hsz] at this; exact Nat.lt_irrefl _ (Nat.lt_of_succ_lt this)
      · cases hm
    have hP' : (intItems #[(a, t), (b, u), (c, x), (d, y)])[argBest (fun i j => decide (numAt #[(a, t), (b, u), (c, x), (d, y)] i < numAt #[(a, t), (b, u), (c, x), (d, y)] j)) 3]? = some v := by
      have hsz2 : (intItems #[(a, t), (b, u), (c, x), (d, y)]).size - 1 = 3 := by simp [intItems]
      rw [← hsz2]; exact hP
    obtain ⟨z, rfl⟩ := intItems_at hP'; obtain ⟨h1, h2⟩ := argBest_lt (numAt #[(a, t), (b, u), (c, x), (d, y)]) 3
    have em : M.minL [a, b, c, d] = numAt #[(a, t), (b, u), (c, x), (d, y)] (argBest (fun i j => decide (numAt #[(a, t), (b, u), (c, x), (d, y)] i < numAt #[(a, t), (b, u), (c, x), (d, y)] j)) 3) := by
      have k0 := h2 0 (by lia); have k1 := h2 1 (by lia); have k2 := h2 2 (by lia); have k3 := h2 3 (by lia)
      generalize hg : argBest (fun i j => decide (numAt #[(a, t), (b, u), (c, x), (d, y)] i < numAt #[(a, t), (b, u), (c, x), (d, y)] j)) 3 = g at h1 k0 k1 k2 k3 ⊢
      refine M.minL_uniq ?_ fun e he => ?_
      · rcases (show g = 0 ∨ g = 1 ∨ g = 2 ∨ g = 3 by lia) with rfl | rfl | rfl | rfl <;> simp [numAt]
      · simp only [List.mem_cons, List.not_mem_nil, or_false] at he
        rcases he with rfl | rfl | rfl | rfl
        · exact k0
        · exact k1
        · exact k2
        · exact k3
    rw [← em]; exact h h' z tk hold
end
noncomputable def rMin4 : List V → Hp → VK → Prop := fun xs H Q => ∃ a b c d, xs = [.int a, .int b, .int c, .int d] ∧ Q (.int (M.minL [a, b, c, d])) H
section
variable {X : Cx}
theorem call_min4 (hc : X.calm = true) : CallR X (.builtin "min") rMin4 := by
  intro pins s σ H xs us Q I r h
  obtain ⟨a, b, c, d, rfl, q⟩ := h
  cases r with
  | cons r1 r => cases r with
    | cons r2 r => cases r with
      | cons r3 r => cases r with
        | cons r4 r =>
          cases r
          obtain ⟨t, rfl⟩ := r1
          obtain ⟨t2, rfl⟩ := r2
          obtain ⟨t3, rfl⟩ := r3
          obtain ⟨t4, rfl⟩ := r4
          exact min_of_four (I.ok.hd hc) fun h' t tk k => ⟨.int (M.minL [a, b, c, d]), H, I.kept k, ⟨t, rfl⟩, q⟩
end
end L2
namespace M
open PySem L2
noncomputable def bMinL : List D → Option D
  | [.lst l] => (intsOf l).bind fun ns => if 0 < ns.length then some (.int (minL ns)) else none
  | _ => none
noncomputable def bMin4 : List D → Option D
  | [.int a, .int b, .int c, .int d] => some (.int (minL [a, b, c, d]))
  | _ => none
section
variable {K : PySem.W.Frag}
theorem four_of {S H : Hp} {a b c d : D} {vs : List V} (h : DensP K S H [a, b, c, d] vs) : ∃ v w x y, vs = [v, w, x, y] ∧ DenP K S H a v ∧ DenP K S H b w ∧ DenP K S H c x ∧ DenP K S H d y := by
  cases h with
  | cons h1 h => cases h with
    | cons h2 h => cases h with
      | cons h3 h => cases h with
        | cons h4 h => cases h; exact ⟨_, _, _, _, rfl, h1, h2, h3, h4⟩
theorem b_min4 : SRB K rMin4 bMin4 := fun S H vs ds g Q s d q k => by
  unfold bMin4 at q
  split at q
  · rename_i a b c e
    cases q
    obtain ⟨v, w, x, y, rfl, d1, d2, d3, d4⟩ := four_of d
    exact ⟨a, b, c, e, by rw [d1.int, d2.int, d3.int, d4.int], k _ S H (Ext.refl s) (den_int.mpr rfl)⟩
  · cases q
end
end M
namespace L2
open PySem
theorem cmpok {XN : List Str} {sc scope : Scope} {N : List Str} {js : List (Option Nat)} (h1 : scope.kind = .function := by rfl) (h2 : ∀ y ∈ scope.names, y.2 ≠ .cell := by decide +kernel) (h3 : ∀ y ∈ scope.names, y.2 = .free → sc.names.lookup y.1 = some .cell ∨ sc.names.lookup y.1 = some .free := by decide +kernel)
    (h4 : ∀ y ∈ scope.names, y.2 = .local → scope.names.lookup y.1 = some .local := by decide +kernel) (h5 : js.length = N.length := by rfl) (h6 : ((N.zip js).all fun p => match p.2 with | none => true | some j => decide (XN[j]? = some p.1) && decide (scope.names.lookup p.1 = some .free)) = true := by decide +kernel) : CmpOk XN sc scope N js := ⟨h1, h2, h3, h4, h5, h6⟩
end L2
namespace M
open PySem L2
@[simp] noncomputable def xCallD (m : List D → Option D) (e : D) (a : XA) : XE := fun ρ => (a ρ).bind fun ds => m (ds ++ [e])
section
variable {K : PySem.W.Frag}
end
end M
namespace L2
open PySem
structure FunD (K : PySem.W.Frag) (x qual : Str) (st : Stmt) (T : Addr) (f : Addr) (fd : FuncData) : Prop where
  ex : ∃ (oc : Value) (od : Option Addr) (kV doc pm : Value) (an : Option Addr) (cdv ct : Value) (osl : Array (Option Value)), fd = PySem.W.fnOf x qual (defArgs st) (defBody st) (defScope st) (.ref T) kV doc pm an cdv ct ∧ K.lookup f = some ⟨oc, od, .func fd, osl⟩ ∧ PySem.W.codeIn K cdv qual = true
section
variable {P : Program} {w : World} {K : PySem.W.Frag} {mg : Str → Option Value} {base : Heap}
theorem FunD.ok {x qual : Str} {st : Stmt} {T f : Addr} {fd : FuncData} {N ps : List Str} {k : Nat} {sp : Sp} (F : FunD K x qual st T f fd) (S : FnScope N ps (defScope st)) (len : ∀ vs H Q E, sp vs H Q E → vs.length = ps.length)
    (hb : ∀ (cdv : Value) (A : Around) (outer : List Env) (s : Shared) (H : Hp) (vs : List V) (Q : VK) (E : XK), Room k (A.deeper (PyProof.Rows.envOfC qual (defScope st) s.heap.objs.size f cdv)) → sp vs H Q E → ∃ t, PSs (cxOf CX0 P w K mg base N qual (defScope st) f cdv A outer s H E).nox (defBody st) t ∧ t { nx := fun _ H' => Q .non H', rt := Q } (start N vs) H) : FnOk P w K mg base CX0 (k + 1) f fd ps sp := by
  obtain ⟨oc, od, kV, doc, pm, an, cdv, ct, osl, rfl, lk, hcd⟩ := F.ex
  exact fn_of lk hcd S len fun A outer s H vs Q E hr hsp => by obtain ⟨t, h, q⟩ := hb cdv A outer s H vs Q E hr hsp; exact ⟨t, h.nox, q⟩
end
end L2
namespace L2
open PySem PySem.Spec PyProof.Rows
structure CmpOkC (XN : List Str) (sc scope : Scope) (N : List Str) (js : List (Option Nat)) (t : Str) : Prop where
  kind : scope.kind = .function
  free : ∀ y ∈ scope.names, y.2 = .free → sc.names.lookup y.1 = some .cell ∨ sc.names.lookup y.1 = some .free
  loc : ∀ y ∈ scope.names, y.2 = .local → scope.names.lookup y.1 = some .local
  len : js.length = N.length
  ix : ((N.zip js).all fun p => match p.2 with | none => true | some j => decide (XN[j]? = some p.1) && decide (scope.names.lookup p.1 = some .free)) = true
  cell1 : ∀ y ∈ scope.names, y.2 = .cell → y.1 = t
  tl : scope.names.lookup t = some .cell
  laid : ∀ n acc, cellsFrom n scope.names acc = (t, n) :: acc
  pushed : ∀ h, pushCells h scope.names = h.push { cls := .type "cell", data := .cell none }
section
variable {X : Cx} {pins : List (Addr × Obj)} {σ : St} {H : Hp} {s : Shared} {XN N : List Str} {sc scope : Scope} {js : List (Option Nat)}
variable {tg iter elt : Expr} {ifs : List Expr} {pos : Pos} {wi : TI} {g : TG} {tt : TIf} {te : TE}
end
end L2
namespace RevT
open PySem PySem.Calls PyProof.Rows
theorem slot_next : Slot "reversed" "__next__" "reversed.__next__" := .of (owner := "reversed") (n := "__next__") (by rw [typeLookup_type, builtinLookup_eq_fast]; kernel_rfl) (by decide +kernel) (by decide +kernel) (by decide +kernel) (by first | exact .inl (by decide +kernel) | exact .inr (by decide +kernel)) (by rw [isSubtype_type]; kernel_rfl)
theorem entry_next : entryFor table "reversed.__next__" = some Builtin.«reversed.__next__» := entryFor_of_tree (by kernel_rfl)
theorem args_next (a : Value) : argsOk "reversed.__next__" ⟨[a], []⟩ := by unfold argsOk; kernel_rfl
theorem slot_iter : Slot "reversed" "__iter__" "reversed.__iter__" := .of (owner := "reversed") (n := "__iter__") (by rw [typeLookup_type, builtinLookup_eq_fast]; kernel_rfl) (by decide +kernel) (by decide +kernel) (by decide +kernel) (by first | exact .inl (by decide +kernel) | exact .inr (by decide +kernel)) (by rw [isSubtype_type]; kernel_rfl)
theorem args_iter (a : Value) : argsOk "reversed.__iter__" ⟨[a], []⟩ := by unfold argsOk; kernel_rfl
theorem entry_iter : entryFor table "reversed.__iter__" = some Builtin.«dict_keyiterator.__iter__» := entryFor_alias (id' := "dict_keyiterator.__iter__") (by kernel_rfl) (by first | rfl | decide +kernel | (unfold String.splitOn; simp +decide [String.splitOnAux])) (by decide +kernel) (by kernel_rfl)
theorem no_rev : typeLookup (.type "tuple") "__reversed__" = pure none := by rw [typeLookup_type, builtinLookup_eq_fast]; kernel_rfl
theorem has_get : typeLookup (.type "tuple") "__getitem__" = pure (some (.builtin "tuple.__getitem__")) := by rw [typeLookup_type, builtinLookup_eq_fast]; kernel_rfl
theorem no_dict : isSubtype (.type "tuple") (.type "dict") = pure false := by rw [isSubtype_type]; kernel_rfl
theorem sub_self : isSubtype (.type "reversed") (.type "reversed") = pure true := by rw [isSubtype_type]; kernel_rfl
noncomputable def recObj (t : Addr) (i : Int) : Obj := { cls := .type "reversed", data := .fields #[.ref t, rawInt i] }
noncomputable def IsRev (h : Heap) (a t : Addr) (i : Int) : Prop := ∃ o, h.get? a = some o ∧ o.cls = .type "reversed" ∧ o.data = .fields #[.ref t, rawInt i]
section
variable {prog : Program} {w : World} {A : Around} {E : Value → Shared → Prop} {s : Shared}
theorem IsRev.typeIs {a t : Addr} {i : Int} (x : IsRev s.heap a t i) : s.TypeIs (.ref a) "reversed" := let ⟨o, ho, hc, _⟩ := x; ⟨o, ho, hc⟩
theorem next_item {it t : Addr} {i : Nat} {items : Array Value} {x : Value} {Q : Option Value → Shared → Prop} (hit : IsRev s.heap it t (i : Int)) (ht : IsTup s.heap t items) (hx : items[i]? = some x) (hi : (i : Int) < 2 ^ 62)
    (hQ : ∀ h' tk, IsRev h' it t ((i : Int) - 1) → Heap.SameBut it s.heap h' → Q (some x) { s with heap := h', toks := tk }) : wpAny (model prog w) A (pyNext (.ref it)) Q E s := by
  obtain ⟨o, ho, hc, hd⟩ := id hit
  unfold pyNext
  refine wpAny_bind (wpAny_attempt (wpAny_callSpecial?_slot (name := Str.ofString "__next__") hit.typeIs slot_next (wpAny_call_entry slot_next hit.typeIs entry_next ?_ (args_next _))))
  unfold Builtin.«reversed.__next__»
  refine wpAny_bind (wpAny_of_eq (a := (Value.ref it, [])) rfl ?_)
  try dsimp only
  refine wpAny_bind (wpAny_field ho hd (x := .ref t) rfl ?_)
  refine wpAny_bind (wpAny_field ho hd (x := rawInt (i : Int)) rfl ?_)
  show wpAny _ _ (if (i : Int) < 0 then _ else _) _ _ s
  rw [if_neg (by lia)]
  refine wpAny_bind (wpAny_specialOf ht.typeIs has_get ?_)
  rw [if_neg (show ¬ ((some (Value.builtin "tuple.__getitem__")).isNone = true) from Bool.false_ne_true)]
  refine wpAny_bind (wpAny_mkInt ?_)
  have p63 : (2 : Int) ^ 63 = 9223372036854775808 := by decide
  have p62 : (2 : Int) ^ 62 = 4611686018427387904 := by decide
  have hsz := (Array.getElem?_eq_some_iff.mp hx).1
  have hix : seqIndex? (i : Int) items.size = some i := by
    unfold seqIndex?
    simp
    lia
  refine wpAny_bind (wpAny_attempt (getItem_tuple (s := { s with toks := s.toks + 1 }) (j := i) ht (by lia) (by lia) hix hx ?_))
  dsimp only
  refine wpAny_bind (wpAny_field (s := { s with toks := s.toks + 1 }) ho hd (x := rawInt (i : Int)) rfl ?_)
  show wpAny _ _ (setField (.ref it) 1 (rawInt ((i : Int) - 1)) >>= _) _ _ _
  refine wpAny_bind (wpAny_setField (s := { s with toks := s.toks + 1 }) ho hd (by simp) ?_)
  refine wpAny_pure ⟨x, rfl, wpAny_pure (hQ _ _ ?_ (Heap.SameBut.update ..))⟩
  exact ⟨_, Heap.get?_update_self _ ho (Obj.isFreed_of_fields (Obj.data_mapFields hd _)), (Obj.cls_mapFields ..).trans hc, by rw [Obj.data_mapFields hd]; simp⟩
theorem next_end {it t : Addr} {Q : Option Value → Shared → Prop} (hh : A.handled = none) (hit : IsRev s.heap it t (-1)) (hQ : ∀ h', Heap.ExtBut it s.heap h' → Q none { s with heap := h' }) : wpAny (model prog w) A (pyNext (.ref it)) Q E s := by
  obtain ⟨o, ho, hc, hd⟩ := id hit
  unfold pyNext
  refine wpAny_bind (wpAny_attempt (wpAny_callSpecial?_slot (name := Str.ofString "__next__") hit.typeIs slot_next (wpAny_call_entry slot_next hit.typeIs entry_next ?_ (args_next _))))
  unfold Builtin.«reversed.__next__»
  refine wpAny_bind (wpAny_of_eq (a := (Value.ref it, [])) rfl ?_)
  try dsimp only
  refine wpAny_bind (wpAny_field ho hd (x := .ref t) rfl ?_)
  refine wpAny_bind (wpAny_field ho hd (x := rawInt (-1)) rfl ?_)
  show wpAny _ _ (if (-1 : Int) < 0 then _ else _) _ _ s
  rw [if_pos (by decide)]
  refine wpAny_bind (wpAny_rule ?_)
  refine wpAny_bind ?_
  refine wpAny_bind (wpAny_setField ho hd (by simp) ?_)
  have ho' := Heap.get?_update_self (h := s.heap) (Obj.mapFields (·.setIfInBounds 1 (rawInt (-1)))) ho (Obj.isFreed_of_fields (Obj.data_mapFields hd _))
  have hd' := Obj.data_mapFields hd (·.setIfInBounds 1 (rawInt (-1)))
  refine wpAny_setField (s := { s with heap := s.heap.update it (Obj.mapFields (·.setIfInBounds 1 (rawInt (-1)))) }) ho' hd' (by simp) ?_
  first
  | show wpAny _ _ (newExc (.type "StopIteration") [] >>= _) _ _ _
  | (refine wpAny_bind ?_; show wpAny _ _ (newExc (.type "StopIteration") [] >>= _) _ _ _)
  refine wpAny_bind ?_
  simp only [newExc, newTuple]
  refine wpAny_bind (wpAny_newObj_type ?_ (by size_fits))
  refine wpAny_bind (m := firstArgMember _ _) (wpAny_of_eq (a := Value.none) (by first | rfl | (simp only [firstArgMember]; rfl)) ?_)
  refine wpAny_newObj_type ?_ (by size_fits)
  simp only [raiseNew]
  refine wpAny_bind (wpAny_handled ?_)
  first | rw [show A.in1.handled = none from hh] | rw [hh]
  refine wpAny_bind (wpAny_pure (wpAny_throw ?_))
  refine wpAny_bind (wpAny_isInstance (T := "StopIteration") (b := true) ⟨_, Heap.get?_push_size _ rfl, rfl⟩ isSubtype_stop ?_)
  exact wpAny_pure (hQ _ ((((Heap.SameBut.update ..).trans (Heap.SameBut.update ..)).extBut.push _).push _))
theorem iter_self {it t : Addr} {i : Int} {Q : Value → Shared → Prop} (hit : IsRev s.heap it t i) (h : Q (.ref it) s) : wpAny (model prog w) A (pyIter (.ref it)) Q E s := by
  refine wpAny_pyIter_slot hit.typeIs slot_iter (wpAny_call_entry slot_iter hit.typeIs entry_iter ?_ (args_iter _))
  show wpAny _ _ (ret (.ref it)) _ _ s
  exact wpAny_pure ⟨_, rfl, "reversed", _, hit.typeIs, slot_next.lookup, h⟩
end
theorem mro_rev : mroOf (.type "reversed") = pure [.type "reversed", .type "object"] := by rw [mroOf_type]; kernel_rfl
theorem look_new : typeLookup (.type "reversed") "__new__" = pure (some (.builtin "reversed.__new__")) := by rw [typeLookup_type, builtinLookup_eq_fast]; kernel_rfl
theorem slot_init : Slot "reversed" "__init__" "object.__init__" := .of (owner := "object") (n := "__init__") (by rw [typeLookup_type, builtinLookup_eq_fast]; kernel_rfl) (by decide +kernel) (by decide +kernel) (by decide +kernel) (by first | exact .inl (by decide +kernel) | exact .inr (by decide +kernel)) (by rw [isSubtype_type]; kernel_rfl)
theorem called_rev : TypeCalled "reversed" "reversed.__new__" "object.__init__" := ⟨by decide +kernel, by decide +kernel, ⟨_, _, mro_rev⟩, madeBy_type mro_rev look_new (by decide +kernel), by decide +kernel, by rw [isSubtype_type]; kernel_rfl, slot_init⟩
theorem typeCall_rev (a : Value) : checkTypeCall "reversed" ⟨[a], []⟩ = pure () := by kernel_rfl
theorem newCall_rev (a : Value) : checkBuiltinCall "reversed.__new__" ⟨[.type "reversed", a], []⟩ = pure () := by kernel_rfl
theorem entry_new : entryFor table "reversed.__new__" = some Builtin.«reversed.__new__» := entryFor_of_tree (by kernel_rfl)
theorem newClass_rev (a : Value) : Builtin.SmallTypes.newClass "reversed" ⟨[.type "reversed", a], []⟩ = pure (.type "reversed", [a]) := by
  unfold Builtin.SmallTypes.newClass
  simp only [isType, sub_self, pure_bind, Bool.not_true, Bool.false_eq_true, if_false]
theorem meets_new (t : Addr) (items : Array Value) (hz : (items.size : Int) < 2 ^ 63) : Meets (Builtin.«reversed.__new__» ⟨[.type "reversed", .ref t], []⟩) (fun _ R s => IsTup s.heap t items ∧ R (.ok (.ret (.ref s.heap.objs.size))) { s with heap := s.heap.push (recObj t ((items.size : Int) - 1)), toks := s.toks + 1 + 1 }) :=
  .of_wp fun prog w A R s h => by
    obtain ⟨ht, h⟩ := h
    unfold Builtin.«reversed.__new__»
    refine wpAny_bind (wpAny_of_eq (newClass_rev _) ?_)
    try dsimp only
    refine wpAny_bind (wpAny_of_eq (a := ()) (by first | rfl | kernel_rfl) ?_)
    refine wpAny_bind (wpAny_of_eq (a := ()) (by first | rfl | kernel_rfl) ?_)
    try dsimp only
    refine wpAny_bind (wpAny_specialOf ht.typeIs no_rev ?_)
    try dsimp only
    refine wpAny_bind (wpAny_bind (wpAny_isInstance (T := "tuple") (b := false) ht.typeIs no_dict ?_))
    rw [if_neg Bool.false_ne_true]
    refine wpAny_bind (wpAny_specialOf ht.typeIs has_get ?_)
    refine (show wpAny _ _ (pure true) _ _ _ from wpAny_pure ?_)
    show wpAny _ _ (if (!true) = true then _ else _) _ _ _
    rw [if_neg (by decide)]
    refine wpAny_bind (len_tuple ht hz ?_)
    show wpAny _ _ (Builtin.SmallTypes.newRecord (.type "reversed") [.ref t, rawInt ((items.size : Int) - 1)] >>= _) _ _ _
    refine wpAny_bind (wpAny_newObj_type (data := .fields #[.ref t, rawInt ((items.size : Int) - 1)]) ?_ (by size_fits))
    exact wpAny_pure ⟨_, rfl, h⟩
theorem call_rev {prog : Program} {w : World} {A : Around} {E : Value → Shared → Prop} {s : Shared} {t : Addr} {items : Array Value} {Q : Value → Shared → Prop} (ht : IsTup s.heap t items) (hz : (items.size : Int) < 2 ^ 63)
    (h : Q (.ref s.heap.objs.size) { s with heap := s.heap.push (recObj t ((items.size : Int) - 1)), toks := s.toks + 1 + 1 }) : wpAny (model prog w) A (call (.type "reversed") [.ref t]) Q E s :=
  callType_new called_rev (by decide) (typeCall_rev _) (newCall_rev _) (fun obj => F.args_object_init_2 obj _) entry_new (meets_new t items hz) ⟨ht, ⟨_, Heap.get?_push_size _ rfl, rfl⟩, h⟩
end RevT
namespace L2
open PySem PySem.Spec PyProof.Rows
noncomputable def Itv (K : PySem.W.Frag) (a : Addr) (xs : List V) : It :=
  ⟨fun i H => SqT K H a xs ∧ ∃ x, xs.reverse[i]? = some x, fun i H x H' => H' = H ∧ xs.reverse[i]? = some x, fun i H => SqT K H a xs ∧ xs.length = i⟩
noncomputable def iRev (K : PySem.W.Frag) (ta : TA) : TI := fun σ H R => ta σ H fun vs H1 => ∃ a xs, vs = [.ref a] ∧ SqT K H1 a xs ∧ R (Itv K a xs) H1
section
variable {X : Cx} {tg : Expr}
theorem turn_rev {P : Program} {w : World} {K : PySem.W.Frag} (a it : Addr) (xs : List V) : Turn P w K tg (Itv K a xs) [it] it (fun i h => RevT.IsRev h it a ((xs.length : Int) - 1 - (i : Nat))) where
  mem := by simp
  obj := fun i h st b hb => by
    rw [List.mem_singleton.mp hb]
    obtain ⟨o, e, c, d⟩ := st
    exact ⟨o, e, fun v z => by rw [d] at z; cases z⟩
  keep := fun i h h' st k => by
    obtain ⟨o, e, r⟩ := st
    exact ⟨o, k it (by simp) _ e, r⟩
  item := by
    intro X hP hw hK hc i pins s σ H E I hf st hg
    subst hP hw hK
    obtain ⟨hq, x, hx⟩ := hg
    obtain ⟨its, rv, p, hz⟩ := I.tuple hq
    have hi : i < xs.length := by have := (List.getElem?_eq_some_iff.mp hx).1; simpa using this
    have hx' : xs[xs.length - 1 - i]? = some x := by rw [List.getElem?_reverse hi] at hx; exact hx
    obtain ⟨u, hu, ru⟩ := rv.get hx'
    obtain ⟨f0, f1, f2, f3, f4, f5⟩ := hf it (by simp)
    have e : (xs.length : Int) - 1 - (i : Nat) = ((xs.length - 1 - i : Nat) : Int) := by lia
    have hn : (sizeLine : Nat) < 2 ^ 60 := by rw [sizeLine_eq]; decide
    have p62 : (2 : Int) ^ 62 = 4611686018427387904 := by decide
    rw [e] at st
    refine RevT.next_item st p (x := u) (by simpa using hu) (by lia) fun h' tk st' sb => ?_
    have I1 : Inv X pins σ H { s with heap := h', toks := tk } := I.turned (fun b o hb e => (sb.2 b hb).trans e) f0 f1 f3 f4 f5
    have st2 : RevT.IsRev h' it a ((xs.length : Int) - 1 - ((i + 1 : Nat) : Int)) := by
      have e2 : (xs.length : Int) - 1 - ((i + 1 : Nat) : Int) = ((xs.length - 1 - i : Nat) : Int) - 1 := by lia
      rw [e2]; exact st'
    obtain ⟨o, e, c, d⟩ := id st'
    exact ⟨u, rfl, go_of (s := { s with heap := h', toks := tk }) e c d (by decide) ⟨x, H, I1, ru, ⟨rfl, hx⟩, st2, fun b hb => (hf b hb).1⟩⟩
  done := by
    intro X hP hw hK hc i pins s σ H E I hf st hg
    subst hP hw hK
    obtain ⟨hq, hx⟩ := hg
    obtain ⟨f0, f1, f2, f3, f4, f5⟩ := hf it (by simp)
    have e : (xs.length : Int) - 1 - (i : Nat) = -1 := by lia
    rw [e] at st
    exact RevT.next_end (I.ok.hd hc) st fun h' eb => ⟨rfl, I.turned (t' := s.toks) (fun b o hb e => eb b o hb e) f0 f1 f3 f4 f5⟩
  self := fun _ _ _ _ _ st h => RevT.iter_self st h
theorem pi_rev {a : Expr} {ta : TA} {p pos : Pos} (hg : Gl X "reversed") (hm : X.mg "reversed" = none) (ha : PA X [a] ta) (hs : starEach [a] X.env = [(false, eval a X.env)] := by rfl) : PI X tg (.Call (.Name "reversed" p) [a] [] pos) (iRev X.K ta) := by
  intro pins s σ H R I h
  refine Call_ (ld_blt I hg hm bt_reversed (PyProof.Rows.callWith_type1 (thn (ha pos pins s σ H _ I h) fun us s1 h1 => ?_) hs rfl))
  obtain ⟨vs, H1, I1, r1, t, xs, rfl, hq, q⟩ := h1
  obtain ⟨u, rfl, rx⟩ := vals1 r1
  cases rx
  obtain ⟨its, rv, p, hz⟩ := I1.tuple hq
  have hlen := rv.length
  have hn := line63
  refine RevT.call_rev p (by simp only [List.size_toArray] <;> lia) ?_
  have I2 : Inv X pins σ H1 { s1 with heap := s1.heap.push (RevT.recObj t ((its.toArray.size : Int) - 1)), toks := s1.toks + 1 + 1 } := I1.kept fun b o e => Heap.get?_push_of_some _ e
  have st : RevT.IsRev (s1.heap.push (RevT.recObj t ((its.toArray.size : Int) - 1))) s1.heap.objs.size t ((xs.length : Int) - 1 - ((0 : Nat) : Int)) := by
    refine ⟨_, Heap.get?_push_size _ rfl, rfl, ?_⟩
    have e : (xs.length : Int) - 1 - ((0 : Nat) : Int) = (its.toArray.size : Int) - 1 := by simp [hlen]
    rw [e]; rfl
  refine RevT.iter_self (s := { s1 with heap := s1.heap.push (RevT.recObj t ((its.toArray.size : Int) - 1)), toks := s1.toks + 1 + 1 }) st ?_
  refine ⟨s1.heap.objs.size, [s1.heap.objs.size], _, _, H1, rfl, I2, turn_rev t _ xs, st, fun b hb => ?_, q⟩
  rw [List.mem_singleton.mp hb]
  exact I1.fpOk (Nat.le_refl _) I1.fresh
end
end L2
namespace M
open PySem L2
section
variable {K : PySem.W.Frag} {S S' H H' : Hp}
noncomputable def revD : List D → Option (List D)
  | [.tup l] => some l.reverse | _ => none
@[simp] noncomputable def xRevI (a : XA) : XA := fun ρ => (a ρ).bind revD
theorem i_rev {t : TA} {a : XA} (h : SAP K t a) : SI K (iRev K t) (xRevI a) := fun ρ σ S H R l r x k => by
  unfold xRevI at x
  cases q : a ρ with
  | none => rw [q] at x; cases x
  | some ds =>
    rw [q] at x
    dsimp only [Option.bind] at x
    unfold revD at x
    split at x
    · rename_i l'
      cases x
      refine h ρ σ S H _ _ r q fun vs S1 H1 z1 d1 => ?_
      cases d1 with
      | cons a1 d1 =>
        cases d1
        rcases a1 with a1 | ⟨l2, _, _, e, _⟩
        · obtain ⟨p, xs, rfl, h1, h2⟩ := den_tup.mp a1
          refine ⟨p, xs, rfl, sqT_mono z1.sub h1, k _ S1 H1 z1 fun S' H' s1 s2 => ⟨fun i d hd => ?_, sqT_mono (s1.trans s2) h1, by rw [List.length_reverse]; exact h2.length.symm⟩⟩
          have hi : i < l'.length := by have := (List.getElem?_eq_some_iff.mp hd).1; simpa using this
          rw [List.getElem?_reverse hi] at hd
          obtain ⟨y, e1, e2⟩ := h2.get hd
          have hl := h2.length
          have e3 : xs.reverse[i]? = some y := by rw [List.getElem?_reverse (by lia)]; rw [← e1]; congr 2; lia
          refine ⟨⟨sqT_mono (s1.trans s2) h1, y, e3⟩, fun x H'' hy => ⟨hy.1, ?_⟩⟩
          have := hy.2
          rw [e3] at this
          cases this
          exact e2.mono s1
        · cases e
    · cases x
end
end M
namespace L2
open PySem
structure IsC (K : PySem.W.Frag) (C : Addr) : Prop where
  cl : Cls K C
  ha : PySem.W.findIn K (.ref C) "__class__" = some (some (.builtin "object.__class__"))
  hn : PySem.W.specialIn K (.builtin "object.__class__") "__get__" = some (some (.builtin "getset_descriptor.__get__"))
  htk : PySem.W.takesIn K (.builtin "object.__class__") = some true
  hm : PySem.W.mroIn K C (.type "object") = some true
section
variable {X : Cx} {e : Expr} {pos p p' : Pos} {ta : TE} {T : Addr} {N : Str} {ans : List (Str × Bool)}
end
end L2
namespace M
open PySem L2
section
variable {K : PySem.W.Frag} {S S' H H' : Hp}
@[simp] noncomputable def xIsiN (ans : List (Str × Bool)) (e : XE) : XE := fun ρ => (e ρ).bind fun d => match d with | .ins N _ _ => (ans.lookup N).map .bl | _ => none
end
end M
namespace L2
open PySem PySem.Spec PyProof.Rows Builtin Builtin.ObjectAttr Builtin.Getset_descriptor
noncomputable def XAt (C a : Addr) (h : Heap) : Prop := ∃ o vs, h.get? a = some o ∧ o.cls = .ref C ∧ o.data = .fields vs
noncomputable abbrev excO (C a : Addr) : HO := .ext (XAt C a)
structure XCls (K : PySem.W.Frag) (C : Addr) : Prop where
  cl : PySem.W.hasDictIn K C = true
  ga : PySem.W.findIn K (.ref C) "__getattribute__" = some (some (.builtin "BaseException.__getattribute__"))
  gx : PySem.W.findIn K (.ref C) "__getattr__" = some none
  ca : PySem.W.findIn K (.ref C) "__class__" = some (some (.builtin "object.__class__"))
  hn : PySem.W.specialIn K (.builtin "object.__class__") "__get__" = some (some (.builtin "getset_descriptor.__get__"))
  tk : PySem.W.takesIn K (.builtin "object.__class__") = some true
  ob : PySem.W.mroIn K C (.type "object") = some true
  be : PySem.W.mroIn K C (.type "BaseException") = some true
section
variable {prog : Program} {w : World} {A : Around} {E : Value → Shared → Prop} {s : Shared} {K : PySem.W.Frag} {C a : Addr}
theorem XAt.type {M : Model} {h : Heap} (x : XAt C a h) : PySem.W.Looks M h (typeOf (.ref a)) (.ref C) := by
  obtain ⟨o, vs, e, c, d⟩ := x
  exact c ▸ (PySem.W.Looks.ld e).andThen .now
theorem exc_find {M : Model} {h : Heap} (X : K.In h) (c : XCls K C) : PySem.W.Looks M h (find (.ref a) (.ref C) "__class__") (.bind (.builtin "getset_descriptor.__get__") (.builtin "object.__class__")) := by
  refine (PySem.W.looks_findIn (M := M) X c.ca).andThen ((show PySem.W.Looks M h (getOf (some (.builtin "object.__class__"))) (some (.builtin "getset_descriptor.__get__")) from PySem.W.looks_specialIn X c.hn).andThen ?_)
  exact (show PySem.W.Looks M h (dataDescriptor? (some (.builtin "object.__class__")) (some (.builtin "getset_descriptor.__get__"))) (some (.builtin "getset_descriptor.__get__", .builtin "object.__class__")) from (PySem.W.looks_takesIn (M := M) X c.tk).andThen .now).andThen (PySem.W.Looks.tag .now)
theorem exc_class_get {tp : Value} {R : Result → Shared → Prop} (X : K.In s.heap) (c : XCls K C) (x : XAt C a s.heap) (h : R (.ok (.ret (.ref C))) s) :
    codeAny (model prog w) A (.call (.builtin "getset_descriptor.__get__") ⟨[.builtin "object.__class__", .ref a, tp], []⟩) R s := by
  obtain ⟨hp, gn, dr, tt, oss⟩ := s
  have T0 := x.type (M := model prog w)
  have T1 := PySem.W.looks_mroIn (M := model prog w) X c.ob
  refine codeAny_call_builtin PySem.W.KF.slot_gs.plain PySem.W.KF.entry_gs (PySem.W.KF.slot_gs.check _ _ _ _ _ _ _ _ PySem.W.KF.type_class (PySem.W.KF.args_gs _ _ _) ?_)
  unfold Builtin.«getset_descriptor.__get__» descrGet
  rw [PySem.W.dga_obj]
  refine wpAny_bind (wpAny_pure ?_)
  unfold descrGetter descrCheckInstance descrNameAndClass isInstance
  simp only [PySem.W.KF.owner_class]
  repeat lk
  refine ⟨Code.quiet_builtin _ (by decide +kernel), codeAny_builtin PySem.W.KF.entry_class ?_⟩
  unfold Builtin.«object.__class__» shownTypeOf
  repeat lk
  exact h
theorem exc_ga_check {nv : Value} {Q : Unit → Shared → Prop} {M : Model} (X : K.In s.heap) (c : XCls K C) (x : XAt C a s.heap) (h : Q () s) : wpAny M A (checkBuiltinCall "BaseException.__getattribute__" ⟨[.ref a, nv], []⟩) Q E s := by
  obtain ⟨hp, gn, dr, tt, oss⟩ := s
  have T0 := x.type (M := M)
  have T1 := PySem.W.looks_mroIn (M := M) X c.be
  have kk : builtinKind "BaseException.__getattribute__" = some .slot := by decide +kernel
  have sp : splitId "BaseException.__getattribute__" = some ("BaseException", "__getattribute__") := by decide +kernel
  have ar := F.args_bexc_ga (.ref a) nv
  simp only [checkBuiltinCall, kk, sp]
  refine wpAny_bind ?_
  unfold isInstance
  repeat (first | lk | wp_step)
  exact h
theorem exc_class {Q : Option Value → Shared → Prop} (X : K.In s.heap) (c : XCls K C) (x : XAt C a s.heap) (h : Q (some (.ref C)) { s with toks := s.toks + 1 }) : wpAny (model prog w) A (getAttr? (.ref a) "__class__") Q E s := by
  obtain ⟨hp, gn, dr, tt, oss⟩ := s
  have T0 := x.type (M := model prog w)
  have T1 := PySem.W.looks_findIn (M := model prog w) X c.ga
  have T2 := PySem.W.looks_findIn (M := model prog w) X c.gx
  have T3 := exc_find (M := model prog w) (a := a) X c
  unfold getAttr? getAttrBy? getAttrBy
  refine wpAny_bind (wpAny_mkText (wpAny_bind (wpAny_attempt (wpAny_holding (wpAny_bind (T0.at (wpAny_bind (T1.at ?_))))))))
  show wpAny _ _ (getAttrByItsOwn _ _ _ _ _ _) _ _ _
  unfold getAttrByItsOwn hookBefore
  refine wpAny_bind (T2.at ?_)
  refine wpAny_bind (wpAny_attempt (wpAny_holding ?_))
  show wpAny _ _ (boundAndCalled _ _ _) _ _ _
  have hbd := PySem.F.attr_ValueError.ga.bind (.ref a)
  unfold boundAndCalled
  rw [hbd]
  refine wpAny_bind (wpAny_pure ?_)
  refine wpAny_call (codeAny_call_builtin PySem.F.attr_ValueError.ga.plain F.entry_bexc_ga (exc_ga_check X c x ?_))
  unfold Builtin.«object.__getattribute__»
  repeat (first | with_reducible refine wpAny_call ?_ | lk | wp_step)
  refine exc_class_get (s := ⟨hp, gn, dr, tt + 1, oss⟩) X c x ?_
  refine wpAny_pure (wpAny_pure ?_)
  exact wpAny_pure h
theorem kitx_exc (c : XCls K C) : PySem.W.KitX K (.ref a) (.ref C) (XAt C a) where
  ty := fun _ _ _ x => x.type
  it := fun M h X _ => by
    obtain ⟨cd, hc, _⟩ := PySem.W.any_some c.cl
    unfold PySem.W.clsIn at hc
    split at hc
    · rename_i ho
      intro A' Q' E' s' k q
      unfold isType loadHead
      exact wpAny_bind (wpAny_loadPart (k _ _ (X _ _ ho)) (wpAny_pure q))
    · cases hc
  ne := fun h tp dd its n sl X htp => by
    obtain ⟨cd, hc, _⟩ := PySem.W.any_some c.cl
    refine Bool.eq_false_iff.mpr fun q => ?_
    obtain rfl : C = tp := Value.ref.inj (beq_iff_eq.mp q)
    unfold PySem.W.clsIn at hc
    split at hc
    · rename_i ho
      have z := (X _ _ ho).symm.trans htp
      cases z
    · cases hc
  ca := fun X x k => exc_class X c x k
end
end L2
namespace L2
open PySem PySem.Spec PyProof.Rows
theorem ObjOk.at_ {P : Program} {w : World} {H : Hp} {h : Heap} {a : Addr} {o : HO} (x : ObjOk P w H h a o) : ∃ u, h.get? a = some u := by
  cases o with
  | lst xs => obtain ⟨_, _, _, _, e⟩ := x; exact ⟨_, e⟩
  | tup xs => obtain ⟨_, _, _, _, e, _⟩ := x; exact ⟨_, e⟩
  | dK kvs => obtain ⟨_, _, _, _, o, _, _, e, _⟩ := x; exact ⟨_, e⟩
  | dT kvs => obtain ⟨_, _, _, _, o, _, _, e, _⟩ := x; exact ⟨_, e⟩
  | set S n => obtain ⟨o, _, _, _, e, _⟩ := x; exact ⟨_, e⟩
  | ins C dx fs => obtain ⟨_, _, _, e, _⟩ := x; exact ⟨_, e⟩
  | own y => exact x
  | xd fs => obtain ⟨_, ⟨_, _, _, e, _⟩, _⟩ := x; exact ⟨_, e⟩
  | rng lo hi => obtain ⟨_, _, _, e⟩ := x; exact ⟨_, e⟩
  | frz ob u => exact ⟨_, x.1⟩
  | tbl ps => exact ⟨_, (show h.get? a = some _ from x)⟩
  | met f y => exact ⟨_, (show h.get? a = some _ from x)⟩
  | ext φ => exact x.2.1
noncomputable def CXe (P : Program) (w : World) : CXT := fun outer H s E v s' => ∃ (e : Addr) (cls a0 : Value) (H' : Hp) (B : Heap), v = .ref e ∧ s'.os = s.os ∧ AllBare s'.gens ∧ Un (frs outer) [] H H' s.heap s'.heap ∧ HOk P w H' s'.heap ∧ E cls none H' ∧
  Heap.FlyingW B outer e cls a0 s'.heap ∧ (∀ b u, H' b = some u → ∃ o, B.get? b = some o) ∧ ∀ b o, s.heap.get? b = some o → b ∉ frs outer → ∃ o', B.get? b = some o'
section
variable {H H' : Hp} {B h0 h h' : Heap} {fs : List Addr}
theorem hok_fly {P : Program} {w : World} (x : HOk P w H h) (hB : B.StaysIn h) (hB' : B.StaysIn h') (k : ∀ b u, H b = some u → ∃ o, B.get? b = some o) : HOk P w H h' := fun a o ha =>
  (x a o ha).stay (fun b u hb q => by
    obtain ⟨v, hv⟩ : ∃ v, H b = some v := by
      rcases hb with rfl | hb
      · exact ⟨o, ha⟩
      · exact ⟨_, hb⟩
    obtain ⟨ob, q1⟩ := k b v hv
    have q2 := hB b ob q1
    rw [q] at q2
    cases q2
    exact hB' b _ q1) (fun _ q => q) fun _ _ q => q
theorem fly_un (un : Un fs [] H H' h0 h) (k2 : ∀ b o, h0.get? b = some o → b ∉ fs → ∃ o', B.get? b = some o') (nf : ∀ b ∈ fs, ∀ o, h0.get? b = some o → ∀ vs, o.data ≠ .fields vs) (fr : ∀ b ∈ fs, H b = none)
    (hB : B.StaysIn h) (hB' : B.StaysIn h') (sm : h.UpToSlots h') : Un fs [] H H' h0 h' := by
  have no : ∀ b : Addr, b ∉ ([] : List Addr) := fun b z => by cases z
  have both : ∀ b o, h0.get? b = some o → b ∉ fs → ∃ o', h.get? b = some o' ∧ h'.get? b = some o' := fun b o q z => by
    obtain ⟨o', q'⟩ := k2 b o q z
    exact ⟨o', hB b o' q', hB' b o' q'⟩
  have slots : ∀ b o, h0.get? b = some o → b ∈ fs → ∃ sl, h'.get? b = some { o with slots := sl } := fun b o q z => by
    obtain ⟨sl, q2⟩ := un.slot b o q (fr b z) z (no b)
    obtain ⟨sl', q3⟩ := sm b _ q2 (nf b z o q)
    exact ⟨sl', q3⟩
  refine ⟨fun b o q n z _ => ?_, fun b o q _ z _ => slots b o q z, un.free, fun b o q _ => ?_, un.tups, un.frzs, un.tbls⟩
  · obtain ⟨o', q1, q2⟩ := both b o q z
    have q3 := un.keep b o q n z (no b)
    rw [q3] at q1
    cases q1
    exact q2
  · by_cases z : b ∈ fs
    · obtain ⟨sl, q1⟩ := slots b o q z
      exact ⟨_, q1⟩
    · obtain ⟨o', _, q2⟩ := both b o q z
      exact ⟨o', q2⟩
end
section
variable {X : Cx} {pins : List (Addr × Obj)} {σ : St} {H : Hp} {s : Shared} {E : XK} {B : Heap} {e : Addr} {cls a0 : Value}
theorem Inv.nf (I : Inv X pins σ H s) : ∀ b ∈ X.fs, ∀ o, X.s₀.heap.get? b = some o → ∀ vs, o.data ≠ .fields vs := fun b z o q => by
  obtain ⟨_, o1, q1, nf⟩ := I.ok.funs.mem z
  rw [q] at q1
  cases q1
  exact nf
theorem Inv.nfS (I : Inv X pins σ H s) : ∀ b ∈ frs X.stack, ∀ o, s.heap.get? b = some o → ∀ vs, o.data ≠ .fields vs := fun b z o q => by
  obtain ⟨_, o1, q1, nf⟩ := I.stack.mem z
  rw [q] at q1
  cases q1
  exact nf
theorem fly_out {h' : Heap} (I : Inv X pins σ H s) (hex : X.ex = []) (hE : E cls none H) (hB : B.StaysIn s.heap) (k1 : ∀ b u, H b = some u → ∃ o, B.get? b = some o)
    (k2 : ∀ b o, X.s₀.heap.get? b = some o → b ∉ X.fs → ∃ o', B.get? b = some o') (fl : Heap.FlyingW B X.outer e cls a0 h') (sm : s.heap.UpToSlots h') : CXe X.prog X.w X.outer X.H₀ X.s₀ E (.ref e) { s with heap := h' } :=
  ⟨e, cls, a0, H, B, rfl, I.os, I.bare, fly_un (by have := I.base; rw [hex] at this; exact this) k2 I.nf I.ok.frf hB fl.1 sm, hok_fly I.hok hB fl.1 k1, hE, fl, k1, k2⟩
theorem Inv.notStk (I : Inv X pins σ H s) {b : Addr} {o : Obj} (q : X.s₀.heap.get? b = some o) (z : b ∉ X.fs) : b ∉ frs X.stack := fun hb => by
  rcases List.mem_cons.mp (I.stkSub b hb) with r | r
  · exact absurd (Heap.lt_size q) (by rw [r]; exact Nat.not_lt.mpr I.ok.above)
  · exact z r
end
section
variable {P : Program} {w : World} {K : PySem.W.Frag} {mg : Str → Option Value} {base : Heap} {N : List Str} {qual : Str} {scope : Scope} {f : Addr} {cdv : Value} {A : Around} {outer : List Env} {s : Shared} {H : Hp} {E : XK}
theorem pass_e : Passes (CXe P w) (cxOf (CXe P w) P w K mg base N qual scope f cdv A outer s H E) E := by
  intro pins σ H1 s1 v s' I hx
  obtain ⟨e, cls, a0, H', B, rfl, ho, hg, un, hok, hE, fl, k1, k2⟩ := hx
  have I2 := I.call' ho un hok hg (fun b z => by cases z)
  refine wpAny_leaves_onW I.ok.frames rfl fl fun h' fl' sm => fly_out (X := cxOf (CXe P w) P w K mg base N qual scope f cdv A outer s H E) I2 rfl hE fl.1 k1 (fun b o q z => ?_) fl' sm
  obtain ⟨o1, q1⟩ := I.base.there b o q (by intro y; cases y)
  exact k2 b o1 q1 (I.notStk q z)
noncomputable def Raises (X : Cx) (E : XK) : Prop := ∀ (pins : List (Addr × Obj)) (σ : St) (H : Hp) (s : Shared) (h' : Heap) (e C : Addr) (vs : List Value), Inv X pins σ H s → Heap.MadeExcOf s.heap h' e (.ref C) vs → E (.ref C) none H → X.xe (.ref e) { s with heap := h' }
theorem raise_e : Raises (cxOf (CXe P w) P w K mg base N qual scope f cdv A outer s H E) E := by
  intro pins σ H1 s1 h' e C vs I hx hE
  have hin : ∀ env ∈ (cxOf (CXe P w) P w K mg base N qual scope f cdv A outer s H E).stack, ∀ b, env.frame = some b → b ∈ frs (cxOf (CXe P w) P w K mg base N qual scope f cdv A outer s H E).stack := fun env he b hb => List.mem_filterMap.mpr ⟨env, he, hb⟩
  have I2 := I.kept (t' := s1.toks) hx.keeps
  refine wpAny_leaves_madeW (base := PySem.W.hideAll s1.heap (frs (cxOf (CXe P w) P w K mg base N qual scope f cdv A outer s H E).stack)) I.ok.frames rfl (fun b o q => PySem.W.of_hideAll _ q) (PySem.W.funFrames_hide I.stack hin) hx fun h2 t fl _ _ sm => ?_
  refine fly_out (X := cxOf (CXe P w) P w K mg base N qual scope f cdv A outer s H E) (s := { s1 with heap := h' }) I2 rfl hE (fun b o q => hx.keeps b o (PySem.W.of_hideAll _ q)) (fun b u q => ?_) (fun b o q z => ?_) fl sm
  · obtain ⟨o, q1⟩ := (I.hok b u q).at_
    exact ⟨o, PySem.W.hideAll_get _ q1 fun hb => by rw [I.stkFree b hb] at q; cases q⟩
  · obtain ⟨o1, q1⟩ := I.base.there b o q (by intro y; cases y)
    exact ⟨o1, PySem.W.hideAll_get _ q1 (I.notStk q z)⟩
end
theorem exc_obj {K : PySem.W.Frag} {h : Heap} {C : Addr} {bmB : List Value} {newId : String} (X : K.In h) (q : PySem.W.excIn K C bmB newId = true) : ∃ bm N nm qn bs hdct sn sub ab col dd k0 k1 k2 k3 k5 mN,
    h.get? C = some (excClassObj nm qn C N bs bm hdct sn sub ab col dd k0 k1 k2 k3 k5 newId) ∧ h.Ns N mN ∧ mN "__init__" = none ∧ OwnTail h bmB bm := by
  unfold PySem.W.excIn at q
  split at q <;> try (cases q; done)
  rename_i dd cd sl ho
  split at q <;> try (cases q; done)
  rename_i C' bm k0 k1 k2 k3 n k5 hm hs
  simp only [Bool.and_eq_true, beq_iff_eq, Bool.not_eq_true'] at q
  obtain ⟨⟨⟨⟨⟨rfl, rfl⟩, qd⟩, qt⟩, qo⟩, qi⟩ := q
  obtain ⟨nm, bs, mro, ns, qn, hd, sn, sub, ab, col, del⟩ := cd
  obtain ⟨l⟩ := sl
  dsimp only at hm hs qd qo qi
  subst hm hs qd
  exact ⟨bm, ns, nm, qn, bs, hd, sn, sub, ab, col, dd, k0, k1, k2, k3, k5, _, X _ _ ho, .of_isNs (PySem.W.isNs_of_in X qo), PySem.W.nsMap_none_of_in X qo qi, PySem.W.tail_of_in X qt⟩
abbrev bmV : List Value := [.type "ValueError", .type "Exception", .type "BaseException", .type "object"]
noncomputable def tRaise (K : PySem.W.Frag) (N : Str) (te : TE) (E : XK) : TS := fun _ σ H => ∀ C, PySem.W.nsIn K mainGlobals N = some (some (.ref C)) → tCons te tNil σ H fun vs H1 => vs.length = 1 ∧ E (.ref C) none H1
section
variable {X : Cx} {E : XK} {x : Str} {e : Expr} {te : TE} {np cpos pos : Pos}
theorem ps_raise (hz : Raises X E) (hE : ∃ C : Addr, PySem.W.nsIn X.K mainGlobals x = some (some (.ref C)) ∧ PySem.W.excIn X.K C bmV "ValueError.__new__" = true ∧ X.mg x = some (.ref C)) (hh : X.A.handled = none) (hg : Gl X x) (he : PE X e te)
    (hdb : (x == ("__debug__" : Str)) = false := by decide) (h1 : starEach [e] X.env = (false, eval e X.env) :: starEach [] X.env := by rfl) (h2 : (backTo cpos (starEach [] X.env)).any (·.1) = false := by rfl) :
    PS X (.Raise (some (.Call (.Name x np) [e] [] cpos)) none pos) (tRaise X.K x te E) := by
  intro pins s σ H D I h
  obtain ⟨C, hN, hq, hm⟩ := hE
  have h := h C hN
  obtain ⟨tl, N, nm, q, bs, hdct, sn, sub, ab, col, dd, k0, k1, k2, k3, k5, mN, hC, hNs, hni, T⟩ := exc_obj I.ok.mod.kin hq
  refine wpAny_Raise_call_subT (C := C) (nm := nm) (q := q) (N := N) (bs := bs) (bm := tl) (hdct := hdct) (sn := sn) (sub := sub) (ab := ab) (col := col) (dd := dd) (k0 := k0) (k1 := k1) (k2 := k2) (k3 := k3) (k5 := k5)
    PySem.F.excBase_ValueError (mN := mN) (T.hasType PySem.F.excBase_ValueError.hasBase) hh (by rw [h1]; show (false || (backTo cpos (starEach [] X.env)).any (·.1)) = false; rw [h2]; rfl) hni (ld_glob I hg hm ⟨rfl, ?_⟩ hdb)
  have hp := pa_cons (X := X) he pa_nil h1 cpos pins s σ H (fun vs H1 => vs.length = 1 ∧ E (.ref C) none H1) I h
  rw [h1] at hp ⊢
  exact Calls.evalArgs_plain (thn hp fun us s2 ⟨vs, H2, I2, r, ql, q2⟩ => ⟨rfl, by rw [← r.length, ql]; exact Nat.le_trans (show 1 ≤ 1000 by decide) (by rw [sizeLine_eq]; decide), I2.bk _ _ hC, hNs.keeps I2.bk, T.keeps I2.bk, fun h' e' hx => hz pins σ H2 s2 h' e' C us I2 hx q2⟩)
end
end L2
namespace L2
open PySem PySem.Spec PyProof.Rows
noncomputable abbrev Cx.hold (X : Cx) (e : Addr) : Cx := { X with A := X.A.mark (some (.ref e)), calm := false, xe := fun _ _ => False }
noncomputable abbrev Cx.pin (X : Cx) (ps : List (Addr × Obj)) : Cx := { X with pn := X.pn ++ ps }
section
variable {X : Cx} {pins : List (Addr × Obj)} {σ : St} {H H' : Hp} {s s' : Shared} {e : Addr}
theorem Cx.Ok.hold (ok : X.Ok) (e : Addr) : (X.hold e).Ok :=
  ⟨ok.mod, ok.kind, ok.glob, ok.blt, ok.above, ok.inj, ok.has, ok.cab, (fun z => by cases z), ok.frames, ok.stk, ok.exf, ok.bs, ok.bsz, ok.noex, ok.exfs, ok.funs, ok.frf⟩
theorem Inv.hold (I : Inv X pins σ H s) (e : Addr) : Inv (X.hold e) pins σ H s := ⟨I.ok.hold e, I.os, I.bare, I.base, I.loc, I.cell, I.free, I.freeC, I.pin, I.hok, I.len⟩
theorem Inv.unhold (ok : X.Ok) (I : Inv (X.hold e) pins σ H s) : Inv X pins σ H s := ⟨ok, I.os, I.bare, I.base, I.loc, I.cell, I.free, I.freeC, I.pin, I.hok, I.len⟩
theorem Inv.toPin (I : Inv X pins σ H s) : Inv (X.pin pins) [] σ H s :=
  ⟨⟨I.ok.mod, I.ok.kind, I.ok.glob, I.ok.blt, I.ok.above, I.ok.inj, I.ok.has, I.ok.cab, I.ok.hd, I.ok.frames, I.ok.stk, I.ok.exf, I.ok.bs, I.ok.bsz, I.ok.noex, I.ok.exfs, I.ok.funs, I.ok.frf⟩, I.os, I.bare, I.base, I.loc, I.cell, I.free, I.freeC, fun p hp => I.pin p (by rw [List.append_nil] at hp; exact hp), I.hok, I.len⟩
theorem Inv.ofPin {ps : List (Addr × Obj)} (ok : X.Ok) (I : Inv (X.pin pins) ps σ H s) : Inv X pins σ H s :=
  ⟨ok, I.os, I.bare, I.base, I.loc, I.cell, I.free, I.freeC, fun p hp => I.pin p (List.mem_append_left _ hp), I.hok, I.len⟩
theorem gone_ok {M : Model} {A : Around} {E : Value → Shared → Prop} {i : Nat} {n : Str} {pos : Pos} {Q : Unit → Shared → Prop} (I : Inv X pins σ H s) (hN : X.N.Nodup) (hi : X.N[i]? = some n) (hk : X.env.kindOf n = some .local)
    (h : ∀ s', Inv X pins (σ.set i none) H s' → Q () s') : wpAny M A (do bindName X.env n .none; unbindBehindTheSuite X.env n pos) Q E s := by
  have hcls : (X.env.scope.kind == .class || (X.env.scope.kind == .module && X.env.locals != X.env.globals)) = false := by rw [I.ok.kind]; rfl
  obtain ⟨m, hn, hl⟩ := id I.loc
  refine wpAny_bind (wpAny_bindName (wpAny_storeName_local hk hn (fun h1 hn1 hs1 => ?_) hcls))
  unfold unbindBehindTheSuite
  refine wpAny_onRaise ?_
  unfold unbindName
  refine wpAny_bind (wpAny_point (wpAny_bind ?_))
  unfold deleteName
  simp only [hk, hcls]
  rw [if_neg (by decide)]
  refine wpAny_bind (wpAny_nsDel_keeps hn1 fun h2 v hn2 hs2 => ?_)
  simp only [if_true, Option.isSome_some, Bool.not_true, Bool.false_eq_true, if_false]
  have hs := hs1.trans hs2
  have cne := I.cne
  obtain ⟨oL, _, _, hoL, _⟩ := id hn
  refine wpAny_pure (wpAny_point (h _ ⟨I.ok, I.os, I.bare, ⟨fun b o q z hb hx => ?_, fun b o q z hb hx => ?_, I.base.free, fun b o q hx => ?_, I.base.tups, I.base.frzs, I.base.tbls⟩, ⟨_, hn2, fun j y v' e1 e2 e3 => ?_⟩, fun y c q => ?_, I.free, I.freeC, fun p hp => ?_, fun b ob q => ?_, by rw [List.length_set]; exact I.len⟩))
  · exact (hs.2 b (Nat.ne_of_lt (Nat.lt_of_lt_of_le (Heap.lt_size q) I.ok.above))).trans (I.base.keep b o q z hb hx)
  · obtain ⟨sl, q1⟩ := I.base.slot b o q z hb hx
    exact ⟨sl, (hs.2 b (Nat.ne_of_lt (Nat.lt_of_lt_of_le (Heap.lt_size q) I.ok.above))).trans q1⟩
  · obtain ⟨o', q1⟩ := I.base.there b o q hx
    exact ⟨o', (hs.2 b (Nat.ne_of_lt (Nat.lt_of_lt_of_le (Heap.lt_size q) I.ok.above))).trans q1⟩
  · have hj : j ≠ i := fun z => by
      subst z
      by_cases hlt : j < σ.length
      · rw [List.getElem?_set_self hlt] at e2; cases e2
      · rw [List.getElem?_eq_none (by rw [List.length_set]; lia)] at e2; cases e2
    rw [List.getElem?_set_ne (Ne.symm hj)] at e2
    have hy : y ≠ n := fun z => hj (nodup_ix hN e1 (z ▸ hi))
    obtain ⟨u', r', q⟩ := hl j y v' e1 e2 e3
    refine ⟨u', r', ?_⟩
    rcases q with ⟨k, q⟩ | ⟨k, c, q, z⟩
    · exact .inl ⟨k, by simp [hy, q]⟩
    · exact .inr ⟨k, c, q, z.sameBut hs (cne y c q)⟩
  · obtain ⟨w', z⟩ := I.cell y c q
    exact ⟨w', z.sameBut hs (cne y c q)⟩
  · obtain ⟨q, z, ne, nf, d⟩ := I.pin p hp
    exact ⟨(hs.2 p.1 ne).trans q, z, ne, nf, d⟩
  · refine (I.hok b ob q).stay (fun c w' hc z => (hs.2 c ?_).trans z) (fun _ z => z) fun _ _ z => z
    rintro rfl
    rcases hc with rfl | hc
    · rw [I.free] at q; cases q
    · rw [I.free] at hc; cases hc
end
noncomputable def tTry (K : PySem.W.Frag) (L : List Str) (i : Nat) (tb : XK → TS) (ts : TS) : TS := fun D σ H =>
  tb (fun cls _ H' => ∃ N C, N ∈ L ∧ cls = .ref C ∧ PySem.W.nsIn K mainGlobals N = some (some (.ref C)) ∧ ∀ e, H' e = none →
    ts { nx := fun σ' H2 => D.nx (σ'.set i none) H2, rt := fun _ _ => False } ((List.replicate σ.length none).set i (some (.ref e))) (upd H' e (excO C e))) D σ H
section
variable {X : Cx} {body suite : List Stmt} {b0 : Stmt} {x n : Str} {i : Nat} {L : List Str} {tb : XK → TS} {ts : TS} {np hp pos : Pos}
theorem ps_try (hst : X.stack = X.env :: X.outer) (hfr : X.env.frame = some X.env.locals) (hN : X.N.Nodup) (hi : X.N[i]? = some n) (hl : X.env.kindOf n = some .local) (hm : ∃ T : Addr, X.mg x = some (.ref T) ∧ ∀ N ∈ L, ∀ C : Addr, PySem.W.nsIn X.K mainGlobals N = some (some (.ref C)) → PySem.W.exmOne X.K (.ref C) (.ref T) = some true) (hg : Gl X x)
    (hb : ∀ (ps : List (Addr × Obj)) (W : Value → Shared → Prop) (E : XK), Passes (CXe X.prog X.w) ((X.pin ps).wish W) E → PSs ((X.pin ps).wish W) body (tb E)) (hs : ∀ e, PSs (X.hold e) (b0 :: suite) ts) (hdb : (x == ("__debug__" : Str)) = false := by decide)
    (hf : X.fn n = true ∨ X.env.scope.names.lookup n = some .local := by first | exact .inl rfl | exact .inr rfl | assumption) :
    PS X (.Try body [.ExceptHandler (some (.Name x np)) (some n) (b0 :: suite) hp] [] [] pos) (tTry X.K L i tb ts) := by
  intro pins s σ H D I h
  have hlen : σ.length = X.N.length := I.len
  refine wpAny_Try_except ?_
  refine wpAny_mono (hb pins (fun v s1 => wpAny (model X.prog X.w) X.A (noteFrame v X.env) (fun _ s2 => wpAny (model X.prog X.w) X.A (setFlight v none) (fun _ s3 => wpAny (model X.prog X.w) X.A (handleBy v X.env [.ExceptHandler (some (.Name x np)) (some n) (b0 :: suite) hp]) (SP X pins D) X.xe s3) X.xe s2) X.xe s1) _ ?_ [] s σ H D (I.toPin.wish _) h) (fun f s1 q => ?_) fun _ _ z => z
  · intro ps σ1 H1 s1 v s' J hx
    obtain ⟨e, cls, a0, H', B, rfl, ho, hgn, un, hok, hE, fl, k1, k2⟩ := hx
    obtain ⟨M, C, hM, rfl, hC, hh⟩ := hE
    obtain ⟨T, hm, hmt⟩ := hm
    have hmt := hmt M hM C hC
    have J1 : Inv X pins σ1 H1 s1 := Inv.ofPin I.ok J.unwish
    have J1 : Inv X pins (List.replicate X.N.length none) H1 s1 := J1.weak (by rw [List.length_replicate, J1.len]) fun j v' q => by
      rw [List.getElem?_replicate] at q
      split at q <;> cases q
    have fl : Heap.FlyingW B (X.env :: X.outer) e (.ref C) a0 s'.heap := hst ▸ fl
    have hfrm : X.A.frames = some (X.env :: X.outer) := by rw [I.ok.frames, hst]
    refine wpAny_looks_onW hfrm hfr fl fun h4 held sm4 => ?_
    refine wpAny_landsW held fun h5 fl5 sm5 => ?_
    have sm5 := sm4.trans sm5
    -- the state ahead of the clause
    have J5 : Inv X pins (List.replicate X.N.length none) H' { s' with heap := h5 } := J1.call' ho (fly_un un k2 J1.nfS J1.stkFree fl.1 fl5.1 sm5) (hok_fly hok fl.1 fl5.1 k1) hgn (fun b z => by cases z)
    obtain ⟨oe, vs, he, hc, hd, _⟩ := fl5.first
    refine wpAny_handleBy_cons (codeAny_handlers_test (ld_glob (X := X.hold e) (J5.hold e) hg hm ?_ hdb)) (by intro z; cases z)
    have LT : PySem.W.Looks (model X.prog X.w) h5 (typeOf (.ref e)) (.ref C) := hc ▸ (PySem.W.Looks.ld he).andThen .now
    refine (PySem.W.exm_one (J5.kIn) LT hmt).here ?_
    refine codeAny_handlers_suite_as ?_
    refine lands_againW fl5 fun h6 fl6 sm6 => ?_
    have sm6 := sm5.trans sm6
    obtain ⟨oe, vs, he, hc, hd, _⟩ := fl6.first
    have heB : H' e = none := by
      cases q : H' e with
      | none => rfl
      | some u =>
        obtain ⟨o, q1⟩ := k1 e u q
        rw [fl6.2.1] at q1
        cases q1
    have un6 := fly_un un k2 J1.nfS J1.stkFree fl.1 fl6.1 sm6
    have hnew : ∀ b o, s1.heap.get? b = some o → b ≠ e := fun b o q z => by
      subst z
      by_cases hz : b ∈ frs X.stack
      · obtain ⟨sl, q2⟩ := un6.slot b o q (J1.stkFree b hz) hz (by intro y; cases y)
        rw [he] at q2
        cases q2
        exact J1.nfS b hz o q _ hd
      · obtain ⟨o', q1⟩ := k2 b o q hz
        rw [fl6.2.1] at q1
        cases q1
    have J6 : Inv X pins (List.replicate X.N.length none) (upd H' e (excO C e)) { s' with heap := h6 } := by
      refine J1.call' ho (ch := []) ⟨un6.keep, un6.slot, fun b o q z y => ?_, un6.there, fun b xs q => ?_, fun b o u q => ?_, fun b ps' q => ?_⟩ (fun b u q => ?_) hgn (fun b z => by cases z)
      · rw [upd_ne (hnew b o q)]; exact un6.free b o q z y
      · have := un6.tups b xs q; rw [upd_ne (ne_of_none this heB)]; exact this
      · have := un6.frzs b o u q; rw [upd_ne (ne_of_none this heB)]; exact this
      · obtain ⟨mr, this⟩ := un6.tbls b ps' q; exact ⟨mr, by rw [upd_ne (ne_of_none this heB)]; exact this⟩
      · have hok6 := hok_fly hok fl.1 fl6.1 k1
        by_cases hbe : b = e
        · subst hbe
          rw [upd_same] at q
          cases q
          refine ⟨⟨oe, vs, he, hc, hd⟩, ⟨oe, he⟩, fun h1 h2 ⟨o1, v1, z1, z2, z3⟩ kk => ⟨o1, v1, kk _ z1, z2, z3⟩⟩
        · rw [upd_ne hbe] at q
          exact (hok6 b u q).stay (fun _ _ _ z => z) (fun c z => by rw [upd_ne (ne_of_none z heB)]; exact z) fun c xs z => by rw [upd_ne (ne_of_none z heB)]; exact z
    refine store_ok (X := X.hold e) (J6.hold e) hN hi (.inl hl) (v := .ref e) rfl (fun s7 J7 => ?_) hf
    refine wpAny_mono (hs e pins s7 _ _ _ J7 (by rw [hlen] at hh; exact hh e heB)) (fun f s8 q => ?_) fun _ _ z => z.elim
    cases f with
    | next =>
      obtain ⟨σ8, H8, J8, q8⟩ := q
      exact gone_ok (Inv.unhold I.ok J8) hN hi hl fun s9 J9 => ⟨_, H8, J9, q8⟩
    | brk => obtain ⟨_, _, _, z⟩ := q; exact z.elim
    | cont => obtain ⟨_, _, _, z⟩ := q; exact z.elim
    | ret u => obtain ⟨_, _, _, _, _, z⟩ := q; exact z.elim
  · have q : SP X pins D f s1 := by
      have q := q.unwish
      cases f with
      | next => obtain ⟨σ', H', J, z⟩ := q; exact ⟨σ', H', Inv.ofPin I.ok J, z⟩
      | brk => obtain ⟨σ', H', J, z⟩ := q; exact ⟨σ', H', Inv.ofPin I.ok J, z⟩
      | cont => obtain ⟨σ', H', J, z⟩ := q; exact ⟨σ', H', Inv.ofPin I.ok J, z⟩
      | ret u => obtain ⟨v, σ', H', J, r, z⟩ := q; exact ⟨v, σ', H', Inv.ofPin I.ok J, r, z⟩
    cases f with
    | next => exact wpAny_execs_nil q
    | brk => exact q
    | cont => exact q
    | ret u => exact q
end
end L2
namespace L2
open PySem PySem.Spec PyProof.Rows
noncomputable def AnsX (K : PySem.W.Frag) (ans : List (Str × Bool)) (u : Value) : Prop := ∀ N b, ans.lookup N = some b → ∀ C : Addr, PySem.W.nsIn K mainGlobals N = some (some (.ref C)) → XCls K C ∧ PySem.W.kitOne K (.ref C) u = some b
theorem ansX_nil {K : PySem.W.Frag} {u : Value} : AnsX K [] u := fun N b h => by cases h
theorem ansX_cons {K : PySem.W.Frag} {u : Value} {N : Str} {b0 : Bool} {ans : List (Str × Bool)} (h0 : ∀ C : Addr, PySem.W.nsIn K mainGlobals N = some (some (.ref C)) → XCls K C ∧ PySem.W.kitOne K (.ref C) u = some b0) (h : AnsX K ans u) : AnsX K ((N, b0) :: ans) u := fun M b hl C hC => by
  rw [List.lookup] at hl
  split at hl
  · rename_i hb
    have e : M = N := by simpa using hb
    subst e
    cases hl
    exact h0 C hC
  · exact h M b hl C hC
noncomputable def rIsX (K : PySem.W.Frag) (ans : List (Str × Bool)) (vv : V) : List V → Hp → VK → Prop := fun xs H Q => ∃ e C N b, xs = [.ref e, vv] ∧ H e = some (excO C e) ∧ PySem.W.nsIn K mainGlobals N = some (some (.ref C)) ∧ ans.lookup N = some b ∧ Q (.bl b) H
noncomputable def tIsX (K : PySem.W.Frag) (i : Nat) (ans : List (Str × Bool)) : TE := fun σ H Q => ∃ e C N b, σ[i]? = some (some (.ref e)) ∧ H e = some (excO C e) ∧ PySem.W.nsIn K mainGlobals N = some (some (.ref C)) ∧ ans.lookup N = some b ∧ Q (.bl b) H
noncomputable def tIsXs (K : PySem.W.Frag) (i : Nat) : List (List (Str × Bool)) → TA
  | [] => tNil
  | a :: l => tCons (tIsX K i a) (tIsXs K i l)
section
variable {X : Cx} {e : Expr} {pos p p' : Pos} {i : Nat} {N : Str} {ans : List (Str × Bool)} {vv : V} {u : Value}
theorem call_isX (hv : ∀ v, RelV vv v → v = u) (hc : AnsX X.K ans u) : CallR X (.builtin "isinstance") (rIsX X.K ans vv) := by
  intro pins s σ H xs us Q I r h
  obtain ⟨a, C, N, b, rfl, ea, hC, hb, q⟩ := h
  obtain ⟨u1, v, rfl, r1, r2⟩ := Vals.two r
  have eu : u1 = Value.ref a := r1
  subst eu
  have ev := hv v r2
  subst ev
  obtain ⟨c, hk⟩ := hc N b hb C hC
  exact PySem.W.kia_one (kitx_exc c) I.kIn (I.hok a _ ea).1 hk (fun z => nomatch z) fun tk => ⟨.bl b, H, I.tok _, rfl, q⟩
theorem isX_tc {K : PySem.W.Frag} {σ : St} {H : Hp} {Q : VK} (h : tIsX K i ans σ H Q) : tCB (rIsX K ans vv) (tCons (tVar i) (tCons (tC vv) tNil)) σ H Q := by
  obtain ⟨a, C, N, b, h1, ea, hC, hb, q⟩ := h
  exact ⟨.ref a, h1, a, C, N, b, rfl, ea, hC, hb, q⟩
theorem pe_isX (h : ∃ T : Addr, X.mg N = some (.ref T) ∧ AnsX X.K ans (.ref T)) (hg : Gl X "isinstance") (hm : X.mg "isinstance" = none) (gT : Gl X N) (he : PE X e (tVar i)) (hdb : (N == ("__debug__" : Str)) = false := by decide)
    (h1 : starEach [e, .Name N p'] X.env = (false, eval e X.env) :: starEach [.Name N p'] X.env := by rfl) (h2 : starEach [.Name N p'] X.env = (false, eval (.Name N p') X.env) :: starEach [] X.env := by rfl) (hpl : (backTo pos (starEach [.Name N p'] X.env)).any (·.1) = false := by rfl) :
    PE X (.Call (.Name "isinstance" p) [e, .Name N p'] [] pos) (tIsX X.K i ans) := by
  obtain ⟨T, k2, k3⟩ := h
  exact fun a b c d q I h => pe_callB (call_isX (vv := .ref T) (fun v r => r) k3) hg hm bt_isinstance (pa_cons he (pa_cons (pe_glob (v := .ref T) gT k2 rfl hdb) pa_nil h2) h1) (by decide) (by decide) h1 hpl a b c d q I (isX_tc h)
theorem pe_isXB {M : String} (k2 : X.mg N = none) (hv : bootBuiltins N = some (.type M)) (k3 : AnsX X.K ans (.type M)) (hg : Gl X "isinstance") (hm : X.mg "isinstance" = none) (gT : Gl X N) (he : PE X e (tVar i)) (hn : N ≠ "__name__" := by decide) (hdb : (N == ("__debug__" : Str)) = false := by decide)
    (h1 : starEach [e, .Name N p'] X.env = (false, eval e X.env) :: starEach [.Name N p'] X.env := by rfl) (h2 : starEach [.Name N p'] X.env = (false, eval (.Name N p') X.env) :: starEach [] X.env := by rfl) (hpl : (backTo pos (starEach [.Name N p'] X.env)).any (·.1) = false := by rfl) :
    PE X (.Call (.Name "isinstance" p) [e, .Name N p'] [] pos) (tIsX X.K i ans) :=
  fun a b c d q I h => pe_callB (call_isX (vv := .ty M) (fun v r => r) k3) hg hm bt_isinstance (pa_cons he (pa_cons (pe_bltn (v := .ty M) gT k2 hv rfl hn hdb) pa_nil h2) h1) (by decide) (by decide) h1 hpl a b c d q I (isX_tc h)
theorem pss_stop {st : Stmt} {rest : List Stmt} {t : TS} (h : PS X st t) : PSs X (st :: rest) (fun D => t { D with nx := fun _ _ => False }) := by
  intro pins s σ H D I q
  refine wpAny_execs_cons (thn (h pins s σ H _ I q) fun f s1 z => ?_)
  cases f with
  | next => obtain ⟨_, _, _, y⟩ := z; exact y.elim
  | brk => exact z
  | cont => exact z
  | ret u => exact z
noncomputable def tMakeX (K : PySem.W.Frag) (N : Str) (sp : Sp) (E : XK) (t : TA) : TE := fun σ H Q => ∀ C, PySem.W.nsIn K mainGlobals N = some (some (.ref C)) → tMake C sp [] E t σ H Q
theorem pe_makeX {x : Str} {k : Nat} {g C : Addr} {fd : FuncData} {ps : List Str} {sp : Sp} {E : XK} {CX : CXT} {es : List Expr} {t : TA} (hn : PySem.W.nsIn X.K mainGlobals x = some (some (.ref C))) (M : Mk X.K C g) (F : FnOk X.prog X.w X.K X.mg X.base CX k g fd ps sp) (hr : Room (k + 1) X.A) (hg : Gl X x) (hm : X.mg x = some (.ref C)) (hb : Binds X.K fd ps []) (hx : Passes CX X E) (ha : PA X (e :: es) t)
    (hdb : (x == ("__debug__" : Str)) = false := by decide) (he : starEach (e :: es) X.env = (false, eval e X.env) :: starEach es X.env := by rfl) (hpl : (backTo pos (starEach es X.env)).any (·.1) = false := by rfl) : PE X (.Call (.Name x p) (e :: es) [] pos) (tMakeX X.K x sp E t) := fun a b c d q I h =>
  pe_make M F hr hg hm hb .nil hx ha hdb he hpl a b c d q I (h C hn)
theorem bt_abs : bootBuiltins "abs" = some (.builtin "abs") := by decide +kernel
noncomputable def rAbs : List V → Hp → VK → Prop := fun xs H Q => ∃ i, xs = [.int i] ∧ Q (.int (if i < 0 then -i else i)) H
theorem call_absM : CallR X (.builtin "abs") rAbs := call_abs
theorem Fun.okX {P : Program} {w : World} {K : PySem.W.Frag} {mg : Str → Option Value} {base : Heap} {x qual : Str} {st : Stmt} {f : Addr} {fd : FuncData} {N ps : List Str} {k : Nat} {sp : Sp} (F : Fun K x qual st f fd) (S : FnScope N ps (defScope st)) (len : ∀ vs H Q E, sp vs H Q E → vs.length = ps.length)
    (hbody : ∀ (cdv : Value) (A : Around) (outer : List Env) (s : Shared) (H : Hp) (vs : List V) (Q : VK) (E : XK), Room k (A.deeper (envOfC qual (defScope st) s.heap.objs.size f cdv)) → sp vs H Q E →
      ∃ t, PSs (cxOf (CXe P w) P w K mg base N qual (defScope st) f cdv A outer s H E) (defBody st) t ∧ t { nx := fun _ H' => Q .non H', rt := Q } (start N vs) H) : FnOk P w K mg base (CXe P w) (k + 1) f fd ps sp := by
  obtain ⟨oc, od, kV, doc, pm, an, cdv, ct, osl, rfl, lk, hcd⟩ := F.ex
  exact fn_of lk hcd S len fun A outer s H vs Q E hr hsp => hbody cdv A outer s H vs Q E hr hsp
end
end L2
namespace M
open PySem L2
section
variable {K : PySem.W.Frag} {S S' H H' : Hp}
noncomputable def bAbs : List D → Option D
  | [.int i] => some (.int (if i < 0 then -i else i))
  | _ => none
theorem b_abs : SRB K rAbs bAbs := fun S H vs ds g Q s h x k => by
  match ds, x with
  | [.int i], x =>
    cases x
    cases h with
    | cons a b =>
      cases b
      exact ⟨i, by rw [a.int], k _ S H (Ext.refl s) (den_int.mpr rfl)⟩
inductive RO where
  | rz (N : Str) | nx (ρ : Env)
noncomputable abbrev XR := Env → Option RO
noncomputable def XDone (K : PySem.W.Frag) (A S : Hp) (E : XK) (N : Str) : Prop := ∀ C S' H', Same S S' → Same S' H' → Same A H' → (∀ b, S' b = none ∨ A b = none) → PySem.W.nsIn K mainGlobals N = some (some (.ref C)) → E (.ref C) none H'
theorem XDone.mono {A : Hp} {E : XK} {N : Str} (s : Same S S') (h : XDone K A S E N) : XDone K A S' E N := fun C S1 H1 z => h C S1 H1 (s.trans z)
noncomputable def DoneX (K : PySem.W.Frag) (A : Hp) (Λ : Nat → Option Addr) (S : Hp) (E : XK) (D : Ends) : RO → Prop
  | .rz N => XDone K A S E N
  | .nx ρ => ∀ σ' S' H', RlA K A Λ ρ σ' S' H' → Same S S' → D.nx σ' H'
theorem DoneX.mono {A : Hp} {Λ : Nat → Option Addr} {E : XK} {D : Ends} {o : RO} (s : Same S S') (h : DoneX K A Λ S E D o) : DoneX K A Λ S' E D o := by
  cases o with
  | rz N => exact XDone.mono s h
  | nx ρ => exact fun σ1 S1 H1 r z => h σ1 S1 H1 r (s.trans z)
noncomputable def SX (K : PySem.W.Frag) (E : XK) (t : TS) (m : XR) : Prop := ∀ A Λ ρ σ S H (D : Ends) o, RlA K A Λ ρ σ S H → m ρ = some o → DoneX K A Λ S E D o → t D σ H
noncomputable def SXE (K : PySem.W.Frag) (E : XK) (t : TE) (m : Env → Option Str) : Prop := ∀ A Λ ρ σ S H (Q : VK) N, RlA K A Λ ρ σ S H → m ρ = some N → XDone K A S E N → t σ H Q
variable {E : XK}
@[simp] noncomputable def xrNext : XR := fun ρ => some (.nx ρ)
theorem sx_next : SX K E tNext xrNext := fun A Λ ρ σ S H D o r x k => by cases x; exact k σ S H r (Same.refl _)
@[simp] noncomputable def xrRaise (N : Str) : XR := fun _ => some (.rz N)
theorem sx_raise {N : Str} {v : V} : SX K E (tRaise K N (tC v) E) (xrRaise N) := fun A Λ ρ σ S H D o r x k => by
  cases x
  exact fun C hC => ⟨rfl, k C S H (Same.refl _) r.sub r.asub r.adis hC⟩
@[simp] noncomputable def xrIf (c : XT) (m n : XR) : XR := fun ρ => (c ρ).bind fun b => if b = true then m ρ else n ρ
theorem sx_if {tc : TT} {t u : TS} {c : XT} {m n : XR} (hc : ST K tc c) (ht : SX K E t m) (hu : SX K E u n) : SX K E (tIfS tc t u) (xrIf c m n) := fun A Λ ρ σ S H D o r x k => by
  unfold xrIf at x
  cases qc : c ρ with
  | none => rw [qc] at x; cases x
  | some q =>
    rw [qc] at x
    dsimp only [Option.bind] at x
    refine hc ρ σ S H _ q r.toRl qc fun S1 H1 z1 => ?_
    cases q with
    | true => exact iteT (ht A Λ ρ σ S1 H1 D o (r.ext z1) (by simpa using x) (k.mono z1.sh))
    | false => exact iteF (hu A Λ ρ σ S1 H1 D o (r.ext z1) (by simpa using x) (k.mono z1.sh))
@[simp] noncomputable def xrSeq (m n : XR) : XR := fun ρ => (m ρ).bind fun o => match o with | .nx ρ' => n ρ' | .rz N => some (.rz N)
theorem sx_seq {t u : TS} {m n : XR} (ht : SX K E t m) (hu : SX K E u n) : SX K E (tSeq t u) (xrSeq m n) := fun A Λ ρ σ S H D o r x k => by
  unfold xrSeq at x
  cases q : m ρ with
  | none => rw [q] at x; cases x
  | some om =>
    rw [q] at x
    dsimp only [Option.bind] at x
    refine ht A Λ ρ σ S H _ om r q ?_
    cases om with
    | nx ρ' => exact fun σ' S' H' r' z => hu A Λ ρ' σ' S' H' D o r' x (k.mono z)
    | rz N => cases x; exact k
@[simp] noncomputable def xrStop (m : XR) : XR := fun ρ => (m ρ).bind fun o => match o with | .nx _ => none | .rz N => some (.rz N)
theorem sx_stop {t : TS} {m : XR} (ht : SX K E t m) : SX K E (fun D => t { D with nx := fun _ _ => False }) (xrStop m) := fun A Λ ρ σ S H D o r x k => by
  unfold xrStop at x
  cases q : m ρ with
  | none => rw [q] at x; cases x
  | some om =>
    rw [q] at x
    dsimp only [Option.bind] at x
    cases om with
    | nx ρ' => cases x
    | rz N => cases x; exact ht A Λ ρ σ S H _ _ r q k
@[simp] noncomputable def xrE (m : Env → Option Str) : XR := fun ρ => (m ρ).map .rz
theorem sx_ret {t : TE} {m : Env → Option Str} (h : SXE K E t m) : SX K E (tRet t) (xrE m) := fun A Λ ρ σ S H D o r x k => by
  unfold xrE at x
  cases q : m ρ with
  | none => rw [q] at x; cases x
  | some N => rw [q] at x; cases x; exact h A Λ ρ σ S H _ N r q k
theorem sx_drop {t : TE} {m : Env → Option Str} (h : SXE K E t m) : SX K E (tDrop t) (xrE m) := fun A Λ ρ σ S H D o r x k => by
  unfold xrE at x
  cases q : m ρ with
  | none => rw [q] at x; cases x
  | some N => rw [q] at x; cases x; exact h A Λ ρ σ S H _ N r q k
noncomputable def spX (K : PySem.W.Frag) (n : Nat) (m : List D → Option Str) : Sp := fun vs H _ E => vs.length = n ∧ ∃ S ds N, Same S H ∧ Dens K S ds vs ∧ m ds = some N ∧ ∀ C S' H', Ext S H S' H' → PySem.W.nsIn K mainGlobals N = some (some (.ref C)) → E (.ref C) none H'
theorem ext_of {A S H S1 H1 : Hp} {Λ : Nat → Option Addr} {ρ : Env} {σ : St} (r : RlA K A Λ ρ σ S H) (z : Ext S H S1 H1) : Same S S1 ∧ Same S1 H1 ∧ Same A H1 ∧ ∀ b, S1 b = none ∨ A b = none := ⟨z.sh, z.sub, (r.ext z).asub, (r.ext z).adis⟩
@[simp] noncomputable def xeCall (m : List D → Option Str) (a : XA) : Env → Option Str := fun ρ => (a ρ).bind m
theorem sxe_call {n : Nat} {m : List D → Option Str} {t : TA} {a : XA} (h : SA K t a) (hn : ∀ ρ ds, a ρ = some ds → ds.length = n) : SXE K E (tCall (spX K n m) [] E t) (xeCall m a) := fun A Λ ρ σ S H Q N r x k => by
  unfold xeCall at x
  cases q : a ρ with
  | none => rw [q] at x; cases x
  | some ds =>
    rw [q] at x
    refine h ρ σ S H _ ds r.toRl q fun vs S1 H1 z1 d1 => ?_
    rw [List.append_nil]
    refine ⟨by rw [← d1.length]; exact hn ρ ds q, S1, ds, N, z1.sub, d1, x, fun C S2 H2 z2 hC => ?_⟩
    obtain ⟨e1, e2, e3, e4⟩ := ext_of r (z1.trans z2)
    exact k C S2 H2 e1 e2 e3 e4 hC
noncomputable def spXI (K : PySem.W.Frag) (n : Nat) (m : List D → Option Str) : Sp := fun vs H _ E => vs.length = n + 1 ∧ ∃ x rest S ds N, vs = x :: rest ∧ Same S H ∧ Dens K S ds rest ∧ m ds = some N ∧ ∀ C S' H', Ext S H S' H' → PySem.W.nsIn K mainGlobals N = some (some (.ref C)) → E (.ref C) none H'
theorem sxe_make {n : Nat} {M : Str} {m : List D → Option Str} {t : TA} {a : XA} (h : SA K t a) (hn : ∀ ρ ds, a ρ = some ds → ds.length = n) : SXE K E (tMakeX K M (spXI K n m) E t) (xeCall m a) := fun A Λ ρ σ S H Q N r x k => by
  unfold xeCall at x
  cases q : a ρ with
  | none => rw [q] at x; cases x
  | some ds =>
    rw [q] at x
    intro C0 hC0
    refine h ρ σ S H _ ds r.toRl q fun vs S1 H1 z1 d1 => ?_
    intro o dx ho hdx hne
    rw [List.append_nil]
    have z2 : Ext S1 H1 S1 (upd H1 dx (.own o)) := Ext.own z1.sub hdx
    have z3 : Ext S1 (upd H1 dx (.own o)) S1 (upd (upd H1 dx (.own o)) o (.ins C0 dx [])) := Ext.own z2.sub (by rw [upd_ne (Ne.symm hne)]; exact ho)
    refine ⟨by rw [List.length_cons, ← d1.length, hn ρ ds q], _, vs, S1, ds, N, rfl, z3.sub, d1, x, fun C S2 H2 z4 hC => ?_⟩
    obtain ⟨e1, e2, e3, e4⟩ := ext_of r (((z1.trans z2).trans z3).trans z4)
    exact k C S2 H2 e1 e2 e3 e4 hC
noncomputable def fnX (n : Nat) (m : XR) (ds : List D) : Option Str := match m (ds.map .sh ++ List.replicate (n - ds.length) .un) with
  | some (.rz N) => some N
  | _ => none
theorem ext_al {S1 H1 : Hp} (s1 : Same S S1) (s2 : Same S1 H1) (s3 : Same (alien S H) H1) (s4 : ∀ b, S1 b = none ∨ alien S H b = none) : Ext S H S1 H1 := ⟨s1, s2, fun b o hb hn => by
  have ha := alien_of hb hn
  refine ⟨s3 b o ha, ?_⟩
  rcases s4 b with z | z
  · exact z
  · rw [ha] at z; cases z⟩
theorem rdX_of {t : TS} {m : XR} {N : List Str} {n k : Nat} {vs : List V} {H : Hp} {Q : VK} (hs : SX K E t m) (hN : N.length = n) (h : spX K k (fnX n m) vs H Q E) : t { nx := fun _ H' => Q .non H', rt := Q } (L2.start N vs) H := by
  obtain ⟨_, S, ds, M, s, dd, y, q⟩ := h
  subst hN
  unfold fnX at y
  have r := rl_start (N := N) s dd
  split at y <;> cases y
  rename_i qx
  exact hs _ _ _ _ S H _ _ r qx fun C S' H' s1 s2 s3 s4 hC => q C S' H' (ext_al s1 s2 s3 s4) hC
noncomputable def fnXI (n : Nat) (m : XR) (ds : List D) : Option Str := match m (.un :: (ds.map .sh ++ List.replicate (n - ds.length) .un)) with
  | some (.rz N) => some N
  | _ => none
theorem RlA.un0 {A : Hp} {Λ : Nat → Option Addr} {ρ : Env} {σ : St} {v : Option V} (r : RlA K A (fun _ => none) ρ σ S H) : RlA K A (fun _ => none) (.un :: ρ) (v :: σ) S H := by
  obtain ⟨Φ, f⟩ := r
  refine ⟨fun i => match i with | 0 => [] | j + 1 => Φ j, ?_⟩
  exact {
    len := by rw [List.length_cons, List.length_cons, f.len]
    sub := f.sub
    sh := fun i d h => by cases i with | zero => cases h | succ j => exact f.sh j d (by simpa using h)
    ow := fun i o h => by cases i with | zero => cases h | succ j => exact f.ow j o (by simpa using h)
    dj := fun i j o o' hij h1 h2 => by
      cases i with
      | zero => cases h1
      | succ i =>
        cases j with
        | zero => cases h2
        | succ j => exact f.dj i j o o' (fun z => hij (by rw [z])) (by simpa using h1) (by simpa using h2)
    lo := fun i h => by cases i with | zero => cases h | succ j => obtain ⟨a, z, _⟩ := f.lo j (by simpa using h); cases z
    asub := f.asub
    adis := f.adis }
theorem rdXI_of {t : TS} {m : XR} {N : List Str} {n0 : Str} {n k : Nat} {vs : List V} {H : Hp} {Q : VK} (hs : SX K E t m) (hN : N.length = n) (h : spXI K k (fnXI n m) vs H Q E) : t { nx := fun _ H' => Q .non H', rt := Q } (L2.start (n0 :: N) vs) H := by
  obtain ⟨_, x, rest, S, ds, M, rfl, s, dd, y, q⟩ := h
  subst hN
  unfold fnXI at y
  have r := (rl_start (N := N) s dd).un0 (Λ := fun _ => none) (v := some x)
  have es : L2.start (n0 :: N) (x :: rest) = some x :: L2.start N rest := by
    unfold L2.start
    rw [List.map_cons, List.length_cons, List.length_cons, Nat.add_sub_add_right, List.cons_append]
  rw [es]
  split at y <;> cases y
  rename_i qx
  exact hs _ _ _ _ S H _ _ r qx fun C S' H' s1 s2 s3 s4 hC => q C S' H' (ext_al s1 s2 s3 s4) hC
theorem dens_bl : ∀ bs : List Bool, Dens K S (bs.map D.bl) (bs.map V.bl)
  | [] => .nil
  | b :: bs => .cons (den_bl.mpr rfl) (dens_bl bs)
noncomputable def lookN (N : Str) : List (List (Str × Bool)) → Option (List Bool)
  | [] => some []
  | a :: l => (a.lookup N).bind fun b => (lookN N l).map fun bs => b :: bs
theorem s_isXs {i : Nat} {N : Str} : ∀ {l : List (List (Str × Bool))} {bs : List Bool}, lookN N l = some bs → ∀ σ H (Q : List V → Hp → Prop) e C, σ[i]? = some (some (.ref e)) → H e = some (excO C e) → PySem.W.nsIn K mainGlobals N = some (some (.ref C)) → Q (bs.map V.bl) H → tIsXs K i l σ H Q
  | [], bs, h, σ, H, Q, e, C, _, _, _, q => by cases h; exact q
  | a :: l, bs, h, σ, H, Q, e, C, h1, h2, h3, q => by
    unfold lookN at h
    cases qa : a.lookup N with
    | none => rw [qa] at h; cases h
    | some b =>
      rw [qa] at h
      cases ql : lookN N l with
      | none => rw [ql] at h; cases h
      | some bs' =>
        rw [ql] at h
        cases h
        exact ⟨e, C, N, b, h1, h2, h3, qa, s_isXs ql σ H _ e C h1 h2 h3 q⟩
noncomputable def tSets (K : PySem.W.Frag) (i : Nat) : List (Nat × List (List (Str × Bool))) → TS
  | [] => tNext
  | [p] => tAsg (tLst (tIsXs K i p.2)) (gName p.1)
  | p :: l => tSeq (tAsg (tLst (tIsXs K i p.2)) (gName p.1)) (tSets K i l)
noncomputable def hSets (i : Nat) (N : Str) : List (Nat × List (List (Str × Bool))) → Env → Option Env
  | [], ρ => some ρ
  | p :: l, ρ => if p.1 = i then none else (lookN N p.2).bind fun bs => if bs.length ≤ 1000 then hSets i N l (ρ.set p.1 (.sh (.lst (bs.map .bl)))) else none
noncomputable def SU (K : PySem.W.Frag) (i : Nat) (N : Str) (t : TS) (f : Env → Option Env) : Prop := ∀ A Λ ρ σ S H (D : Ends) e C ρ', RlA K A Λ ρ σ S H → f ρ = some ρ' → σ[i]? = some (some (.ref e)) → H e = some (excO C e) → PySem.W.nsIn K mainGlobals N = some (some (.ref C)) →
  (∀ σ' S' H', RlA K A Λ ρ' σ' S' H' → Same S S' → σ'[i]? = some (some (.ref e)) → H' e = some (excO C e) → D.nx σ' H') → t D σ H
theorem su_one {i : Nat} {N : Str} (p : Nat × List (List (Str × Bool))) : SU K i N (tAsg (tLst (tIsXs K i p.2)) (gName p.1)) (hSets i N [p]) := fun A Λ ρ σ S H D e C ρ' r hf h1 h2 h3 k => by
  unfold hSets at hf
  split at hf
  · cases hf
  · rename_i hij
    cases ql : lookN N p.2 with
    | none => rw [ql] at hf; cases hf
    | some bs =>
      rw [ql] at hf
      dsimp only [Option.bind] at hf
      split at hf
      · rename_i hl
        cases hf
        refine s_isXs ql σ H _ e C h1 h2 h3 ⟨by rw [List.length_map]; exact Nat.le_trans hl (by rw [sizeLine_eq]; decide), fun a ha => ?_⟩
        have z : Ext S H (upd S a (.lst (bs.map V.bl))) (upd H a (.lst (bs.map V.bl))) := Ext.new r.sub ha
        refine k _ (upd S a (.lst (bs.map V.bl))) _ ((r.ext z).set p.1 (den_lst.mpr ⟨a, bs.map V.bl, rfl, .inl upd_same, dens_bl bs⟩)) z.sh ?_ ?_
        · rw [List.getElem?_set_ne hij]; exact h1
        · rw [upd_ne (ne_of_none h2 ha)]; exact h2
      · cases hf
theorem hSets_cons {i : Nat} {N : Str} {p : Nat × List (List (Str × Bool))} {l : List (Nat × List (List (Str × Bool)))} {ρ ρ' : Env} (h : hSets i N (p :: l) ρ = some ρ') : ∃ ρ1, hSets i N [p] ρ = some ρ1 ∧ hSets i N l ρ1 = some ρ' := by
  rw [hSets] at h
  split at h
  · cases h
  · rename_i hij
    cases ql : lookN N p.2 with
    | none => rw [ql] at h; cases h
    | some bs =>
      rw [ql] at h
      dsimp only [Option.bind] at h
      split at h
      · rename_i hl
        refine ⟨ρ.set p.1 (.sh (.lst (bs.map .bl))), ?_, h⟩
        rw [hSets, if_neg hij, ql]
        show (if bs.length ≤ 1000 then _ else none) = _
        rw [if_pos hl]
        rfl
      · cases h
theorem su_sets {i : Nat} {N : Str} : ∀ l : List (Nat × List (List (Str × Bool))), SU K i N (tSets K i l) (hSets i N l)
  | [] => fun A Λ ρ σ S H D e C ρ' r hf h1 h2 h3 k => by cases hf; exact k σ S H r (Same.refl _) h1 h2
  | [p] => su_one p
  | p :: q :: l => fun A Λ ρ σ S H D e C ρ' r hf h1 h2 h3 k => by
    obtain ⟨ρ1, f1, f2⟩ := hSets_cons hf
    refine su_one p A Λ ρ σ S H _ e C ρ1 r f1 h1 h2 h3 fun σ' S' H' r' z a b => ?_
    exact su_sets (q :: l) A Λ ρ1 σ' S' H' D e C ρ' r' f2 a b h3 fun σ2 S2 H2 r2 z2 a2 b2 => k σ2 S2 H2 r2 (z.trans z2) a2 b2
theorem RlA.drop {A : Hp} {Λ : Nat → Option Addr} {ρ : Env} {σ : St} (r : RlA K A Λ ρ σ S H) (i : Nat) : RlA K A Λ (ρ.set i .un) (σ.set i none) S H := by
  obtain ⟨Φ, f⟩ := r
  have ge : ∀ (j : Nat) t, (ρ.set i .un)[j]? = some t → t ≠ .un → j ≠ i ∧ ρ[j]? = some t := fun j t h n => by
    rcases set_inv h with ⟨_, e, _⟩ | ⟨hij, h⟩
    · exact absurd e n
    · exact ⟨Ne.symm hij, h⟩
  exact ⟨Φ, {
    len := by rw [List.length_set, List.length_set]; exact f.len
    sub := f.sub
    sh := fun j d h => by
      obtain ⟨hj, h⟩ := ge j _ h (by intro z; cases z)
      rw [List.getElem?_set_ne (Ne.symm hj)]
      exact f.sh j d h
    ow := fun j o h => by
      obtain ⟨hj, h⟩ := ge j _ h (by intro z; cases z)
      rw [List.getElem?_set_ne (Ne.symm hj)]
      exact f.ow j o h
    dj := fun j k o o' hjk h1 h2 => f.dj j k o o' hjk (ge j _ h1 (by intro z; cases z)).2 (ge k _ h2 (by intro z; cases z)).2
    lo := fun j h => by
      obtain ⟨hj, h⟩ := ge j _ h (by intro z; cases z)
      rw [List.getElem?_set_ne (Ne.symm hj)]
      exact f.lo j h
    asub := f.asub
    adis := f.adis }⟩
@[simp] noncomputable def xTry (L : List Str) (i : Nat) (m : XR) (l : List (Nat × List (List (Str × Bool)))) : XS := fun ρ => if i < ρ.length then (m ρ).bind fun o => match o with
  | .rz N => if L.contains N then (hSets i N l (ρ.map fun _ => .un)).map fun ρ' => .nx (ρ'.set i .un) else none
  | .nx ρ' => some (.nx ρ') else none
theorem s_try {L : List Str} {i : Nat} {tb : XK → TS} {m : XR} {l : List (Nat × List (List (Str × Bool)))} (hb : ∀ E, SX K E (tb E) m) : SS K (tTry K L i tb (tSets K i l)) (xTry L i m l) := fun A Λ ρ σ S H D o r q k => by
  unfold xTry at q
  split at q <;> try (cases q; done)
  rename_i hi
  cases qm : m ρ with
  | none => rw [qm] at q; cases q
  | some om =>
    rw [qm] at q
    dsimp only [Option.bind] at q
    have hlen : σ.length = ρ.length := by obtain ⟨_, f⟩ := r; exact f.len
    refine hb _ A Λ ρ σ S H D om r qm ?_
    cases om with
    | nx ρ' => cases q; exact k
    | rz N =>
      dsimp only at q
      split at q <;> try (cases q; done)
      rename_i hN
      cases qf : hSets i N l (ρ.map fun _ => .un) with
      | none => rw [qf] at q; cases q
      | some ρ' =>
        rw [qf] at q
        cases q
        intro C S1 H1 s1 s2 s3 s4 hC
        refine ⟨N, C, by simpa using hN, rfl, hC, fun e he => ?_⟩
        have r0 : RlA K A Λ (ρ.map fun _ => Sl.un) ((List.replicate σ.length none).set i (some (.ref e))) S1 (upd H1 e (excO C e)) := by
          have no : ∀ (j : Nat) t, (ρ.map fun _ => Sl.un)[j]? = some t → t = .un := fun j t h => by
            rw [List.getElem?_map] at h
            cases qj : ρ[j]? with
            | none => rw [qj] at h; cases h
            | some _ => rw [qj] at h; cases h; rfl
          exact ⟨fun _ => [], {
            len := by rw [List.length_set, List.length_replicate, List.length_map]; exact hlen
            sub := fun b o h => by rw [upd_ne (ne_of_none (s2 b o h) he)]; exact s2 b o h
            sh := fun j d h => by cases no j _ h
            ow := fun j d h => by cases no j _ h
            dj := fun j _ d _ _ h => by cases no j _ h
            lo := fun j h => by cases no j _ h
            asub := fun b o h => by rw [upd_ne (ne_of_none (s3 b o h) he)]; exact s3 b o h
            adis := s4 }⟩
        refine su_sets l A Λ _ _ S1 _ _ e C ρ' r0 qf (List.getElem?_set_self (by rw [List.length_replicate, hlen]; exact hi)) upd_same hC fun σ' S' H' r' z _ _ => ?_
        exact k _ S' H' (r'.drop i) (s1.trans z)
end
end M
namespace L2
open PySem PySem.Spec PyProof.Rows
section
variable {X : Cx} {tg : Expr}
end
end L2
namespace M
open PySem L2
section
variable {K : PySem.W.Frag} {S S' H H' : Hp}
noncomputable def rngA : List D → Option (List D)
  | [.int i, .int j] => some (intsD i (j - i).toNat)
  | _ => none
@[simp] noncomputable def xRngA (a : XA) : XA := fun ρ => (a ρ).bind rngA
end
end M
namespace Rw
noncomputable abbrev R := List (Int × Int)
noncomputable def Mem (r : R) (x : Int) : Prop := ∃ p ∈ r, p.1 ≤ x ∧ x ≤ p.2
noncomputable def Ok (r : R) : Prop := ∀ p ∈ r, p.1 ≤ p.2
noncomputable def Canon (r : R) : Prop := Ok r ∧ r.Pairwise fun p q => p.2 + 2 ≤ q.1
theorem mem_cons (p : Int × Int) (r : R) (x : Int) : Mem (p :: r) x ↔ (p.1 ≤ x ∧ x ≤ p.2) ∨ Mem r x := by
  constructor
  · rintro ⟨q, h, e⟩
    rcases List.mem_cons.mp h with rfl | h
    · exact .inl e
    · exact .inr ⟨q, h, e⟩
  · rintro (e | ⟨q, h, e⟩)
    · exact ⟨p, List.mem_cons_self, e⟩
    · exact ⟨q, List.mem_cons_of_mem _ h, e⟩
noncomputable def step (acc : R) (p : Int × Int) : R :=
  match acc.getLast? with
  | none => [p]
  | some q => if p.1 ≤ q.2 + 1 then acc.dropLast ++ [(q.1, if p.2 > q.2 then p.2 else q.2)] else acc ++ [p]
noncomputable def IsRow (ps r : R) : Prop := Canon r ∧ ∀ x, Mem r x ↔ Mem ps x
end Rw
namespace Rw
end Rw
namespace P
open PySem L2 M
noncomputable abbrev NS : List Str := ["Box", "Cross", "Shape"]
noncomputable abbrev xNs : List Str := ["NoForm"]
noncomputable abbrev ax_NoBack : List (Str × Bool) := [("NoForm", false)]
noncomputable abbrev ax_NoForm : List (Str × Bool) := [("NoForm", true)]
noncomputable abbrev ax_NoName : List (Str × Bool) := [("NoForm", false)]
noncomputable abbrev ax_NoRow : List (Str × Bool) := [("NoForm", false)]
noncomputable abbrev ax_NoText : List (Str × Bool) := [("NoForm", false)]
noncomputable abbrev ax_TooGreat : List (Str × Bool) := [("NoForm", false)]
noncomputable abbrev ax_TooMany : List (Str × Bool) := [("NoForm", false)]
noncomputable abbrev ax_ValueError : List (Str × Bool) := [("NoForm", true)]
noncomputable def Y_Box___init__ : XR := xrStop (xrIf (xB (xOp (dLt) (xCB bMin4 (xCons (xVarP 1) (xCons (xVarP 2) (xCons (xVarP 3) (xCons (xVarP 4) (xNil)))))) (xC (.int 0)))) (xrRaise "NoForm") (xrNext))
noncomputable def rX_Box___init__ : List D → Option Str := fnXI 4 Y_Box___init__
noncomputable def Y_Cross___init__ : XR := xrStop (xrIf (xB (xOp (dLt) (xVarP 1) (xC (.int 0)))) (xrRaise "NoForm") (xrNext))
noncomputable def rX_Cross___init__ : List D → Option Str := fnXI 1 Y_Cross___init__
noncomputable def Y_Shape___init__ : XR := xrStop (xrIf (xB (xOp (dEq false) (xVarP 1) (xTup (xNil)))) (xrRaise "NoForm") (xrNext))
noncomputable def rX_Shape___init__ : List D → Option Str := fnXI 1 Y_Shape___init__
noncomputable def B__law_many_0 : XS := xAsg (xOp (dAdd) (xOp (dSub) (xOp (dAdd) (xVarP 1) (xVarP 5)) (xVarP 4)) (xC (.int 1))) (xgName 1)
noncomputable def B__law_many_1 : XS := xFor (xIt (xVar 3)) (xgTup (xgCons (xgName 4) (xgCons (xgName 5) (xgNil)))) (B__law_many_0)
noncomputable def X__law_many : XS := xSeq (xAsg (xC (.int 0)) (xgName 1)) (xSeq (xFor (xIt (xVar 0)) (xgTup (xgCons (xgName 2) (xgCons (xgName 3) (xgNil)))) (B__law_many_1)) (xRet (xVar 1)))
noncomputable def mo__law_many : List D → Option O := fnO 6 X__law_many
noncomputable def m__law_many : List D → Option D := fun ds => (mo__law_many ds).map O.d
noncomputable def X_row_moved : XS := xRet (xCB bTuple (xCons (xL (xComp [none, none, some 1] (xIt (xVarP 0)) (xgTup (xgCons (xgName 0) (xgCons (xgName 1) (xgNil)))) (xYes) (xTup (xCons (xOp (dAdd) (xVarP 0) (xVarP 2)) (xCons (xOp (dAdd) (xVarP 1) (xVarP 2)) (xNil)))))) (xNil)))
noncomputable def mo_row_moved : List D → Option O := fnO 2 X_row_moved
noncomputable def m_row_moved : List D → Option D := fun ds => (mo_row_moved ds).map O.d
noncomputable def B_row_of_0 : XS := xIf (xAnd (xTru (xVarP 1)) (xB (xOp (dLe) (xVarP 2) (xOp (dAdd) (xOp dIx (xOp dIx (xVarP 1) (xUn dNeg (xC (.int 1)))) (xC (.int 1))) (xC (.int 1)))))) (xSetP 1 xPv (xUn dNeg (xC (.int 1))) (xTup (xCons (xOp dIx (xOp dIx (xVarP 1) (xUn dNeg (xC (.int 1)))) (xC (.int 0))) (xCons (xCB bMax2 (xCons (xOp dIx (xOp dIx (xVarP 1) (xUn dNeg (xC (.int 1)))) (xC (.int 1))) (xCons (xVarP 3) (xNil)))) (xNil))))) (xAppP 1 (xPv) (xSh (xTup (xCons (xVar 2) (xCons (xVar 3) (xNil))))))
noncomputable def X_row_of : XS := xSeq (xAsgF (xLst (xNil)) 1) (xSeq (xFor (xIt (xL (xCBF bSorted (xCons (xL (xComp [none, none] (xIt (xVarP 0)) (xgTup (xgCons (xgName 0) (xgCons (xgName 1) (xgNil)))) (xB (xOp (dLe) (xVarP 0) (xVarP 1))) (xTup (xCons (xVar 0) (xCons (xVar 1) (xNil)))))) (xNil))))) (xgTup (xgCons (xgName 2) (xgCons (xgName 3) (xgNil)))) (B_row_of_0)) (xRet (xCB bTuple (xCons (xVarP 1) (xNil)))))
noncomputable def mo_row_of : List D → Option O := fnO 4 X_row_of
noncomputable def m_row_of : List D → Option D := fun ds => (mo_row_of ds).map O.d
noncomputable def B_stretches_of_0 : XS := xExtP 1 (xPv) (xL (xComp [none, none, some 2] (xIt (xVarP 3)) (xgTup (xgCons (xgName 0) (xgCons (xgName 1) (xgNil)))) (xYes) (xTup (xCons (xVar 2) (xCons (xVar 0) (xCons (xVar 1) (xNil)))))))
noncomputable def X_stretches_of : XS := xSeq (xAsgF (xLst (xNil)) 1) (xSeq (xFor (xIt (xVar 0)) (xgTup (xgCons (xgName 2) (xgCons (xgName 3) (xgNil)))) (B_stretches_of_0)) (xRetV 1))
noncomputable def mo_stretches_of : List D → Option O := fnO 4 X_stretches_of
noncomputable def m_stretches_of : List D → Option D := fun ds => (mo_stretches_of ds).map O.d
noncomputable def mi_Box : List D → Option D := iniT (xB (xOp (dLt) (xCB bMin4 (xCons (xVarP 1) (xCons (xVarP 2) (xCons (xVarP 3) (xCons (xVarP 4) (xNil)))))) (xC (.int 0)))) (xTup (xCons (xTup (xCons (xTup (xCons (xUn dNeg (xVarP 1)) (xCons (xUn dNeg (xVarP 2)) (xCons (xVar 3) (xCons (xVar 4) (xNil)))))) (xNil))) (xNil)))
noncomputable def mi_Cross : List D → Option D := iniT (xB (xOp (dLt) (xVarP 1) (xC (.int 0)))) (xTup (xCons (xTup (xCons (xTup (xCons (xUn dNeg (xVarP 1)) (xCons (xC (.int 0)) (xCons (xVar 1) (xCons (xC (.int 0)) (xNil)))))) (xCons (xTup (xCons (xC (.int 0)) (xCons (xUn dNeg (xVarP 1)) (xCons (xC (.int 0)) (xCons (xVar 1) (xNil)))))) (xNil)))) (xNil)))
noncomputable def B_blocks_of_0 : XS := xIf (xAnd (xTru (xVarP 1)) (xB (xOp (dEq false) (xOp dIx (xVarP 1) (xUn dNeg (xC (.int 1)))) (xTup (xCons (xVar 2) (xCons (xOp dIx (xOp dIx (xVarP 1) (xUn dNeg (xC (.int 1)))) (xC (.int 1))) (xCons (xVar 3) (xCons (xOp (dSub) (xVarP 4) (xC (.int 1))) (xNil))))))))) (xSetP 1 xPv (xUn dNeg (xC (.int 1))) (xTup (xCons (xVar 2) (xCons (xOp dIx (xOp dIx (xVarP 1) (xUn dNeg (xC (.int 1)))) (xC (.int 1))) (xCons (xVar 3) (xCons (xVar 4) (xNil))))))) (xAppP 1 (xPv) (xSh (xTup (xCons (xVar 2) (xCons (xVar 4) (xCons (xVar 3) (xCons (xVar 4) (xNil))))))))
noncomputable def X_blocks_of : XS := xSeq (xAsgF (xLst (xNil)) 1) (xSeq (xFor (xIt (xL (xCBF bSorted (xCons (xL (xComp [none, none, none] (xIt (xCall m_stretches_of (xCons (xVar 0) (xNil)))) (xgTup (xgCons (xgName 0) (xgCons (xgName 1) (xgCons (xgName 2) (xgNil))))) (xYes) (xTup (xCons (xVar 1) (xCons (xVar 2) (xCons (xVar 0) (xNil))))))) (xNil))))) (xgTup (xgCons (xgName 2) (xgCons (xgName 3) (xgCons (xgName 4) (xgNil))))) (B_blocks_of_0)) (xRet (xCB bTuple (xCons (xVarP 1) (xNil)))))
noncomputable def mo_blocks_of : List D → Option O := fnO 5 X_blocks_of
noncomputable def m_blocks_of : List D → Option D := fun ds => (mo_blocks_of ds).map O.d
noncomputable def X_moved : XS := xRet (xCB bTuple (xCons (xL (xComp [none, none, some 2, some 1] (xIt (xVarP 0)) (xgTup (xgCons (xgName 0) (xgCons (xgName 1) (xgNil)))) (xYes) (xTup (xCons (xOp (dAdd) (xVarP 0) (xVarP 2)) (xCons (xCall m_row_moved (xCons (xVar 1) (xCons (xVar 3) (xNil)))) (xNil)))))) (xNil)))
noncomputable def mo_moved : List D → Option O := fnO 3 X_moved
noncomputable def m_moved : List D → Option D := fun ds => (mo_moved ds).map O.d
noncomputable def B_picture_of_0 : XS := xSeq (xIf (xOr (xNot (xTru (xVarQ 1))) (xB (xOp (dEq true) (xFl (xOp dIx (xOp dIx (xVarQ 1) (xUn dNeg (xC (.int 1)))) (xC (.int 0)))) (xVarP 2)))) (xAppP 1 (xPv) (xTupT (xConsT (xSh (xVar 2)) (xConsT (xLstT (xNilT)) (xNilT))))) (xNext)) (xAppP 1 (xPi (xPi (xPv) (xUn dNeg (xC (.int 1)))) (xC (.int 1))) (xSh (xTup (xCons (xVar 3) (xCons (xVar 4) (xNil))))))
noncomputable def X_picture_of : XS := xSeq (xAsgF (xLst (xNil)) 1) (xSeq (xFor (xIt (xL (xCBF bSorted (xCons (xL (xComp [none, none, none] (xIt (xVarP 0)) (xgTup (xgCons (xgName 0) (xgCons (xgName 1) (xgCons (xgName 2) (xgNil))))) (xB (xOp (dLe) (xVarP 1) (xVarP 2))) (xTup (xCons (xVar 0) (xCons (xVar 1) (xCons (xVar 2) (xNil))))))) (xNil))))) (xgTup (xgCons (xgName 2) (xgCons (xgName 3) (xgCons (xgName 4) (xgNil))))) (B_picture_of_0)) (xFrz 1 (xRet (xCB bTuple (xCons (xL (xComp [none, none] (xIt (xVar 1)) (xgTup (xgCons (xgName 0) (xgCons (xgName 1) (xgNil)))) (xYes) (xTup (xCons (xVar 0) (xCons (xCall m_row_of (xCons (xVar 1) (xNil))) (xNil)))))) (xNil))))))
noncomputable def mo_picture_of : List D → Option O := fnO 5 X_picture_of
noncomputable def m_picture_of : List D → Option D := fun ds => (mo_picture_of ds).map O.d
noncomputable def mi_Shape : List D → Option D := iniT (xB (xOp (dEq false) (xVarP 1) (xTup (xNil)))) (xTup (xCons (xCall m_blocks_of (xCons (xVar 1) (xNil))) (xNil)))
noncomputable def Y__law_made : XR := xrSeq (xrIf (xB (xOp (dEq false) (xVarP 0) (xC (.int 0)))) (xrE (xeCall rX_Box___init__ (xCons (xOp dIx (xVarP 1) (xC (.int 0))) (xCons (xOp dIx (xVarP 1) (xC (.int 1))) (xCons (xOp dIx (xVarP 1) (xC (.int 2))) (xCons (xOp dIx (xVarP 1) (xC (.int 3))) (xNil))))))) (xrNext)) (xrSeq (xrIf (xB (xOp (dEq false) (xVarP 0) (xC (.int 1)))) (xrE (xeCall rX_Cross___init__ (xCons (xOp dIx (xVarP 1) (xC (.int 0))) (xNil)))) (xrNext)) (xrE (xeCall rX_Shape___init__ (xCons (xTup (xNil)) (xNil)))))
noncomputable def rX__law_made : List D → Option Str := fnX 2 Y__law_made
noncomputable def X_join : XS := xRet (xCall m_picture_of (xCons (xOp (dAdd) (xCall m_stretches_of (xCons (xVar 0) (xNil))) (xCall m_stretches_of (xCons (xVar 1) (xNil)))) (xNil)))
noncomputable def mo_join : List D → Option O := fnO 2 X_join
noncomputable def m_join : List D → Option D := fun ds => (mo_join ds).map O.d
noncomputable def X__law_refused : XS := xSeq (xAsg (xL (xLst (xNil))) (xgName 2)) (xSeq (xAsg (xL (xLst (xNil))) (xgName 3)) (xSeq (xAsg (xL (xLst (xNil))) (xgName 4)) (xSeq (xTry xNs 5 (xrE (xeCall rX__law_made (xCons (xVar 0) (xCons (xVar 1) (xNil))))) [(2, [ax_NoForm, ax_ValueError, ax_TooGreat, ax_TooMany]), (3, [ax_NoText, ax_NoName, ax_NoRow, ax_NoBack])]) (xRet (xAndV (xOp (dEq false) (xVarP 2) (xL (xLst (xCons (xC (.bl true)) (xCons (xC (.bl true)) (xCons (xC (.bl false)) (xCons (xC (.bl false)) (xNil)))))))) (xOp (dEq false) (xVarP 3) (xL (xLst (xCons (xC (.bl false)) (xCons (xC (.bl false)) (xCons (xC (.bl false)) (xCons (xC (.bl false)) (xNil)))))))))))))
noncomputable def mo__law_refused : List D → Option O := fnO 6 X__law_refused
noncomputable def m__law_refused : List D → Option D := fun ds => (mo__law_refused ds).map O.d
noncomputable def C_spread_down_0 : XT := xB (xOp (dLt) (xVarP 2) (xVarP 1))
noncomputable def B_spread_down_1 : XS := xSeq (xAsg (xCB bMin2 (xCons (xOp (dAdd) (xVarP 2) (xC (.int 1))) (xCons (xOp (dSub) (xVarP 1) (xVarP 2)) (xNil)))) (xgName 3)) (xSeq (xAsg (xCall m_join (xCons (xVar 0) (xCons (xCall m_moved (xCons (xVar 0) (xCons (xC (.int 0)) (xCons (xVar 3) (xNil))))) (xNil)))) (xgName 0)) (xAug 2 (xVarP 3) dAddI))
noncomputable def X_spread_down : XS := xSeq (xAsg (xC (.int 0)) (xgName 2)) (xSeq (xWhile (C_spread_down_0) (B_spread_down_1)) (xRet (xVar 0)))
noncomputable def mo_spread_down : List D → Option O := fnO 4 X_spread_down
noncomputable def m_spread_down : List D → Option D := fun ds => (mo_spread_down ds).map O.d
noncomputable def X__law_made : XS := xSeq (xIf (xB (xOp (dEq false) (xVarP 0) (xC (.int 0)))) (xRet (xMake "Box" "parts" mi_Box (xCons (xOp dIx (xVarP 1) (xC (.int 0))) (xCons (xOp dIx (xVarP 1) (xC (.int 1))) (xCons (xOp dIx (xVarP 1) (xC (.int 2))) (xCons (xOp dIx (xVarP 1) (xC (.int 3))) (xNil))))))) (xNext)) (xSeq (xIf (xB (xOp (dEq false) (xVarP 0) (xC (.int 1)))) (xRet (xMake "Cross" "parts" mi_Cross (xCons (xOp dIx (xVarP 1) (xC (.int 0))) (xNil)))) (xNext)) (xRet (xMake "Shape" "parts" mi_Shape (xCons (xTup (xNil)) (xNil)))))
noncomputable def mo__law_made : List D → Option O := fnO 2 X__law_made
noncomputable def m__law_made : List D → Option D := fun ds => (mo__law_made ds).map O.d
noncomputable def X_greater_by_block : XS := xSeq (xAsg (xL (xComp [none, none, none, some 1] (xIt (xCall m_stretches_of (xCons (xVar 0) (xNil)))) (xgTup (xgCons (xgName 0) (xgCons (xgName 1) (xgCons (xgName 2) (xgNil))))) (xYes) (xTup (xCons (xOp (dAdd) (xVarP 0) (xOp dIx (xVarP 3) (xC (.int 1)))) (xCons (xOp (dAdd) (xVarP 1) (xOp dIx (xVarP 3) (xC (.int 0)))) (xCons (xOp (dAdd) (xVarP 2) (xOp dIx (xVarP 3) (xC (.int 2)))) (xNil))))))) (xgName 2)) (xSeq (xIf (xB (xOp (dEq false) (xOp dIx (xVarP 1) (xC (.int 1))) (xOp dIx (xVarP 1) (xC (.int 3))))) (xRet (xVar 2)) (xNext)) (xRet (xCall m_stretches_of (xCons (xCall m_spread_down (xCons (xCall m_picture_of (xCons (xVar 2) (xNil))) (xCons (xOp (dSub) (xOp dIx (xVarP 1) (xC (.int 3))) (xOp dIx (xVarP 1) (xC (.int 1)))) (xNil)))) (xNil)))))
noncomputable def mo_greater_by_block : List D → Option O := fnO 3 X_greater_by_block
noncomputable def m_greater_by_block : List D → Option D := fun ds => (mo_greater_by_block ds).map O.d
noncomputable def B_greater_by_part_0 : XS := xExtP 2 (xPv) (xCall m_greater_by_block (xCons (xVar 0) (xCons (xVar 3) (xNil))))
noncomputable def X_greater_by_part : XS := xSeq (xAsgF (xLst (xNil)) 2) (xSeq (xFor (xIt (xVar 1)) (xgName 3) (B_greater_by_part_0)) (xFrz 2 (xRet (xCall m_picture_of (xCons (xVar 2) (xNil))))))
noncomputable def mo_greater_by_part : List D → Option O := fnO 4 X_greater_by_part
noncomputable def m_greater_by_part : List D → Option D := fun ds => (mo_greater_by_part ds).map O.d
noncomputable def B_Form_greater_0 : XS := xAsg (xCall m_greater_by_part (xCons (xVar 1) (xCons (xVar 2) (xNil)))) (xgName 1)
noncomputable def X_Form_greater : XS := xSeq (xFor (xRevI (xCons (xFld NS "parts" (xVar 0)) (xNil))) (xgName 2) (B_Form_greater_0)) (xRet (xVar 1))
noncomputable def mo_Form_greater : List D → Option O := fnO 3 X_Form_greater
noncomputable def m_Form_greater : List D → Option D := fun ds => (mo_Form_greater ds).map O.d
noncomputable def X_Form_cells : XS := xRet (xMeth NS "greater" m_Form_greater (xVar 0) (xCons (xC (.tup [.tup [.int (0), .tup [.tup [.int (0), .int (0)]]]])) (xNil)))
noncomputable def mo_Form_cells : List D → Option O := fnO 1 X_Form_cells
noncomputable def m_Form_cells : List D → Option D := fun ds => (mo_Form_cells ds).map O.d
noncomputable def X__law_one : XS := xSeq (xAsg (xOp (dSub) (xUn dNeg (xC (.int 1))) (xOp dIx (xL (xLst (xCons (xC (.int 0)) (xCons (xOp (dMod) (xCB bAbs (xCons (xVarP 0) (xNil))) (xOp (dSub) (xOp (dPow) (xC (.int 10)) (xC (.int 60))) (xC (.int 1)))) (xNil))))) (xOp (dMod) (xOp (dDiv) (xVarP 0) (xC (.int 4))) (xC (.int 2))))) (xgName 1)) (xSeq (xAsgF (xLst (xCons (xOp (dMod) (xOp (dDiv) (xVarP 0) (xC (.int 8))) (xC (.int 4))) (xCons (xOp (dMod) (xOp (dDiv) (xVarP 0) (xC (.int 32))) (xC (.int 4))) (xCons (xOp (dMod) (xCB bAbs (xCons (xVarP 0) (xNil))) (xOp (dPow) (xC (.int 10)) (xC (.int 60)))) (xCons (xOp (dMod) (xOp (dDiv) (xVarP 0) (xC (.int 128))) (xC (.int 4))) (xNil)))))) 2) (xSeq (xSetP 2 xPv (xOp (dMod) (xVarP 0) (xC (.int 4))) (xVar 1)) (xSeq (xIf (xOr (xNot (xTru (xCallB m__law_refused (xCons (xC (.int 0)) (xCons (xVarP 2) (xNil)))))) (xOr (xNot (xTru (xCall m__law_refused (xCons (xC (.int 1)) (xCons (xL (xLst (xCons (xVar 1) (xNil)))) (xNil)))))) (xNot (xTru (xCall m__law_refused (xCons (xC (.int 2)) (xCons (xL (xLst (xNil))) (xNil)))))))) (xRet (xC (.bl false))) (xNext)) (xSeq (xAsgF (xLst (xCons (xOp (dMod) (xOp (dDiv) (xVarP 0) (xC (.int 8))) (xC (.int 4))) (xCons (xOp (dMod) (xOp (dDiv) (xVarP 0) (xC (.int 32))) (xC (.int 4))) (xCons (xOp (dMod) (xOp (dDiv) (xVarP 0) (xC (.int 128))) (xC (.int 4))) (xCons (xOp (dMod) (xOp (dDiv) (xVarP 0) (xC (.int 512))) (xC (.int 4))) (xNil)))))) 2) (xSeq (xAsg (xOp (dMul) (xOp (dAdd) (xOp (dAdd) (xC (.int 1)) (xOp dIx (xVarP 2) (xC (.int 0)))) (xOp dIx (xVarP 2) (xC (.int 2)))) (xOp (dAdd) (xOp (dAdd) (xC (.int 1)) (xOp dIx (xVarP 2) (xC (.int 1)))) (xOp dIx (xVarP 2) (xC (.int 3))))) (xgName 3)) (xSeq (xFrz 2 (xIf (xB (xOp (dEq true) (xCall m__law_many (xCons (xMeth NS "cells" m_Form_cells (xCall m__law_made (xCons (xC (.int 0)) (xCons (xVar 2) (xNil)))) (xNil)) (xNil))) (xVarP 3))) (xRet (xC (.bl false))) (xNext))) (xFrz 2 (xRet (xOp (dEq false) (xCall m__law_many (xCons (xMeth NS "cells" m_Form_cells (xCall m__law_made (xCons (xC (.int 1)) (xCons (xVar 2) (xNil)))) (xNil)) (xNil))) (xOp (dAdd) (xC (.int 1)) (xOp (dMul) (xC (.int 4)) (xOp dIx (xVarP 2) (xC (.int 0))))))))))))))
noncomputable def mo__law_one : List D → Option O := fnO 4 X__law_one
noncomputable def m__law_one : List D → Option D := fun ds => (mo__law_one ds).map O.d
noncomputable def B_law_0 : XS := xIf (xNot (xTru (xCall m__law_one (xCons (xVar 1) (xNil))))) (xRet (xC (.bl false))) (xNext)
noncomputable def X_law : XS := xSeq (xFor (xIt (xSl (xVarP 0) (xNoPart) (xPart (xC (.int 63))))) (xgName 1) (B_law_0)) (xRet (xAndV (xCall m__law_one (xCons (xC (.int 0)) (xNil))) (xCall m__law_one (xCons (xUn dNeg (xC (.int 1))) (xNil)))))
noncomputable def mo_law : List D → Option O := fnO 2 X_law
noncomputable def m_law : List D → Option D := fun ds => (mo_law ds).map O.d
noncomputable abbrev sp_Form___init__ (K : PySem.W.Frag) : Sp := spIni K NS "parts" 1 ini1
noncomputable abbrev spX_Box___init__ (K : PySem.W.Frag) : Sp := spXI K 4 rX_Box___init__
noncomputable def pkX_Box___init__ (K : PySem.W.Frag) (E : XK) : { t : TS // SX K E t Y_Box___init__ } := ⟨_, sx_stop (sx_if (s_test (SE.p (s_op r_lt ((s_cb b_min4 (sp_cons (s_varP 1) (sp_cons (s_varP 2) (sp_cons (s_varP 3) (sp_cons (s_varP 4) (sp_nil)))))).p) ((s_c rfl).p)))) (sx_raise (v := (.str (Str.ofString "a box has no number below 0")))) (sx_next))⟩
theorem rdX_Box___init__ {K : PySem.W.Frag} {vs : List V} {H : Hp} {Q : VK} {E : XK} (h : spX_Box___init__ K vs H Q E) : (pkX_Box___init__ K E).1 { nx := fun _ H' => Q .non H', rt := Q } (start ["self", "left", "up", "right", "down"] vs) H := rdXI_of (pkX_Box___init__ K E).2 rfl h
noncomputable abbrev spX_Cross___init__ (K : PySem.W.Frag) : Sp := spXI K 1 rX_Cross___init__
noncomputable def pkX_Cross___init__ (K : PySem.W.Frag) (E : XK) : { t : TS // SX K E t Y_Cross___init__ } := ⟨_, sx_stop (sx_if (s_test (SE.p (s_op r_lt (s_varP 1) ((s_c rfl).p)))) (sx_raise (v := (.str (Str.ofString "a cross has no arm below 0")))) (sx_next))⟩
theorem rdX_Cross___init__ {K : PySem.W.Frag} {vs : List V} {H : Hp} {Q : VK} {E : XK} (h : spX_Cross___init__ K vs H Q E) : (pkX_Cross___init__ K E).1 { nx := fun _ H' => Q .non H', rt := Q } (start ["self", "arm"] vs) H := rdXI_of (pkX_Cross___init__ K E).2 rfl h
noncomputable abbrev spX_Shape___init__ (K : PySem.W.Frag) : Sp := spXI K 1 rX_Shape___init__
noncomputable def pkX_Shape___init__ (K : PySem.W.Frag) (E : XK) : { t : TS // SX K E t Y_Shape___init__ } := ⟨_, sx_stop (sx_if (s_test (SE.p (s_op (r_eq false) (s_varP 1) ((s_tup (sa_nil)).p)))) (sx_raise (v := (.str (Str.ofString "a form has at least one cell")))) (sx_next))⟩
theorem rdX_Shape___init__ {K : PySem.W.Frag} {vs : List V} {H : Hp} {Q : VK} {E : XK} (h : spX_Shape___init__ K vs H Q E) : (pkX_Shape___init__ K E).1 { nx := fun _ H' => Q .non H', rt := Q } (start ["self", "picture"] vs) H := rdXI_of (pkX_Shape___init__ K E).2 rfl h
noncomputable abbrev sp__law_many (K : PySem.W.Frag) : Sp := spOf K 1 mo__law_many
noncomputable def pk__law_many (K : PySem.W.Frag) : { t : TS // SS K t X__law_many } := ⟨_, s_seq (s_asg (s_c rfl) (g_name 1)) (s_seq (s_for (i_seq (s_var 0)) (g_tup (g_cons (g_name 2) (g_cons (g_name 3) (g_nil))) (li_cons (li_cons (li_nil)))) (s_for (i_seq (s_var 3)) (g_tup (g_cons (g_name 4) (g_cons (g_name 5) (g_nil))) (li_cons (li_cons (li_nil)))) (s_asg (s_op r_add ((s_op r_sub ((s_op r_add (s_varP 1) (s_varP 5)).p) (s_varP 4)).p) ((s_c rfl).p)) (g_name 1)))) (s_ret (s_var 1)))⟩
theorem rd__law_many {K : PySem.W.Frag} {vs : List V} {H : Hp} {Q : VK} {E : XK} (h : sp__law_many K vs H Q E) : (pk__law_many K).1 { nx := fun _ H' => Q .non H', rt := Q } (start ["_law_cells", "_law_total", "_law_y", "_law_row", "_law_low", "_law_high"] vs) H := rd_of (pk__law_many K).2 rfl h
noncomputable abbrev sp_row_moved (K : PySem.W.Frag) : Sp := spOf K 2 mo_row_moved
noncomputable def pk_row_moved (K : PySem.W.Frag) : { t : TS // SS K t X_row_moved } := ⟨_, s_ret (s_cb b_tuple (sp_cons (((s_comp (i_seqP (s_varP 0)) (g_tup (g_cons (g_name 0) (g_cons (g_name 1) (g_nil))) (li_cons (li_cons (li_nil)))) (s_yes) (s_tup (sa_cons (s_op r_add (s_varP 0) (s_varP 2)) (sa_cons (s_op r_add (s_varP 1) (s_varP 2)) (sa_nil))))).e).p) (sp_nil)))⟩
theorem rd_row_moved {K : PySem.W.Frag} {vs : List V} {H : Hp} {Q : VK} {E : XK} (h : sp_row_moved K vs H Q E) : (pk_row_moved K).1 { nx := fun _ H' => Q .non H', rt := Q } (start ["row", "by"] vs) H := rd_of (pk_row_moved K).2 rfl h
noncomputable abbrev sp_row_of (K : PySem.W.Frag) : Sp := spOf K 1 mo_row_of
noncomputable def pk_row_of (K : PySem.W.Frag) : { t : TS // SS K t X_row_of } := ⟨_, s_seq (s_asgF (s_lst (sa_nil))) (s_seq (s_for (i_seq ((s_cbF b_sorted (sp_cons (((s_comp (i_seqP (s_varP 0)) (g_tup (g_cons (g_name 0) (g_cons (g_name 1) (g_nil))) (li_cons (li_cons (li_nil)))) (s_test (SE.p (s_op r_le (s_varP 0) (s_varP 1)))) (s_tup (sa_cons (s_var 0) (sa_cons (s_var 1) (sa_nil))))).e).p) (sp_nil))).e)) (g_tup (g_cons (g_name 2) (g_cons (g_name 3) (g_nil))) (li_cons (li_cons (li_nil)))) (s_if (s_and (s_truK (s_varP 1)) (s_test (SE.p (s_op r_le (s_varP 2) ((s_op r_add ((s_op r_ix ((s_op r_ix (s_varP 1) ((s_un r_neg ((s_c rfl).p)).p)).p) ((s_c rfl).p)).p) ((s_c rfl).p)).p))))) (s_setP (s_tup (sa_cons (s_op r_ix ((s_op r_ix (s_varP 1) ((s_un r_neg ((s_c rfl).p)).p)).p) ((s_c rfl).p)) (sa_cons (s_cb b_max2 (sp_cons ((s_op r_ix ((s_op r_ix (s_varP 1) ((s_un r_neg ((s_c rfl).p)).p)).p) ((s_c rfl).p)).p) (sp_cons (s_varP 3) (sp_nil)))) (sa_nil)))) (p_var 1) ((s_un r_neg ((s_c rfl).p)).p)) (s_appP (p_var 1) ((s_tup (sa_cons (s_var 2) (sa_cons (s_var 3) (sa_nil)))).t)))) (s_ret (s_cb b_tuple (sp_cons (s_varP 1) (sp_nil)))))⟩
theorem rd_row_of {K : PySem.W.Frag} {vs : List V} {H : Hp} {Q : VK} {E : XK} (h : sp_row_of K vs H Q E) : (pk_row_of K).1 { nx := fun _ H' => Q .non H', rt := Q } (start ["pairs", "stretches", "a", "b"] vs) H := rd_of (pk_row_of K).2 rfl h
noncomputable abbrev sp_stretches_of (K : PySem.W.Frag) : Sp := spOf K 1 mo_stretches_of
noncomputable def pk_stretches_of (K : PySem.W.Frag) : { t : TS // SS K t X_stretches_of } := ⟨_, s_seq (s_asgF (s_lst (sa_nil))) (s_seq (s_for (i_seq (s_var 0)) (g_tup (g_cons (g_name 2) (g_cons (g_name 3) (g_nil))) (li_cons (li_cons (li_nil)))) (s_extP (p_var 1) ((s_comp (i_seqP (s_varP 3)) (g_tup (g_cons (g_name 0) (g_cons (g_name 1) (g_nil))) (li_cons (li_cons (li_nil)))) (s_yes) (s_tup (sa_cons (s_var 2) (sa_cons (s_var 0) (sa_cons (s_var 1) (sa_nil)))))).e))) (s_retV 1))⟩
theorem rd_stretches_of {K : PySem.W.Frag} {vs : List V} {H : Hp} {Q : VK} {E : XK} (h : sp_stretches_of K vs H Q E) : (pk_stretches_of K).1 { nx := fun _ H' => Q .non H', rt := Q } (start ["picture", "stretches", "y", "row"] vs) H := rd_of (pk_stretches_of K).2 rfl h
noncomputable abbrev sp_Box___init__ (K : PySem.W.Frag) : Sp := spIni K NS "parts" 4 mi_Box
noncomputable abbrev sp_Cross___init__ (K : PySem.W.Frag) : Sp := spIni K NS "parts" 1 mi_Cross
noncomputable abbrev sp_blocks_of (K : PySem.W.Frag) : Sp := spOf K 1 mo_blocks_of
noncomputable def pk_blocks_of (K : PySem.W.Frag) : { t : TS // SS K t X_blocks_of } := ⟨_, s_seq (s_asgF (s_lst (sa_nil))) (s_seq (s_for (i_seq ((s_cbF b_sorted (sp_cons (((s_comp (i_seqP ((s_call (E := E0) (sa_cons (s_var 0) (sa_nil)) (len_cons (fun _ _ h => len_nil h))).p)) (g_tup (g_cons (g_name 0) (g_cons (g_name 1) (g_cons (g_name 2) (g_nil)))) (li_cons (li_cons (li_cons (li_nil))))) (s_yes) (s_tup (sa_cons (s_var 1) (sa_cons (s_var 2) (sa_cons (s_var 0) (sa_nil)))))).e).p) (sp_nil))).e)) (g_tup (g_cons (g_name 2) (g_cons (g_name 3) (g_cons (g_name 4) (g_nil)))) (li_cons (li_cons (li_cons (li_nil))))) (s_if (s_and (s_truK (s_varP 1)) (s_test (SE.p (s_op (r_eq false) ((s_op r_ix (s_varP 1) ((s_un r_neg ((s_c rfl).p)).p)).p) ((s_tup (sa_cons (s_var 2) (sa_cons (s_op r_ix ((s_op r_ix (s_varP 1) ((s_un r_neg ((s_c rfl).p)).p)).p) ((s_c rfl).p)) (sa_cons (s_var 3) (sa_cons (s_op r_sub (s_varP 4) ((s_c rfl).p)) (sa_nil)))))).p))))) (s_setP (s_tup (sa_cons (s_var 2) (sa_cons (s_op r_ix ((s_op r_ix (s_varP 1) ((s_un r_neg ((s_c rfl).p)).p)).p) ((s_c rfl).p)) (sa_cons (s_var 3) (sa_cons (s_var 4) (sa_nil)))))) (p_var 1) ((s_un r_neg ((s_c rfl).p)).p)) (s_appP (p_var 1) ((s_tup (sa_cons (s_var 2) (sa_cons (s_var 4) (sa_cons (s_var 3) (sa_cons (s_var 4) (sa_nil)))))).t)))) (s_ret (s_cb b_tuple (sp_cons (s_varP 1) (sp_nil)))))⟩
theorem rd_blocks_of {K : PySem.W.Frag} {vs : List V} {H : Hp} {Q : VK} {E : XK} (h : sp_blocks_of K vs H Q E) : (pk_blocks_of K).1 { nx := fun _ H' => Q .non H', rt := Q } (start ["picture", "blocks", "a", "b", "y"] vs) H := rd_of (pk_blocks_of K).2 rfl h
noncomputable abbrev sp_moved (K : PySem.W.Frag) : Sp := spOf K 3 mo_moved
noncomputable def pk_moved (K : PySem.W.Frag) : { t : TS // SS K t X_moved } := ⟨_, s_ret (s_cb b_tuple (sp_cons (((s_comp (i_seqP (s_varP 0)) (g_tup (g_cons (g_name 0) (g_cons (g_name 1) (g_nil))) (li_cons (li_cons (li_nil)))) (s_yes) (s_tup (sa_cons (s_op r_add (s_varP 0) (s_varP 2)) (sa_cons (s_call (E := E0) (sa_cons (s_var 1) (sa_cons (s_var 3) (sa_nil))) (len_cons (len_cons (fun _ _ h => len_nil h)))) (sa_nil))))).e).p) (sp_nil)))⟩
theorem rd_moved {K : PySem.W.Frag} {vs : List V} {H : Hp} {Q : VK} {E : XK} (h : sp_moved K vs H Q E) : (pk_moved K).1 { nx := fun _ H' => Q .non H', rt := Q } (start ["picture", "dx", "dy"] vs) H := rd_of (pk_moved K).2 rfl h
noncomputable abbrev sp_picture_of (K : PySem.W.Frag) : Sp := spOf K 1 mo_picture_of
noncomputable def pk_picture_of (K : PySem.W.Frag) : { t : TS // SS K t X_picture_of } := ⟨_, s_seq (s_asgF (s_lst (sa_nil))) (s_seq (s_for (i_seq ((s_cbF b_sorted (sp_cons (((s_comp (i_seqP (s_varP 0)) (g_tup (g_cons (g_name 0) (g_cons (g_name 1) (g_cons (g_name 2) (g_nil)))) (li_cons (li_cons (li_cons (li_nil))))) (s_test (SE.p (s_op r_le (s_varP 1) (s_varP 2)))) (s_tup (sa_cons (s_var 0) (sa_cons (s_var 1) (sa_cons (s_var 2) (sa_nil)))))).e).p) (sp_nil))).e)) (g_tup (g_cons (g_name 2) (g_cons (g_name 3) (g_cons (g_name 4) (g_nil)))) (li_cons (li_cons (li_cons (li_nil))))) (s_seq (s_if (s_or (s_not (s_truQ (s_varQ 1))) (s_test (SE.p (s_op (r_eq true) ((SQ.fl (s_opQ r_ix (s_opQ r_ix (s_varQ 1) (((s_un r_neg ((s_c rfl).p)).p).q)) (((s_c rfl).p).q))).p) (s_varP 2))))) (s_appP (p_var 1) (s_tupT (st_cons ((s_var 2).t) (st_cons (s_lstT (st_nil)) (st_nil))))) (s_next)) (s_appP (p_ix (p_ix (p_var 1) ((s_un r_neg ((s_c rfl).p)).p)) ((s_c rfl).p)) ((s_tup (sa_cons (s_var 3) (sa_cons (s_var 4) (sa_nil)))).t)))) (s_frz 1 (s_ret (s_cb b_tuple (sp_cons (((s_comp (i_seqP ((s_var 1).p)) (g_tup (g_cons (g_name 0) (g_cons (g_name 1) (g_nil))) (li_cons (li_cons (li_nil)))) (s_yes) (s_tup (sa_cons (s_var 0) (sa_cons (s_call (E := E0) (sa_cons (s_var 1) (sa_nil)) (len_cons (fun _ _ h => len_nil h))) (sa_nil))))).e).p) (sp_nil))))))⟩
theorem rd_picture_of {K : PySem.W.Frag} {vs : List V} {H : Hp} {Q : VK} {E : XK} (h : sp_picture_of K vs H Q E) : (pk_picture_of K).1 { nx := fun _ H' => Q .non H', rt := Q } (start ["stretches", "pairs_by_row", "y", "a", "b"] vs) H := rd_of (pk_picture_of K).2 rfl h
noncomputable abbrev sp_Shape___init__ (K : PySem.W.Frag) : Sp := spIni K NS "parts" 1 mi_Shape
noncomputable abbrev spX__law_made (K : PySem.W.Frag) : Sp := spX K 2 rX__law_made
noncomputable def pkX__law_made (K : PySem.W.Frag) (E : XK) : { t : TS // SX K E t Y__law_made } := ⟨_, sx_seq (sx_if (s_test (SE.p (s_op (r_eq false) (s_varP 0) ((s_c rfl).p)))) (sx_ret (sxe_make (M := "Box") (sa_cons (s_op r_ix (s_varP 1) ((s_c rfl).p)) (sa_cons (s_op r_ix (s_varP 1) ((s_c rfl).p)) (sa_cons (s_op r_ix (s_varP 1) ((s_c rfl).p)) (sa_cons (s_op r_ix (s_varP 1) ((s_c rfl).p)) (sa_nil))))) (len_cons (len_cons (len_cons (len_cons (fun _ _ h => len_nil h))))))) (sx_next)) (sx_seq (sx_if (s_test (SE.p (s_op (r_eq false) (s_varP 0) ((s_c rfl).p)))) (sx_ret (sxe_make (M := "Cross") (sa_cons (s_op r_ix (s_varP 1) ((s_c rfl).p)) (sa_nil)) (len_cons (fun _ _ h => len_nil h)))) (sx_next)) (sx_ret (sxe_make (M := "Shape") (sa_cons (s_tup (sa_nil)) (sa_nil)) (len_cons (fun _ _ h => len_nil h)))))⟩
theorem rdX__law_made {K : PySem.W.Frag} {vs : List V} {H : Hp} {Q : VK} {E : XK} (h : spX__law_made K vs H Q E) : (pkX__law_made K E).1 { nx := fun _ H' => Q .non H', rt := Q } (start ["_law_way", "_law_sides"] vs) H := rdX_of (pkX__law_made K E).2 rfl h
noncomputable abbrev sp_join (K : PySem.W.Frag) : Sp := spOf K 2 mo_join
noncomputable def pk_join (K : PySem.W.Frag) : { t : TS // SS K t X_join } := ⟨_, s_ret (s_call (E := E0) (sa_cons (s_op r_add ((s_call (E := E0) (sa_cons (s_var 0) (sa_nil)) (len_cons (fun _ _ h => len_nil h))).p) ((s_call (E := E0) (sa_cons (s_var 1) (sa_nil)) (len_cons (fun _ _ h => len_nil h))).p)) (sa_nil)) (len_cons (fun _ _ h => len_nil h)))⟩
theorem rd_join {K : PySem.W.Frag} {vs : List V} {H : Hp} {Q : VK} {E : XK} (h : sp_join K vs H Q E) : (pk_join K).1 { nx := fun _ H' => Q .non H', rt := Q } (start ["one", "other"] vs) H := rd_of (pk_join K).2 rfl h
noncomputable abbrev sp__law_refused (K : PySem.W.Frag) : Sp := spOf K 2 mo__law_refused
noncomputable def pk__law_refused (K : PySem.W.Frag) : { t : TS // SS K t X__law_refused } := ⟨_, s_seq (s_asg ((s_lst (sa_nil)).e) (g_name 2)) (s_seq (s_asg ((s_lst (sa_nil)).e) (g_name 3)) (s_seq (s_asg ((s_lst (sa_nil)).e) (g_name 4)) (s_seq (s_try (L := xNs) (i := 5) (l := [(2, [ax_NoForm, ax_ValueError, ax_TooGreat, ax_TooMany]), (3, [ax_NoText, ax_NoName, ax_NoRow, ax_NoBack])]) (fun E => sx_drop (sxe_call (sa_cons (s_var 0) (sa_cons (s_var 1) (sa_nil))) (len_cons (len_cons (fun _ _ h => len_nil h)))))) (s_ret (s_andV ((s_op (r_eq false) (s_varP 2) (((s_lst (sa_cons (s_c rfl) (sa_cons (s_c rfl) (sa_cons (s_c rfl) (sa_cons (s_c rfl) (sa_nil)))))).e).p)).p) (s_op (r_eq false) (s_varP 3) (((s_lst (sa_cons (s_c rfl) (sa_cons (s_c rfl) (sa_cons (s_c rfl) (sa_cons (s_c rfl) (sa_nil)))))).e).p)))))))⟩
theorem rd__law_refused {K : PySem.W.Frag} {vs : List V} {H : Hp} {Q : VK} {E : XK} (h : sp__law_refused K vs H Q E) : (pk__law_refused K).1 { nx := fun _ H' => Q .non H', rt := Q } (start ["_law_way", "_law_sides", "_law_named", "_law_others", "_law_more", "e"] vs) H := rd_of (pk__law_refused K).2 rfl h
noncomputable abbrev sp_spread_down (K : PySem.W.Frag) : Sp := spOf K 2 mo_spread_down
noncomputable def pk_spread_down (K : PySem.W.Frag) : { t : TS // SS K t X_spread_down } := ⟨_, s_seq (s_asg (s_c rfl) (g_name 2)) (s_seq (s_while (s_test (SE.p (s_op r_lt (s_varP 2) (s_varP 1)))) (s_seq (s_asg (s_cb b_min2 (sp_cons ((s_op r_add (s_varP 2) ((s_c rfl).p)).p) (sp_cons ((s_op r_sub (s_varP 1) (s_varP 2)).p) (sp_nil)))) (g_name 3)) (s_seq (s_asg (s_call (E := E0) (sa_cons (s_var 0) (sa_cons (s_call (E := E0) (sa_cons (s_var 0) (sa_cons (s_c rfl) (sa_cons (s_var 3) (sa_nil)))) (len_cons (len_cons (len_cons (fun _ _ h => len_nil h))))) (sa_nil))) (len_cons (len_cons (fun _ _ h => len_nil h)))) (g_name 0)) (s_aug (s_varP 3) r_ipadd)))) (s_ret (s_var 0)))⟩
theorem rd_spread_down {K : PySem.W.Frag} {vs : List V} {H : Hp} {Q : VK} {E : XK} (h : sp_spread_down K vs H Q E) : (pk_spread_down K).1 { nx := fun _ H' => Q .non H', rt := Q } (start ["picture", "by", "done", "step"] vs) H := rd_of (pk_spread_down K).2 rfl h
noncomputable abbrev sp__law_made (K : PySem.W.Frag) : Sp := spOf K 2 mo__law_made
noncomputable def pk__law_made (K : PySem.W.Frag) : { t : TS // SS K t X__law_made } := ⟨_, s_seq (s_if (s_test (SE.p (s_op (r_eq false) (s_varP 0) ((s_c rfl).p)))) (s_ret (s_make (Ns := NS) (.head _) (sa_cons (s_op r_ix (s_varP 1) ((s_c rfl).p)) (sa_cons (s_op r_ix (s_varP 1) ((s_c rfl).p)) (sa_cons (s_op r_ix (s_varP 1) ((s_c rfl).p)) (sa_cons (s_op r_ix (s_varP 1) ((s_c rfl).p)) (sa_nil))))) (len_cons (len_cons (len_cons (len_cons (fun _ _ h => len_nil h))))))) (s_next)) (s_seq (s_if (s_test (SE.p (s_op (r_eq false) (s_varP 0) ((s_c rfl).p)))) (s_ret (s_make (Ns := NS) (.tail _ (.head _)) (sa_cons (s_op r_ix (s_varP 1) ((s_c rfl).p)) (sa_nil)) (len_cons (fun _ _ h => len_nil h)))) (s_next)) (s_ret (s_make (Ns := NS) (.tail _ (.tail _ (.head _))) (sa_cons (s_tup (sa_nil)) (sa_nil)) (len_cons (fun _ _ h => len_nil h)))))⟩
theorem rd__law_made {K : PySem.W.Frag} {vs : List V} {H : Hp} {Q : VK} {E : XK} (h : sp__law_made K vs H Q E) : (pk__law_made K).1 { nx := fun _ H' => Q .non H', rt := Q } (start ["_law_way", "_law_sides"] vs) H := rd_of (pk__law_made K).2 rfl h
noncomputable abbrev sp_greater_by_block (K : PySem.W.Frag) : Sp := spOf K 2 mo_greater_by_block
noncomputable def pk_greater_by_block (K : PySem.W.Frag) : { t : TS // SS K t X_greater_by_block } := ⟨_, s_seq (s_asg ((s_comp (i_seqP ((s_call (E := E0) (sa_cons (s_var 0) (sa_nil)) (len_cons (fun _ _ h => len_nil h))).p)) (g_tup (g_cons (g_name 0) (g_cons (g_name 1) (g_cons (g_name 2) (g_nil)))) (li_cons (li_cons (li_cons (li_nil))))) (s_yes) (s_tup (sa_cons (s_op r_add (s_varP 0) ((s_op r_ix (s_varP 3) ((s_c rfl).p)).p)) (sa_cons (s_op r_add (s_varP 1) ((s_op r_ix (s_varP 3) ((s_c rfl).p)).p)) (sa_cons (s_op r_add (s_varP 2) ((s_op r_ix (s_varP 3) ((s_c rfl).p)).p)) (sa_nil)))))).e) (g_name 2)) (s_seq (s_if (s_test (SE.p (s_op (r_eq false) ((s_op r_ix (s_varP 1) ((s_c rfl).p)).p) ((s_op r_ix (s_varP 1) ((s_c rfl).p)).p)))) (s_ret (s_var 2)) (s_next)) (s_ret (s_call (E := E0) (sa_cons (s_call (E := E0) (sa_cons (s_call (E := E0) (sa_cons (s_var 2) (sa_nil)) (len_cons (fun _ _ h => len_nil h))) (sa_cons (s_op r_sub ((s_op r_ix (s_varP 1) ((s_c rfl).p)).p) ((s_op r_ix (s_varP 1) ((s_c rfl).p)).p)) (sa_nil))) (len_cons (len_cons (fun _ _ h => len_nil h)))) (sa_nil)) (len_cons (fun _ _ h => len_nil h)))))⟩
theorem rd_greater_by_block {K : PySem.W.Frag} {vs : List V} {H : Hp} {Q : VK} {E : XK} (h : sp_greater_by_block K vs H Q E) : (pk_greater_by_block K).1 { nx := fun _ H' => Q .non H', rt := Q } (start ["picture", "block", "wide"] vs) H := rd_of (pk_greater_by_block K).2 rfl h
noncomputable abbrev sp_greater_by_part (K : PySem.W.Frag) : Sp := spOf K 2 mo_greater_by_part
noncomputable def pk_greater_by_part (K : PySem.W.Frag) : { t : TS // SS K t X_greater_by_part } := ⟨_, s_seq (s_asgF (s_lst (sa_nil))) (s_seq (s_for (i_seq (s_var 1)) (g_name 3) (s_extP (p_var 2) (s_call (E := E0) (sa_cons (s_var 0) (sa_cons (s_var 3) (sa_nil))) (len_cons (len_cons (fun _ _ h => len_nil h)))))) (s_frz 2 (s_ret (s_call (E := E0) (sa_cons (s_var 2) (sa_nil)) (len_cons (fun _ _ h => len_nil h))))))⟩
theorem rd_greater_by_part {K : PySem.W.Frag} {vs : List V} {H : Hp} {Q : VK} {E : XK} (h : sp_greater_by_part K vs H Q E) : (pk_greater_by_part K).1 { nx := fun _ H' => Q .non H', rt := Q } (start ["picture", "blocks", "stretches", "block"] vs) H := rd_of (pk_greater_by_part K).2 rfl h
noncomputable abbrev sp_Form_greater (K : PySem.W.Frag) : Sp := spOf K 2 mo_Form_greater
noncomputable def pk_Form_greater (K : PySem.W.Frag) : { t : TS // SS K t X_Form_greater } := ⟨_, s_seq (s_for (i_rev (sp_cons ((s_fld (s_var 0)).p) (sp_nil))) (g_name 2) (s_asg (s_call (E := E0) (sa_cons (s_var 1) (sa_cons (s_var 2) (sa_nil))) (len_cons (len_cons (fun _ _ h => len_nil h)))) (g_name 1))) (s_ret (s_var 1))⟩
theorem rd_Form_greater {K : PySem.W.Frag} {vs : List V} {H : Hp} {Q : VK} {E : XK} (h : sp_Form_greater K vs H Q E) : (pk_Form_greater K).1 { nx := fun _ H' => Q .non H', rt := Q } (start ["self", "picture", "blocks"] vs) H := rd_of (pk_Form_greater K).2 rfl h
noncomputable abbrev sp_Form_cells (K : PySem.W.Frag) : Sp := spOf K 1 mo_Form_cells
noncomputable def pk_Form_cells (K : PySem.W.Frag) : { t : TS // SS K t X_Form_cells } := ⟨_, s_ret (s_meth (s_var 0) (sa_cons (s_g) (sa_nil)) (len_cons (fun _ _ h => len_nil h)))⟩
theorem rd_Form_cells {K : PySem.W.Frag} {vs : List V} {H : Hp} {Q : VK} {E : XK} (h : sp_Form_cells K vs H Q E) : (pk_Form_cells K).1 { nx := fun _ H' => Q .non H', rt := Q } (start ["self"] vs) H := rd_of (pk_Form_cells K).2 rfl h
noncomputable abbrev sp__law_one (K : PySem.W.Frag) : Sp := spOf K 1 mo__law_one
noncomputable def pk__law_one (K : PySem.W.Frag) : { t : TS // SS K t X__law_one } := ⟨_, s_seq (s_asg (s_op r_sub ((s_un r_neg ((s_c rfl).p)).p) ((s_op r_ix (((s_lst (sa_cons (s_c rfl) (sa_cons (s_op r_mod ((s_cb b_abs (sp_cons (s_varP 0) (sp_nil))).p) ((s_op r_sub ((s_op r_pow ((s_c rfl).p) ((s_c rfl).p)).p) ((s_c rfl).p)).p)) (sa_nil)))).e).p) ((s_op r_mod ((s_op r_div (s_varP 0) ((s_c rfl).p)).p) ((s_c rfl).p)).p)).p)) (g_name 1)) (s_seq (s_asgF (s_lst (sa_cons (s_op r_mod ((s_op r_div (s_varP 0) ((s_c rfl).p)).p) ((s_c rfl).p)) (sa_cons (s_op r_mod ((s_op r_div (s_varP 0) ((s_c rfl).p)).p) ((s_c rfl).p)) (sa_cons (s_op r_mod ((s_cb b_abs (sp_cons (s_varP 0) (sp_nil))).p) ((s_op r_pow ((s_c rfl).p) ((s_c rfl).p)).p)) (sa_cons (s_op r_mod ((s_op r_div (s_varP 0) ((s_c rfl).p)).p) ((s_c rfl).p)) (sa_nil))))))) (s_seq (s_setP (s_var 1) (p_var 2) ((s_op r_mod (s_varP 0) ((s_c rfl).p)).p)) (s_seq (s_if (s_or (s_not (s_truK ((s_callB (E := E0) (sq_cons (((s_c rfl).p).q) (sq_cons ((s_varP 2).q) (sq_nil))) (len_cons (len_cons (fun _ _ h => len_nil h)))).p))) (s_or (s_not (s_truK ((s_call (E := E0) (sa_cons (s_c rfl) (sa_cons ((s_lst (sa_cons (s_var 1) (sa_nil))).e) (sa_nil))) (len_cons (len_cons (fun _ _ h => len_nil h)))).p))) (s_not (s_truK ((s_call (E := E0) (sa_cons (s_c rfl) (sa_cons ((s_lst (sa_nil)).e) (sa_nil))) (len_cons (len_cons (fun _ _ h => len_nil h)))).p))))) (s_ret (s_c rfl)) (s_next)) (s_seq (s_asgF (s_lst (sa_cons (s_op r_mod ((s_op r_div (s_varP 0) ((s_c rfl).p)).p) ((s_c rfl).p)) (sa_cons (s_op r_mod ((s_op r_div (s_varP 0) ((s_c rfl).p)).p) ((s_c rfl).p)) (sa_cons (s_op r_mod ((s_op r_div (s_varP 0) ((s_c rfl).p)).p) ((s_c rfl).p)) (sa_cons (s_op r_mod ((s_op r_div (s_varP 0) ((s_c rfl).p)).p) ((s_c rfl).p)) (sa_nil))))))) (s_seq (s_asg (s_op r_mul ((s_op r_add ((s_op r_add ((s_c rfl).p) ((s_op r_ix (s_varP 2) ((s_c rfl).p)).p)).p) ((s_op r_ix (s_varP 2) ((s_c rfl).p)).p)).p) ((s_op r_add ((s_op r_add ((s_c rfl).p) ((s_op r_ix (s_varP 2) ((s_c rfl).p)).p)).p) ((s_op r_ix (s_varP 2) ((s_c rfl).p)).p)).p)) (g_name 3)) (s_seq (s_frz 2 (s_if (s_test (SE.p (s_op (r_eq true) ((s_call (E := E0) (sa_cons (s_meth (s_call (E := E0) (sa_cons (s_c rfl) (sa_cons (s_var 2) (sa_nil))) (len_cons (len_cons (fun _ _ h => len_nil h)))) (sa_nil) (fun _ _ h => len_nil h)) (sa_nil)) (len_cons (fun _ _ h => len_nil h))).p) (s_varP 3)))) (s_ret (s_c rfl)) (s_next))) (s_frz 2 (s_ret (s_op (r_eq false) ((s_call (E := E0) (sa_cons (s_meth (s_call (E := E0) (sa_cons (s_c rfl) (sa_cons (s_var 2) (sa_nil))) (len_cons (len_cons (fun _ _ h => len_nil h)))) (sa_nil) (fun _ _ h => len_nil h)) (sa_nil)) (len_cons (fun _ _ h => len_nil h))).p) ((s_op r_add ((s_c rfl).p) ((s_op r_mul ((s_c rfl).p) ((s_op r_ix (s_varP 2) ((s_c rfl).p)).p)).p)).p))))))))))⟩
theorem rd__law_one {K : PySem.W.Frag} {vs : List V} {H : Hp} {Q : VK} {E : XK} (h : sp__law_one K vs H Q E) : (pk__law_one K).1 { nx := fun _ H' => Q .non H', rt := Q } (start ["_law_cell", "_law_below", "_law_sides", "_law_due"] vs) H := rd_of (pk__law_one K).2 rfl h
noncomputable abbrev sp_law (K : PySem.W.Frag) : Sp := spOf K 1 mo_law
noncomputable def pk_law (K : PySem.W.Frag) : { t : TS // SS K t X_law } := ⟨_, s_seq (s_for (i_seq (s_sl (s_varP 0) (s_noPart) (s_part ((s_c rfl).p)))) (g_name 1) (s_if (s_not (s_truK ((s_call (E := E0) (sa_cons (s_var 1) (sa_nil)) (len_cons (fun _ _ h => len_nil h))).p))) (s_ret (s_c rfl)) (s_next))) (s_ret (s_andV ((s_call (E := E0) (sa_cons (s_c rfl) (sa_nil)) (len_cons (fun _ _ h => len_nil h))).p) (s_call (E := E0) (sa_cons (s_un r_neg ((s_c rfl).p)) (sa_nil)) (len_cons (fun _ _ h => len_nil h)))))⟩
theorem rd_law {K : PySem.W.Frag} {vs : List V} {H : Hp} {Q : VK} {E : XK} (h : sp_law K vs H Q E) : (pk_law K).1 { nx := fun _ H' => Q .non H', rt := Q } (start ["_law_script", "_law_cell"] vs) H := rd_of (pk_law K).2 rfl h
end P
namespace P
open PySem L2 M Rw
theorem lim_of {n : Nat} (h : n ≤ 100000) : n ≤ LIM := Nat.le_trans h (by rw [lim_is]; decide)
theorem cut_map {α β : Type} (f : α → β) (xs : List α) (lo hi : Option Int) : cutD (xs.map f) lo hi = (cutD xs lo hi).map f := by
  unfold cutD
  rw [List.length_map, ← List.map_drop, ← List.map_take]
theorem cut_le {α : Type} (xs : List α) (lo hi : Option Int) : (cutD xs lo hi).length ≤ xs.length := by
  exact Nat.le_trans (List.length_take_le' _ _) (by rw [List.length_drop]; exact Nat.sub_le _ _)
theorem run_seq {m n : XS} {ρ ρ' : M.Env} (h : m ρ = some (.nx ρ')) : xSeq m n ρ = n ρ' := by unfold xSeq; rw [h]
theorem fn_rt {n : Nat} {x : XS} {ds : List D} {d : D} (h : x (ds.map .sh ++ List.replicate (n - ds.length) .un) = some (.rt d)) : (fnO n x ds).map O.d = some d := by unfold fnO; rw [h]; simp
theorem assoc_seq (a b d : XS) (ρ : M.Env) : xSeq a (xSeq b d) ρ = xSeq (xSeq a b) d ρ := by
  unfold xSeq
  cases a ρ with
  | none => rfl
  | some o => cases o <;> rfl
end P
namespace P
open PySem L2 M Rw
end P
namespace P
open PySem L2 M Rw
noncomputable abbrev Tri := Int × Int × Int
noncomputable abbrev Pic := List (Int × R)
noncomputable def TMem (ts : List Tri) (x y : Int) : Prop := ∃ t ∈ ts, t.1 = y ∧ t.2.1 ≤ x ∧ x ≤ t.2.2
noncomputable def PMem (p : Pic) (x y : Int) : Prop := ∃ q ∈ p, q.1 = y ∧ Mem q.2 x
structure GOk (gs : Pic) (ts : List Tri) : Prop where
  ne : ∀ g ∈ gs, g.2 ≠ [] ∧ Ok g.2
  up : gs.Pairwise fun a b => a.1 < b.1
  mem : ∀ x y, PMem gs x y ↔ TMem ts x y
  le : ∀ g ∈ gs, ∃ t ∈ ts, g.1 = t.1
  len : (gs.map fun g => g.2.length).sum = ts.length
end P
namespace P
open PySem L2 M Rw
mutual
theorem eqD_refl : ∀ (n : Nat) (d : D), okD n d = true → eqD d d = true
  | _, .non, _ => by simp [eqD]
  | _, .bl _, _ => by simp [eqD]
  | _, .int _, _ => by simp [eqD]
  | _, .str _, _ => by simp [eqD]
  | 0, .lst _, h => by simp [okD] at h
  | n + 1, .lst l, h => by rw [eqD]; exact eqDs_refl n l (by simpa [okD] using h)
  | 0, .tup _, h => by simp [okD] at h
  | n + 1, .tup l, h => by rw [eqD]; exact eqDs_refl n l (by simpa [okD] using h)
  | n, .ty _, h => by cases n <;> simp [okD] at h
  | n, .scr _, h => by cases n <;> simp [okD] at h
  | n, .ins _ _ _, h => by cases n <;> simp [okD] at h
theorem eqDs_refl : ∀ (n : Nat) (l : List D), okDs n l = true → eqDs l l = true
  | _, [], _ => by simp [eqDs]
  | n, d :: l, h => by
    rw [okDs, Bool.and_eq_true] at h
    rw [eqDs, eqD_refl n d h.1, eqDs_refl n l h.2]
    rfl
end
theorem okDs_map {α : Type} {n : Nat} {f : α → D} : ∀ (l : List α), (∀ a ∈ l, okD n (f a) = true) → okDs n (l.map f) = true
  | [], _ => by simp [okDs]
  | a :: l, h => by rw [List.map_cons, okDs, h a List.mem_cons_self, okDs_map l fun b hb => h b (List.mem_cons_of_mem _ hb)]; rfl
theorem dEq_self {d : D} (neg : Bool) (h : okD 50 d = true) : dEq neg d d = some (.bl (!neg)) := by
  unfold dEq
  rw [if_pos ⟨h, h⟩, eqD_refl 50 d h]
  cases neg <;> rfl
end P
namespace P
open PySem L2 M
noncomputable abbrev boxD (l u r d : Int) : D := .tup [.tup [.tup [.int (-l), .int (-u), .int r, .int d]]]
noncomputable abbrev crossD (a : Int) : D := .tup [.tup [.tup [.int (-a), .int 0, .int a, .int 0], .tup [.int 0, .int (-a), .int 0, .int a]]]
noncomputable def chk (f : D) (n : Int) : Bool := match m_Form_cells [f] with
  | some q => (match m__law_many [q] with
    | some (.int k) => decide (k = n)
    | _ => false)
  | none => false
theorem cross_chk : ∀ a : Fin 4, chk (.ins "Cross" ["parts"] [crossD ((a : Nat) : Int)]) (1 + 4 * ((a : Nat) : Int)) = true := by decide +kernel
theorem box_chk : ∀ l u r d : Fin 4, chk (.ins "Box" ["parts"] [boxD ((l : Nat) : Int) ((u : Nat) : Int) ((r : Nat) : Int) ((d : Nat) : Int)]) ((1 + ((l : Nat) : Int) + ((r : Nat) : Int)) * (1 + ((u : Nat) : Int) + ((d : Nat) : Int))) = true := by decide +kernel
theorem chk_ok {f : D} {n : Int} (h : chk f n = true) : ∃ q, m_Form_cells [f] = some q ∧ m__law_many [q] = some (.int n) := by
  unfold chk at h
  cases q : m_Form_cells [f] with
  | none => rw [q] at h; cases h
  | some d =>
    rw [q] at h
    refine ⟨d, rfl, ?_⟩
    dsimp only at h
    cases k : m__law_many [d] with
    | none => rw [k] at h; cases h
    | some v =>
      rw [k] at h
      cases v <;> try (cases h; done)
      exact congrArg (fun z => some (D.int z)) (of_decide_eq_true h)
theorem fin4 {x : Int} (h : 0 ≤ x ∧ x ≤ 3) : ∃ f : Fin 4, x = ((f : Nat) : Int) := ⟨⟨x.toNat, by lia⟩, by show x = (x.toNat : Int); lia⟩
theorem box_cells {l u r d : Int} (hl : 0 ≤ l ∧ l ≤ 3) (hu : 0 ≤ u ∧ u ≤ 3) (hr : 0 ≤ r ∧ r ≤ 3) (hd : 0 ≤ d ∧ d ≤ 3) : ∃ q : D, m_Form_cells [.ins "Box" ["parts"] [boxD l u r d]] = some q ∧ m__law_many [q] = some (.int ((1 + l + r) * (1 + u + d))) := by
  obtain ⟨l, rfl⟩ := fin4 hl
  obtain ⟨u, rfl⟩ := fin4 hu
  obtain ⟨r, rfl⟩ := fin4 hr
  obtain ⟨d, rfl⟩ := fin4 hd
  exact chk_ok (box_chk l u r d)
theorem cross_cells {a : Int} (ha : 0 ≤ a ∧ a ≤ 3) : ∃ q : D, m_Form_cells [.ins "Cross" ["parts"] [crossD a]] = some q ∧ m__law_many [q] = some (.int (1 + 4 * a)) := by
  obtain ⟨a, rfl⟩ := fin4 ha
  exact chk_ok (cross_chk a)
end P
namespace P
open PySem L2 M
theorem mi_Box_is (l u r d : Int) (h1 : 0 ≤ l) (h2 : 0 ≤ u) (h3 : 0 ≤ r) (h4 : 0 ≤ d) : mi_Box [.int l, .int u, .int r, .int d] = some (boxD l u r d) := by
  have hm : ∃ m : Int, bMin4 [.int l, .int u, .int r, .int d] = some (.int m) ∧ 0 ≤ m := by
    exact ⟨min l (min u (min r d)), rfl, Int.le_min.mpr ⟨h1, Int.le_min.mpr ⟨h2, Int.le_min.mpr ⟨h3, h4⟩⟩⟩⟩
  obtain ⟨m, hm, m0⟩ := hm
  have m1 : ¬ m < 0 := by lia
  simp [mi_Box, iniT, hm, m1]
theorem mi_Cross_is (a : Int) (h : 0 ≤ a) : mi_Cross [.int a] = some (crossD a) := by
  have h' : ¬ a < 0 := by lia
  simp [mi_Cross, iniT, h']
theorem dEq_bls (a b : List Bool) : dEq false (.lst (a.map D.bl)) (.lst (b.map D.bl)) = some (.bl (decide (a = b))) := by
  have h : ∀ l : List Bool, okD 50 (.lst (l.map D.bl)) = true := fun l => by
    rw [okD]
    exact okDs_map l fun b _ => by simp [okD]
  have e : ∀ a b : List Bool, eqDs (a.map D.bl) (b.map D.bl) = decide (a = b) := by
    intro a
    induction a with
    | nil => intro b; cases b <;> simp [eqDs]
    | cons x a ih =>
      intro b
      cases b with
      | nil => simp [eqDs]
      | cons y b =>
        rw [List.map_cons, List.map_cons, eqDs, ih]
        cases x <;> cases y <;> simp [eqD]
  unfold dEq
  rw [if_pos ⟨h a, h b⟩]
  simp only [eqD, e]
  rfl
theorem looks_no (l : List (List (Str × Bool))) (bs : List Bool) (h : lookN "NoForm" l = some bs) (n : Nat) (hb : bs.length ≤ 1000) (hn : n ≠ 5) (r : List (Nat × List (List (Str × Bool)))) (ρ : M.Env) : hSets 5 "NoForm" ((n, l) :: r) ρ = hSets 5 "NoForm" r (ρ.set n (.sh (.lst (bs.map .bl)))) := by
  rw [hSets, if_neg hn, h]
  show (if bs.length ≤ 1000 then _ else none) = _
  rw [if_pos hb]
theorem m__law_refused_is (way : Int) (sd : D) (h : rX__law_made [.int way, sd] = some (("NoForm" : Str))) : m__law_refused [.int way, sd] = some (.bl true) := by
  have l1 : lookN "NoForm" [ax_NoForm, ax_ValueError, ax_TooGreat, ax_TooMany] = some [true, true, false, false] := by first | rfl | decide +kernel
  have l2 : lookN "NoForm" [ax_NoText, ax_NoName, ax_NoRow, ax_NoBack] = some [false, false, false, false] := by first | rfl | decide +kernel
  have d1 := dEq_bls [true, true, false, false] [true, true, false, false]
  have d2 := dEq_bls [false, false, false, false] [false, false, false, false]
  have hc : xNs.contains "NoForm" = true := by first | rfl | decide +kernel
  have ht : xTry xNs 5 (xrE (xeCall rX__law_made (xCons (xVar 0) (xCons (xVar 1) xNil)))) [(2, [ax_NoForm, ax_ValueError, ax_TooGreat, ax_TooMany]), (3, [ax_NoText, ax_NoName, ax_NoRow, ax_NoBack])] [.sh (.int way), .sh sd, .sh (.lst []), .sh (.lst []), .sh (.lst []), .un] = some (.nx [.un, .un, .sh (.lst ([true, true, false, false].map .bl)), .sh (.lst ([false, false, false, false].map .bl)), .un, .un]) := by
    have hm : xrE (xeCall rX__law_made (xCons (xVar 0) (xCons (xVar 1) xNil))) [.sh (.int way), .sh sd, .sh (.lst []), .sh (.lst []), .sh (.lst []), .un] = some (.rz "NoForm") := by
      simp [h]
    unfold xTry
    rw [if_pos (by simp), hm]
    show (if xNs.contains "NoForm" then _ else none) = _
    rw [if_pos hc, looks_no _ _ l1 2 (by decide) (by decide), looks_no _ _ l2 3 (by decide) (by decide)]
    rfl
  have e0 : X__law_refused [.sh (.int way), .sh sd, .un, .un, .un, .un] = some (.rt (.bl true)) := by
    unfold X__law_refused
    refine (run_seq (ρ' := [.sh (.int way), .sh sd, .sh (.lst []), .un, .un, .un]) (by simp)).trans ?_
    refine (run_seq (ρ' := [.sh (.int way), .sh sd, .sh (.lst []), .sh (.lst []), .un, .un]) (by simp)).trans ?_
    refine (run_seq (ρ' := [.sh (.int way), .sh sd, .sh (.lst []), .sh (.lst []), .sh (.lst []), .un]) (by simp)).trans ?_
    refine (run_seq ht).trans ?_
    simp at d1 d2
    simp [d1, d2]
  exact fn_rt (n := 6) (ds := [.int way, sd]) e0
theorem min4_neg (l u r d : Int) (h : l < 0 ∨ u < 0 ∨ r < 0 ∨ d < 0) : ∃ m : Int, bMin4 [.int l, .int u, .int r, .int d] = some (.int m) ∧ m < 0 := by
  refine ⟨min l (min u (min r d)), rfl, ?_⟩
  rcases h with h | h | h | h
  · exact Int.lt_of_le_of_lt (Int.min_le_left _ _) h
  · exact Int.lt_of_le_of_lt (Int.le_trans (Int.min_le_right _ _) (Int.min_le_left _ _)) h
  · exact Int.lt_of_le_of_lt (Int.le_trans (Int.min_le_right _ _) (Int.le_trans (Int.min_le_right _ _) (Int.min_le_left _ _))) h
  · exact Int.lt_of_le_of_lt (Int.le_trans (Int.min_le_right _ _) (Int.le_trans (Int.min_le_right _ _) (Int.min_le_right _ _))) h
theorem at4 (a b c d : D) : atI [a, b, c, d] 0 = some a ∧ atI [a, b, c, d] 1 = some b ∧ atI [a, b, c, d] 2 = some c ∧ atI [a, b, c, d] 3 = some d := ⟨atI_of (j := 0) rfl, atI_of (j := 1) rfl, atI_of (j := 2) rfl, atI_of (j := 3) rfl⟩
theorem rX_box (l u r d : Int) (h : l < 0 ∨ u < 0 ∨ r < 0 ∨ d < 0) : rX__law_made [.int 0, .lst [.int l, .int u, .int r, .int d]] = some (("NoForm" : Str)) := by
  obtain ⟨m, hm, m0⟩ := min4_neg l u r d h
  have h0 : rX_Box___init__ [.int l, .int u, .int r, .int d] = some (("NoForm" : Str)) := by
    simp [rX_Box___init__, fnXI, Y_Box___init__, hm, m0]
  obtain ⟨a0, a1, a2, a3⟩ := at4 (.int l) (.int u) (.int r) (.int d)
  simp [rX__law_made, fnX, Y__law_made, a0, a1, a2, a3, h0]
theorem rX_cross (a : Int) (h : a < 0) : rX__law_made [.int 1, .lst [.int a]] = some (("NoForm" : Str)) := by
  have h0 : rX_Cross___init__ [.int a] = some (("NoForm" : Str)) := by
    simp [rX_Cross___init__, fnXI, Y_Cross___init__, h]
  have a0 : atI [D.int a] 0 = some (.int a) := atI_of (j := 0) rfl
  simp [rX__law_made, fnX, Y__law_made, a0, h0]
theorem rX_shape : rX__law_made [.int 2, .lst []] = some (("NoForm" : Str)) := by
  have e := dEq_self false (d := .tup []) (by simp [okD, okDs])
  simp at e
  have h0 : rX_Shape___init__ [.tup []] = some (("NoForm" : Str)) := by
    simp [rX_Shape___init__, fnXI, Y_Shape___init__, e]
  simp [rX__law_made, fnX, Y__law_made, h0]
theorem made_box (l u r d : Int) (h1 : 0 ≤ l) (h2 : 0 ≤ u) (h3 : 0 ≤ r) (h4 : 0 ≤ d) : m__law_made [.int 0, .lst [.int l, .int u, .int r, .int d]] = some (.ins "Box" ["parts"] [boxD l u r d]) := by
  obtain ⟨a0, a1, a2, a3⟩ := at4 (.int l) (.int u) (.int r) (.int d)
  have hm := mi_Box_is l u r d h1 h2 h3 h4
  simp [m__law_made, mo__law_made, fnO, X__law_made, a0, a1, a2, a3, hm]
theorem made_cross (l u r d : Int) (h1 : 0 ≤ l) : m__law_made [.int 1, .lst [.int l, .int u, .int r, .int d]] = some (.ins "Cross" ["parts"] [crossD l]) := by
  obtain ⟨a0, a1, a2, a3⟩ := at4 (.int l) (.int u) (.int r) (.int d)
  have hm := mi_Cross_is l h1
  simp [m__law_made, mo__law_made, fnO, X__law_made, a0, a1, a2, a3, hm]
end P
namespace P
open PySem L2 M
theorem call1 (m : List D → Option D) (e : XE) (ρ : M.Env) (d : D) (h : e ρ = some d) : xCall m (xCons e xNil) ρ = m [d] := by simp [h]
theorem law_one_is (c : Int) : m__law_one [.int c] = some (.bl true) := by
  obtain ⟨P60, hP⟩ : ∃ P : Int, (10 : Int) ^ (60 : Int).toNat = P := ⟨_, rfl⟩
  have p60 : dPow (.int 10) (.int 60) = some (.int P60) := by rw [← hP]; exact v_pow (by decide)
  have h60 : 1 < P60 := by rw [← hP]; decide
  have h61 : 0 < P60 - 1 := by lia
  have h62 : 0 < P60 := by lia
  obtain ⟨a, ha⟩ : ∃ a : Int, (if c < 0 then -c else c) = a := ⟨_, rfl⟩
  have hab : bAbs [.int c] = some (.int a) := by rw [← ha]; rfl
  obtain ⟨w, hw, hw0⟩ : ∃ w : Int, atI [D.int 0, D.int (a % (P60 - 1))] (c / 4 % 2) = some (.int w) ∧ 0 ≤ w := by
    rcases (show c / 4 % 2 = 0 ∨ c / 4 % 2 = 1 by lia) with h | h <;> rw [h]
    · exact ⟨0, atI_of (j := 0) rfl, by lia⟩
    · exact ⟨a % (P60 - 1), atI_of (j := 1) rfl, Int.emod_nonneg _ (by lia)⟩
  obtain ⟨b, hb⟩ : ∃ b : Int, -1 - w = b := ⟨_, rfl⟩
  have hb0 : b < 0 := by lia
  have s1 : xAsg (xOp (dSub) (xUn dNeg (xC (.int 1))) (xOp dIx (xL (xLst (xCons (xC (.int 0)) (xCons (xOp (dMod) (xCB bAbs (xCons (xVarP 0) (xNil))) (xOp (dSub) (xOp (dPow) (xC (.int 10)) (xC (.int 60))) (xC (.int 1)))) (xNil))))) (xOp (dMod) (xOp (dDiv) (xVarP 0) (xC (.int 4))) (xC (.int 2))))) (xgName 1) [.sh (.int c), .un, .un, .un] = some (.nx [.sh (.int c), .sh (.int b), .un, .un]) := by
    have hm : dMod (.int a) (.int (P60 - 1)) = some (.int (a % (P60 - 1))) := v_mod h61
    simp [hab, p60, hm, hw, hb]
  obtain ⟨l, u, r, d, s23, hneg⟩ : ∃ l u r d : Int, xSeq (xAsgF (xLst (xCons (xOp (dMod) (xOp (dDiv) (xVarP 0) (xC (.int 8))) (xC (.int 4))) (xCons (xOp (dMod) (xOp (dDiv) (xVarP 0) (xC (.int 32))) (xC (.int 4))) (xCons (xOp (dMod) (xCB bAbs (xCons (xVarP 0) (xNil))) (xOp (dPow) (xC (.int 10)) (xC (.int 60)))) (xCons (xOp (dMod) (xOp (dDiv) (xVarP 0) (xC (.int 128))) (xC (.int 4))) (xNil)))))) 2) (xSetP 2 xPv (xOp (dMod) (xVarP 0) (xC (.int 4))) (xVar 1)) [.sh (.int c), .sh (.int b), .un, .un] = some (.nx [.sh (.int c), .sh (.int b), .ow (.lst [.sh (.int l), .sh (.int u), .sh (.int r), .sh (.int d)]), .un]) ∧ (l < 0 ∨ u < 0 ∨ r < 0 ∨ d < 0) := by
    have e0 : ixN 4 0 = some 0 := by decide
    have e1 : ixN 4 1 = some 1 := by decide
    have e2 : ixN 4 2 = some 2 := by decide
    have e3 : ixN 4 3 = some 3 := by decide
    rcases (show c % 4 = 0 ∨ c % 4 = 1 ∨ c % 4 = 2 ∨ c % 4 = 3 by lia) with h | h | h | h
    · exact ⟨b, c / 32 % 4, a % P60, c / 128 % 4, by simp [hab, p60, h62, h, e0, subO, putO, putL], .inl hb0⟩
    · exact ⟨c / 8 % 4, b, a % P60, c / 128 % 4, by simp [hab, p60, h62, h, e1, subO, putO, putL], .inr (.inl hb0)⟩
    · exact ⟨c / 8 % 4, c / 32 % 4, b, c / 128 % 4, by simp [hab, p60, h62, h, e2, subO, putO, putL], .inr (.inr (.inl hb0))⟩
    · exact ⟨c / 8 % 4, c / 32 % 4, a % P60, b, by simp [hab, p60, h62, h, e3, subO, putO, putL], .inr (.inr (.inr hb0))⟩
  have r1 := m__law_refused_is 0 _ (rX_box l u r d hneg)
  have r2 := m__law_refused_is 1 _ (rX_cross b hb0)
  have r3 := m__law_refused_is 2 _ rX_shape
  obtain ⟨x0, hx0⟩ : ∃ x : Int, c / 8 % 4 = x := ⟨_, rfl⟩
  obtain ⟨x1, hx1⟩ : ∃ x : Int, c / 32 % 4 = x := ⟨_, rfl⟩
  obtain ⟨x2, hx2⟩ : ∃ x : Int, c / 128 % 4 = x := ⟨_, rfl⟩
  obtain ⟨x3, hx3⟩ : ∃ x : Int, c / 512 % 4 = x := ⟨_, rfl⟩
  have b0 : 0 ≤ x0 ∧ x0 ≤ 3 := by lia
  have b1 : 0 ≤ x1 ∧ x1 ≤ 3 := by lia
  have b2 : 0 ≤ x2 ∧ x2 ≤ 3 := by lia
  have b3 : 0 ≤ x3 ∧ x3 ≤ 3 := by lia
  have m1 := made_box x0 x1 x2 x3 b0.1 b1.1 b2.1 b3.1
  have m2 := made_cross x0 x1 x2 x3 b0.1
  obtain ⟨q1, c1, k1⟩ := box_cells b0 b1 b2 b3
  obtain ⟨q2, c2, k2⟩ := cross_cells b0
  obtain ⟨t0, t1, t2, t3⟩ := at4 (.int x0) (.int x1) (.int x2) (.int x3)
  have e1 : dMul (.int (1 + x0 + x2)) (.int (1 + x1 + x3)) = some (.int ((1 + x0 + x2) * (1 + x1 + x3))) := v_mulL (by lia)
  have e2 : dMul (.int 4) (.int x0) = some (.int (4 * x0)) := v_mulL (by lia)
  have mb : ∀ ρ : M.Env, xCall m__law_made (xCons (xC (.int 0)) (xCons (xVar 2) xNil)) ρ = some (D.ins "Box" ["parts"] [boxD x0 x1 x2 x3]) → xMeth NS "cells" m_Form_cells (xCall m__law_made (xCons (xC (.int 0)) (xCons (xVar 2) xNil))) xNil ρ = some (q1) := fun ρ h => by
    unfold xMeth
    rw [h]
    show (if NS.contains "Box" && !(["parts"] : List Str).contains "cells" then m_Form_cells [D.ins "Box" ["parts"] [boxD x0 x1 x2 x3]] else none) = _
    rw [if_pos (by decide), c1]
  have mc : ∀ ρ : M.Env, xCall m__law_made (xCons (xC (.int 1)) (xCons (xVar 2) xNil)) ρ = some (D.ins "Cross" ["parts"] [crossD x0]) → xMeth NS "cells" m_Form_cells (xCall m__law_made (xCons (xC (.int 1)) (xCons (xVar 2) xNil))) xNil ρ = some (q2) := fun ρ h => by
    unfold xMeth
    rw [h]
    show (if NS.contains "Cross" && !(["parts"] : List Str).contains "cells" then m_Form_cells [.ins "Cross" ["parts"] [crossD x0]] else none) = _
    rw [if_pos (by decide), c2]
  have e : X__law_one [.sh (.int c), .un, .un, .un] = some (.rt (.bl true)) := by
    unfold X__law_one
    refine (run_seq s1).trans ?_
    rw [assoc_seq]
    refine (run_seq s23).trans ?_
    refine (run_seq (ρ' := [.sh (.int c), .sh (.int b), .ow (.lst [.sh (.int l), .sh (.int u), .sh (.int r), .sh (.int d)]), .un]) (by simp [r1, r2, r3, flat])).trans ?_
    refine (run_seq (ρ' := [.sh (.int c), .sh (.int b), .ow (.lst [.sh (.int x0), .sh (.int x1), .sh (.int x2), .sh (.int x3)]), .un]) (by simp [hx0, hx1, hx2, hx3])).trans ?_
    refine (run_seq (ρ' := [.sh (.int c), .sh (.int b), .ow (.lst [.sh (.int x0), .sh (.int x1), .sh (.int x2), .sh (.int x3)]), .sh (.int ((1 + x0 + x2) * (1 + x1 + x3)))]) (by simp [t0, t1, t2, t3, e1])).trans ?_
    have fz : M.frz 2 [.sh (.int c), .sh (.int b), .ow (.lst [.sh (.int x0), .sh (.int x1), .sh (.int x2), .sh (.int x3)]), .sh (.int ((1 + x0 + x2) * (1 + x1 + x3)))] = [.sh (.int c), .sh (.int b), .sh (.lst [.int x0, .int x1, .int x2, .int x3]), .sh (.int ((1 + x0 + x2) * (1 + x1 + x3)))] := by simp [M.frz]
    have fz2 : M.frz 2 [.sh (.int c), .sh (.int b), .sh (.lst [.int x0, .int x1, .int x2, .int x3]), .sh (.int ((1 + x0 + x2) * (1 + x1 + x3)))] = [.sh (.int c), .sh (.int b), .sh (.lst [.int x0, .int x1, .int x2, .int x3]), .sh (.int ((1 + x0 + x2) * (1 + x1 + x3)))] := by simp [M.frz]
    have hb1 := mb [.sh (.int c), .sh (.int b), .sh (.lst [.int x0, .int x1, .int x2, .int x3]), .sh (.int ((1 + x0 + x2) * (1 + x1 + x3)))] (by simp [m1])
    have hc1 := mc [.sh (.int c), .sh (.int b), .sh (.lst [.int x0, .int x1, .int x2, .int x3]), .sh (.int ((1 + x0 + x2) * (1 + x1 + x3)))] (by simp [m2])
    have g1 : xCall m__law_many (xCons (xMeth NS "cells" m_Form_cells (xCall m__law_made (xCons (xC (.int 0)) (xCons (xVar 2) xNil))) xNil) xNil) [.sh (.int c), .sh (.int b), .sh (.lst [.int x0, .int x1, .int x2, .int x3]), .sh (.int ((1 + x0 + x2) * (1 + x1 + x3)))] = some (.int ((1 + x0 + x2) * (1 + x1 + x3))) := by
      exact (call1 _ _ _ _ hb1).trans k1
    have g2 : xCall m__law_many (xCons (xMeth NS "cells" m_Form_cells (xCall m__law_made (xCons (xC (.int 1)) (xCons (xVar 2) xNil))) xNil) xNil) [.sh (.int c), .sh (.int b), .sh (.lst [.int x0, .int x1, .int x2, .int x3]), .sh (.int ((1 + x0 + x2) * (1 + x1 + x3)))] = some (.int (1 + 4 * x0)) := by
      exact (call1 _ _ _ _ hc1).trans k2
    refine (run_seq (ρ' := [.sh (.int c), .sh (.int b), .sh (.lst [.int x0, .int x1, .int x2, .int x3]), .sh (.int ((1 + x0 + x2) * (1 + x1 + x3)))]) ?_).trans ?_
    · unfold xFrz
      rw [fz]
      unfold xIf xB xOp
      rw [g1]
      simp
    · unfold xFrz
      rw [fz2]
      unfold xRet xOp
      rw [g2]
      simp [t0, e2]
  exact fn_rt (n := 4) (ds := [.int c]) e
theorem m_law_is (ns : List Int) (h : ns.length ≤ 63) : m_law [.scr (ns.map D.int)] = some (.bl true) := by
  have key : ∀ (l : List Int) (s0 v : Sl), ∃ w, loopF (xgName 1) B_law_0 (l.map D.int) [s0, v] = some (.nx [s0, w]) := by
    intro l
    induction l with
    | nil => exact fun s0 v => ⟨v, rfl⟩
    | cons c l ih =>
      intro s0 v
      obtain ⟨w, hw⟩ := ih s0 (.sh (.int c))
      have h1 := law_one_is c
      exact ⟨w, by rw [← hw]; simp [loopF_cons, B_law_0, h1]⟩
  have o1 := law_one_is 0
  have o2 := law_one_is (-1)
  have hc := cut_le ns none (some 63)
  obtain ⟨w, hw⟩ := key (cutD ns none (some 63)) (.sh (.scr (ns.map D.int))) .un
  have hl : (cutD ns none (some 63)).length ≤ LIM := lim_of (by lia)
  simp [m_law, mo_law, fnO, X_law, cut_map, hl, hw, o1, o2]
end P
namespace Lw
open PySem L2 M P
noncomputable def top (i : Nat) : Stmt := PySem.Challenge.pw_shapethin_k36_no_forms.main.body.getD i (.Pass ⟨0, 0, 0, 0⟩)
noncomputable abbrev s_row_of : Stmt := top 11
noncomputable abbrev s_row_moved : Stmt := top 12
noncomputable abbrev s_picture_of : Stmt := top 14
noncomputable abbrev s_stretches_of : Stmt := top 15
noncomputable abbrev s_join : Stmt := top 16
noncomputable abbrev s_moved : Stmt := top 17
noncomputable abbrev s_blocks_of : Stmt := top 20
noncomputable abbrev s_spread_down : Stmt := top 21
noncomputable abbrev s_greater_by_block : Stmt := top 22
noncomputable abbrev s_greater_by_part : Stmt := top 23
noncomputable abbrev s__law_made : Stmt := top 29
noncomputable abbrev s__law_refused : Stmt := top 30
noncomputable abbrev s__law_many : Stmt := top 31
noncomputable abbrev s__law_one : Stmt := top 32
noncomputable abbrev s_law : Stmt := top 33
noncomputable abbrev s_Form___init__ : Stmt := inClass (top 24) 0
noncomputable abbrev s_Form_cells : Stmt := inClass (top 24) 1
noncomputable abbrev s_Form_greater : Stmt := inClass (top 24) 2
noncomputable abbrev s_Box___init__ : Stmt := inClass (top 25) 0
noncomputable abbrev s_Cross___init__ : Stmt := inClass (top 26) 0
noncomputable abbrev s_Shape___init__ : Stmt := inClass (top 27) 0
structure Txt (K : PySem.W.Frag) (mg : Str → Option Value) : Prop where
  ValueError : mg "ValueError" = none
  abs : mg "abs" = none
  isinstance : mg "isinstance" = none
  max : mg "max" = none
  min : mg "min" = none
  reversed : mg "reversed" = none
  sorted : mg "sorted" = none
  tuple : mg "tuple" = none
  ONE_CELL : ∃ (u : Value) (v : V), mg "ONE_CELL" = some u ∧ RelV v u ∧ ∀ S, Den K S (.tup [.tup [.int (0), .tup [.tup [.int (0), .int (0)]]]]) v
  cN : ClsN K NS fun C => Cls K C ∧ NoAttr K C "parts"
  xc_ShapeError : ∃ T : Addr, mg "ShapeError" = some (.ref T) ∧ ∀ N ∈ xNs, ∀ C : Addr, PySem.W.nsIn K mainGlobals N = some (some (.ref C)) → PySem.W.exmOne K (.ref C) (.ref T) = some true
  xa_NoBack : ∃ T : Addr, mg "NoBack" = some (.ref T) ∧ AnsX K ax_NoBack (.ref T)
  xa_NoForm : ∃ T : Addr, mg "NoForm" = some (.ref T) ∧ AnsX K ax_NoForm (.ref T)
  xa_NoName : ∃ T : Addr, mg "NoName" = some (.ref T) ∧ AnsX K ax_NoName (.ref T)
  xa_NoRow : ∃ T : Addr, mg "NoRow" = some (.ref T) ∧ AnsX K ax_NoRow (.ref T)
  xa_NoText : ∃ T : Addr, mg "NoText" = some (.ref T) ∧ AnsX K ax_NoText (.ref T)
  xa_TooGreat : ∃ T : Addr, mg "TooGreat" = some (.ref T) ∧ AnsX K ax_TooGreat (.ref T)
  xa_TooMany : ∃ T : Addr, mg "TooMany" = some (.ref T) ∧ AnsX K ax_TooMany (.ref T)
  xa_ValueError : AnsX K ax_ValueError (.type "ValueError")
  xr_NoForm : ∃ C : Addr, PySem.W.nsIn K mainGlobals "NoForm" = some (some (.ref C)) ∧ PySem.W.excIn K C bmV "ValueError.__new__" = true ∧ mg "NoForm" = some (.ref C)
section
variable {P : Program} {w : World} {K : PySem.W.Frag} {mg : Str → Option Value} {base : Heap}
theorem sc_row_of : FnScope ["pairs", "stretches", "a", "b"] ["pairs"] (defScope s_row_of) := ⟨rfl, rfl, rfl, by decide +kernel, rfl, by decide +kernel, by decide +kernel⟩
theorem sc_row_moved : FnScope ["row", "by"] ["row", "by"] (defScope s_row_moved) := ⟨rfl, rfl, rfl, by decide +kernel, rfl, by decide +kernel, by decide +kernel⟩
theorem sc_stretches_of : FnScope ["picture", "stretches", "y", "row"] ["picture"] (defScope s_stretches_of) := ⟨rfl, rfl, rfl, by decide +kernel, rfl, by decide +kernel, by decide +kernel⟩
theorem sc__law_many : FnScope ["_law_cells", "_law_total", "_law_y", "_law_row", "_law_low", "_law_high"] ["_law_cells"] (defScope s__law_many) := ⟨rfl, rfl, rfl, by decide +kernel, rfl, by decide +kernel, by decide +kernel⟩
theorem sc_Form___init__ : FnScope ["self", "parts"] ["self", "parts"] (defScope s_Form___init__) := ⟨rfl, rfl, rfl, by decide +kernel, rfl, by decide +kernel, by decide +kernel⟩
theorem sc_picture_of : FnScope ["stretches", "pairs_by_row", "y", "a", "b"] ["stretches"] (defScope s_picture_of) := ⟨rfl, rfl, rfl, by decide +kernel, rfl, by decide +kernel, by decide +kernel⟩
theorem sc_moved : FnScope ["picture", "dx", "dy"] ["picture", "dx", "dy"] (defScope s_moved) := ⟨rfl, rfl, rfl, by decide +kernel, rfl, by decide +kernel, by decide +kernel⟩
theorem sc_blocks_of : FnScope ["picture", "blocks", "a", "b", "y"] ["picture"] (defScope s_blocks_of) := ⟨rfl, rfl, rfl, by decide +kernel, rfl, by decide +kernel, by decide +kernel⟩
theorem sc_Box___init__ : FnScope ["self", "left", "up", "right", "down"] ["self", "left", "up", "right", "down"] (defScope s_Box___init__) := ⟨rfl, rfl, rfl, by decide +kernel, rfl, by decide +kernel, by decide +kernel⟩
theorem sc_Cross___init__ : FnScope ["self", "arm"] ["self", "arm"] (defScope s_Cross___init__) := ⟨rfl, rfl, rfl, by decide +kernel, rfl, by decide +kernel, by decide +kernel⟩
theorem sc_join : FnScope ["one", "other"] ["one", "other"] (defScope s_join) := ⟨rfl, rfl, rfl, by decide +kernel, rfl, by decide +kernel, by decide +kernel⟩
theorem sc_Shape___init__ : FnScope ["self", "picture"] ["self", "picture"] (defScope s_Shape___init__) := ⟨rfl, rfl, rfl, by decide +kernel, rfl, by decide +kernel, by decide +kernel⟩
theorem sc_spread_down : FnScope ["picture", "by", "done", "step"] ["picture", "by"] (defScope s_spread_down) := ⟨rfl, rfl, rfl, by decide +kernel, rfl, by decide +kernel, by decide +kernel⟩
theorem sc__law_refused : FnScope ["_law_way", "_law_sides", "_law_named", "_law_others", "_law_more", "e"] ["_law_way", "_law_sides"] (defScope s__law_refused) := ⟨rfl, rfl, rfl, by decide +kernel, rfl, by decide +kernel, by decide +kernel⟩
theorem sc_greater_by_block : FnScope ["picture", "block", "wide"] ["picture", "block"] (defScope s_greater_by_block) := ⟨rfl, rfl, rfl, by decide +kernel, rfl, by decide +kernel, by decide +kernel⟩
theorem sc__law_made : FnScope ["_law_way", "_law_sides"] ["_law_way", "_law_sides"] (defScope s__law_made) := ⟨rfl, rfl, rfl, by decide +kernel, rfl, by decide +kernel, by decide +kernel⟩
theorem sc_greater_by_part : FnScope ["picture", "blocks", "stretches", "block"] ["picture", "blocks"] (defScope s_greater_by_part) := ⟨rfl, rfl, rfl, by decide +kernel, rfl, by decide +kernel, by decide +kernel⟩
theorem sc_Form_greater : FnScope ["self", "picture", "blocks"] ["self", "picture"] (defScope s_Form_greater) := ⟨rfl, rfl, rfl, by decide +kernel, rfl, by decide +kernel, by decide +kernel⟩
theorem sc_Form_cells : FnScope ["self"] ["self"] (defScope s_Form_cells) := ⟨rfl, rfl, rfl, by decide +kernel, rfl, by decide +kernel, by decide +kernel⟩
theorem sc__law_one : FnScope ["_law_cell", "_law_below", "_law_sides", "_law_due"] ["_law_cell"] (defScope s__law_one) := ⟨rfl, rfl, rfl, by decide +kernel, rfl, by decide +kernel, by decide +kernel⟩
theorem sc_law : FnScope ["_law_script", "_law_cell"] ["_law_script"] (defScope s_law) := ⟨rfl, rfl, rfl, by decide +kernel, rfl, by decide +kernel, by decide +kernel⟩
theorem ok_Form___init__ {f : Addr} {fd : FuncData} (F : Fun K "__init__" "Form.__init__" s_Form___init__ f fd) (T : Txt K mg) : FnOk P w K mg base CX0 1 f fd ["self", "parts"] (sp_Form___init__ K) := by
  refine F.ok sc_Form___init__ (fun vs H Q E h => h.1) (fun cdv A outer s H vs Q E hr h => ?_)
  exact ⟨_, pss_one (ps_fld (pv 0) (pv 1) rfl), ini_base T.cN h⟩
theorem okX_Box___init__ {f : Addr} {fd : FuncData} (F : Fun K "__init__" "Box.__init__" s_Box___init__ f fd) (T : Txt K mg) : FnOk P w K mg base (CXe P w) 1 f fd ["self", "left", "up", "right", "down"] (spX_Box___init__ K) := by
  refine F.okX sc_Box___init__ (fun vs H Q E h => h.1) (fun cdv A outer s H vs Q E hr h => ?_)
  have nd := (sc_Box___init__).nd
  exact ⟨_, pss_stop (ps_if (pt_cmpR op_lt (pe_callB (call_min4 rfl) (by rfl) T.min bt_min (pa_cons (pv 1) (pa_cons (pv 2) (pa_cons (pv 3) (pa_cons (pv 4) (pa_nil)))))) (pe_int) (nomark _)) (pss_one (ps_raise raise_e T.xr_NoForm hr.hd (by rfl) (pe_str))) (pss_nil)), rdX_Box___init__ h⟩
theorem okX_Cross___init__ {f : Addr} {fd : FuncData} (F : Fun K "__init__" "Cross.__init__" s_Cross___init__ f fd) (T : Txt K mg) : FnOk P w K mg base (CXe P w) 1 f fd ["self", "arm"] (spX_Cross___init__ K) := by
  refine F.okX sc_Cross___init__ (fun vs H Q E h => h.1) (fun cdv A outer s H vs Q E hr h => ?_)
  have nd := (sc_Cross___init__).nd
  exact ⟨_, pss_stop (ps_if (pt_cmpR op_lt (pv 1) (pe_int) (nomark _)) (pss_one (ps_raise raise_e T.xr_NoForm hr.hd (by rfl) (pe_str))) (pss_nil)), rdX_Cross___init__ h⟩
theorem okX_Shape___init__ {f : Addr} {fd : FuncData} (F : Fun K "__init__" "Shape.__init__" s_Shape___init__ f fd) (T : Txt K mg) : FnOk P w K mg base (CXe P w) 1 f fd ["self", "picture"] (spX_Shape___init__ K) := by
  refine F.okX sc_Shape___init__ (fun vs H Q E h => h.1) (fun cdv A outer s H vs Q E hr h => ?_)
  have nd := (sc_Shape___init__).nd
  exact ⟨_, pss_stop (ps_if (pt_cmpR (op_eqM hr.units) (pv 1) (pe_tup (pa_nil)) (nomark _)) (pss_one (ps_raise raise_e T.xr_NoForm hr.hd (by rfl) (pe_str))) (pss_nil)), rdX_Shape___init__ h⟩
theorem ok__law_many {f : Addr} {fd : FuncData} (F : Fun K "_law_many" "_law_many" s__law_many f fd) (T : Txt K mg) : FnOk P w K mg base CX0 1 f fd ["_law_cells"] (sp__law_many K) := by
  refine F.ok sc__law_many (fun vs H Q E h => h.1) (fun cdv A outer s H vs Q E hr h => ?_)
  have nd := (sc__law_many).nd
  exact ⟨_, pss_cons (ps_set (i := 1) nd rfl (Or.inl rfl) (pe_int)) (pss_cons (ps_for PassesOwn.never rfl (pi_seq (pv 0)) (pg_tup rfl (pgs_cons (pg_name (i := 2) nd rfl (Or.inl rfl)) (pgs_cons (pg_name (i := 3) nd rfl (Or.inl rfl)) (pgs_nil)))) (pss_one (ps_for PassesOwn.never rfl (pi_seq (pv 3)) (pg_tup rfl (pgs_cons (pg_name (i := 4) nd rfl (Or.inl rfl)) (pgs_cons (pg_name (i := 5) nd rfl (Or.inl rfl)) (pgs_nil)))) (pss_one (ps_set (i := 1) nd rfl (Or.inl rfl) (pe_op op_addM (pe_op op_sub (pe_op op_addM (pv 1) (pv 5)) (pv 4)) (pe_int))))))) (pss_one (ps_ret (pv 1)))), rd__law_many h⟩
theorem ok_row_moved {f : Addr} {fd : FuncData} (F : Fun K "row_moved" "row_moved" s_row_moved f fd) (T : Txt K mg) : FnOk P w K mg base CX0 1 f fd ["row", "by"] (sp_row_moved K) := by
  refine F.ok sc_row_moved (fun vs H Q E h => h.1) (fun cdv A outer s H vs Q E hr h => ?_)
  have nd := (sc_row_moved).nd
  exact ⟨_, pss_one (ps_ret (pe_callTy call_tuple_of (by rfl) T.tuple bt_tuple (pa_cons (pe_comp (show CmpOk ["row", "by"] (defScope s_row_moved) _ ["a", "b", "by"] [none, none, some 1] from cmpok) (pi_seq (pv 0)) (fun _ => pg_tup rfl (pgs_cons (pg_name (i := 0) (show List.Nodup (["a", "b", "by"] : List Str) from by decide +kernel) rfl (Or.inl rfl)) (pgs_cons (pg_name (i := 1) (show List.Nodup (["a", "b", "by"] : List Str) from by decide +kernel) rfl (Or.inl rfl)) (pgs_nil)))) (st_tup (sts_cons (st_name) (sts_cons (st_name) (sts_nil) gName_mono) gName_mono)) (fun _ => pif_nil) (fun _ => pe_tup (pa_cons (pe_op op_addM (pv 0) (pv 2)) (pa_cons (pe_op op_addM (pv 1) (pv 2)) (pa_nil))))) (pa_nil)))), rd_row_moved h⟩
theorem ok_row_of {f : Addr} {fd : FuncData} (F : Fun K "row_of" "row_of" s_row_of f fd) (T : Txt K mg) : FnOk P w K mg base CX0 1 f fd ["pairs"] (sp_row_of K) := by
  refine F.ok sc_row_of (fun vs H Q E h => h.1) (fun cdv A outer s H vs Q E hr h => ?_)
  have nd := (sc_row_of).nd
  exact ⟨_, pss_cons (ps_set (i := 1) nd rfl (Or.inl rfl) (pe_lst (pa_nil))) (pss_cons (ps_for PassesOwn.never rfl (pi_seq (pe_callB call_sortedM (by rfl) T.sorted bt_sorted (pa_cons (pe_comp (show CmpOk ["pairs", "stretches", "a", "b"] (defScope s_row_of) _ ["a", "b"] [none, none] from cmpok) (pi_seq (pv 0)) (fun _ => pg_tup rfl (pgs_cons (pg_name (i := 0) (show List.Nodup (["a", "b"] : List Str) from by decide +kernel) rfl (Or.inl rfl)) (pgs_cons (pg_name (i := 1) (show List.Nodup (["a", "b"] : List Str) from by decide +kernel) rfl (Or.inl rfl)) (pgs_nil)))) (st_tup (sts_cons (st_name) (sts_cons (st_name) (sts_nil) gName_mono) gName_mono)) (fun _ => pif_one (pt_cmpR op_le (pv 0) (pv 1) (nomark _))) (fun _ => pe_tup (pa_cons (pv 0) (pa_cons (pv 1) (pa_nil))))) (pa_nil)))) (pg_tup rfl (pgs_cons (pg_name (i := 2) nd rfl (Or.inl rfl)) (pgs_cons (pg_name (i := 3) nd rfl (Or.inl rfl)) (pgs_nil)))) (pss_one (ps_if (PW.pt (pw_and (pt_truth (pv 1) (fun _ => rfl)) (pw_and1 (pt_cmpR op_le (pv 2) (pe_op op_addM (pe_ix ix_seq (pe_ix ix_seq (pv 1) (pe_un un_neg (pe_int)) (fun _ _ => rfl)) (pe_int) (fun _ _ => rfl)) (pe_int)) (nomark _))))) (pss_one (ps_asg (pe_tup (pa_cons (pe_ix ix_seq (pe_ix ix_seq (pv 1) (pe_un un_neg (pe_int)) (fun _ _ => rfl)) (pe_int) (fun _ _ => rfl)) (pa_cons (pe_callB (call_max2 rfl) (by rfl) T.max bt_max (pa_cons (pe_ix ix_seq (pe_ix ix_seq (pv 1) (pe_un un_neg (pe_int)) (fun _ _ => rfl)) (pe_int) (fun _ _ => rfl)) (pa_cons (pv 3) (pa_nil)))) (pa_nil)))) (pg_sub (pv 1) (pe_un un_neg (pe_int)) set_list))) (pss_one (ps_expr (pe_bm PySem.F.plainAttrs_list PySem.F.slot_list_append PySem.F.type_list_append mt_append (pv 1) (pa_cons (pe_tup (pa_cons (pv 2) (pa_cons (pv 3) (pa_nil)))) pa_nil))))))) (pss_one (ps_ret (pe_callTy call_tuple_of (by rfl) T.tuple bt_tuple (pa_cons (pv 1) (pa_nil)))))), rd_row_of h⟩
theorem ok_stretches_of {f : Addr} {fd : FuncData} (F : Fun K "stretches_of" "stretches_of" s_stretches_of f fd) (T : Txt K mg) : FnOk P w K mg base CX0 1 f fd ["picture"] (sp_stretches_of K) := by
  refine F.ok sc_stretches_of (fun vs H Q E h => h.1) (fun cdv A outer s H vs Q E hr h => ?_)
  have nd := (sc_stretches_of).nd
  exact ⟨_, pss_cons (ps_set (i := 1) nd rfl (Or.inl rfl) (pe_lst (pa_nil))) (pss_cons (ps_for PassesOwn.never rfl (pi_seq (pv 0)) (pg_tup rfl (pgs_cons (pg_name (i := 2) nd rfl (Or.inr rfl)) (pgs_cons (pg_name (i := 3) nd rfl (Or.inl rfl)) (pgs_nil)))) (pss_one (ps_expr (pe_bm PySem.F.plainAttrs_list PySem.F.slot_list_extend PySem.F.type_list_extend mt_extM (pv 1) (pa_cons (pe_comp (show CmpOk ["picture", "stretches", "y", "row"] (defScope s_stretches_of) _ ["a", "b", "y"] [none, none, some 2] from cmpok) (pi_seq (pv 3)) (fun _ => pg_tup rfl (pgs_cons (pg_name (i := 0) (show List.Nodup (["a", "b", "y"] : List Str) from by decide +kernel) rfl (Or.inl rfl)) (pgs_cons (pg_name (i := 1) (show List.Nodup (["a", "b", "y"] : List Str) from by decide +kernel) rfl (Or.inl rfl)) (pgs_nil)))) (st_tup (sts_cons (st_name) (sts_cons (st_name) (sts_nil) gName_mono) gName_mono)) (fun _ => pif_nil) (fun _ => pe_tup (pa_cons (pv 2) (pa_cons (pv 0) (pa_cons (pv 1) (pa_nil)))))) pa_nil))))) (pss_one (ps_ret (pv 1)))), rd_stretches_of h⟩
theorem ok_Box___init__ {f : Addr} {fd : FuncData} (F : Fun K "__init__" "Box.__init__" s_Box___init__ f fd) (T : Txt K mg) {f_Form___init__ : Addr} {fd_Form___init__ : FuncData} (G_Form___init__ : FnOk P w K mg base CX0 1 f_Form___init__ fd_Form___init__ ["self", "parts"] (sp_Form___init__ K)) (b_Form___init__ : Binds K fd_Form___init__ ["self", "parts"] []) {c_Form : Addr} (cf_Form : ClsFn K c_Form "__init__" f_Form___init__) (g_Form : mg "Form" = some (.ref c_Form)) : FnOk P w K mg base CX0 2 f fd ["self", "left", "up", "right", "down"] (sp_Box___init__ K) := by
  refine F.ok sc_Box___init__ (fun vs H Q E h => h.1) (fun cdv A outer s H vs Q E hr h => ?_)
  exact ⟨_, pss_cons (ps_if (pt_cmpR op_lt (pe_callB (call_min4 rfl) (by rfl) T.min bt_min (pa_cons (pv 1) (pa_cons (pv 2) (pa_cons (pv 3) (pa_cons (pv 4) (pa_nil)))))) (pe_int) (nomark _)) pss_never pss_nil) (pss_one (ps_expr (pe_clsCall cf_Form (by rfl) g_Form G_Form___init__ (hr.mono (by decide)) b_Form___init__ pass0 (pa_cons (pv 0) (pa_cons (pe_tup (pa_cons (pe_tup (pa_cons (pe_tup (pa_cons (pe_un un_neg (pv 1)) (pa_cons (pe_un un_neg (pv 2)) (pa_cons (pv 3) (pa_cons (pv 4) (pa_nil)))))) (pa_nil))) (pa_nil))) pa_nil))))), ini_test (s_test (SE.p (s_op r_lt ((s_cb b_min4 (sp_cons (s_varP 1) (sp_cons (s_varP 2) (sp_cons (s_varP 3) (sp_cons (s_varP 4) (sp_nil)))))).p) ((s_c rfl).p)))) (s_tup (sa_cons (s_tup (sa_cons (s_tup (sa_cons (s_un r_neg (s_varP 1)) (sa_cons (s_un r_neg (s_varP 2)) (sa_cons (s_var 3) (sa_cons (s_var 4) (sa_nil)))))) (sa_nil))) (sa_nil))) rfl h⟩
theorem ok_Cross___init__ {f : Addr} {fd : FuncData} (F : Fun K "__init__" "Cross.__init__" s_Cross___init__ f fd) (T : Txt K mg) {f_Form___init__ : Addr} {fd_Form___init__ : FuncData} (G_Form___init__ : FnOk P w K mg base CX0 1 f_Form___init__ fd_Form___init__ ["self", "parts"] (sp_Form___init__ K)) (b_Form___init__ : Binds K fd_Form___init__ ["self", "parts"] []) {c_Form : Addr} (cf_Form : ClsFn K c_Form "__init__" f_Form___init__) (g_Form : mg "Form" = some (.ref c_Form)) : FnOk P w K mg base CX0 2 f fd ["self", "arm"] (sp_Cross___init__ K) := by
  refine F.ok sc_Cross___init__ (fun vs H Q E h => h.1) (fun cdv A outer s H vs Q E hr h => ?_)
  exact ⟨_, pss_cons (ps_if (pt_cmpR op_lt (pv 1) (pe_int) (nomark _)) pss_never pss_nil) (pss_one (ps_expr (pe_clsCall cf_Form (by rfl) g_Form G_Form___init__ (hr.mono (by decide)) b_Form___init__ pass0 (pa_cons (pv 0) (pa_cons (pe_tup (pa_cons (pe_tup (pa_cons (pe_tup (pa_cons (pe_un un_neg (pv 1)) (pa_cons (pe_int) (pa_cons (pv 1) (pa_cons (pe_int) (pa_nil)))))) (pa_cons (pe_tup (pa_cons (pe_int) (pa_cons (pe_un un_neg (pv 1)) (pa_cons (pe_int) (pa_cons (pv 1) (pa_nil)))))) (pa_nil)))) (pa_nil))) pa_nil))))), ini_test (s_test (SE.p (s_op r_lt (s_varP 1) ((s_c rfl).p)))) (s_tup (sa_cons (s_tup (sa_cons (s_tup (sa_cons (s_un r_neg (s_varP 1)) (sa_cons (s_c rfl) (sa_cons (s_var 1) (sa_cons (s_c rfl) (sa_nil)))))) (sa_cons (s_tup (sa_cons (s_c rfl) (sa_cons (s_un r_neg (s_varP 1)) (sa_cons (s_c rfl) (sa_cons (s_var 1) (sa_nil)))))) (sa_nil)))) (sa_nil))) rfl h⟩
theorem ok_blocks_of {f : Addr} {fd : FuncData} (F : Fun K "blocks_of" "blocks_of" s_blocks_of f fd) (T : Txt K mg) {f_stretches_of : Addr} {fd_stretches_of : FuncData} (G_stretches_of : FnOk P w K mg base CX0 1 f_stretches_of fd_stretches_of ["picture"] (sp_stretches_of K)) (m_stretches_of : mg "stretches_of" = some (.ref f_stretches_of)) (k_stretches_of : PySem.W.keepIn K (.ref f_stretches_of) = true) (b_stretches_of : Binds K fd_stretches_of ["picture"] []) : FnOk P w K mg base CX0 2 f fd ["picture"] (sp_blocks_of K) := by
  refine F.ok sc_blocks_of (fun vs H Q E h => h.1) (fun cdv A outer s H vs Q E hr h => ?_)
  have nd := (sc_blocks_of).nd
  exact ⟨_, pss_cons (ps_set (i := 1) nd rfl (Or.inl rfl) (pe_lst (pa_nil))) (pss_cons (ps_for PassesOwn.never rfl (pi_seq (pe_callB call_sortedM (by rfl) T.sorted bt_sorted (pa_cons (pe_comp (show CmpOk ["picture", "blocks", "a", "b", "y"] (defScope s_blocks_of) _ ["y", "a", "b"] [none, none, none] from cmpok) (pi_seq (pe_call G_stretches_of (hr.mono (by decide)) (by rfl) m_stretches_of k_stretches_of b_stretches_of .nil pass0 (pa_cons (pv 0) (pa_nil)))) (fun _ => pg_tup rfl (pgs_cons (pg_name (i := 0) (show List.Nodup (["y", "a", "b"] : List Str) from by decide +kernel) rfl (Or.inl rfl)) (pgs_cons (pg_name (i := 1) (show List.Nodup (["y", "a", "b"] : List Str) from by decide +kernel) rfl (Or.inl rfl)) (pgs_cons (pg_name (i := 2) (show List.Nodup (["y", "a", "b"] : List Str) from by decide +kernel) rfl (Or.inl rfl)) (pgs_nil))))) (st_tup (sts_cons (st_name) (sts_cons (st_name) (sts_cons (st_name) (sts_nil) gName_mono) gName_mono) gName_mono)) (fun _ => pif_nil) (fun _ => pe_tup (pa_cons (pv 1) (pa_cons (pv 2) (pa_cons (pv 0) (pa_nil)))))) (pa_nil)))) (pg_tup rfl (pgs_cons (pg_name (i := 2) nd rfl (Or.inl rfl)) (pgs_cons (pg_name (i := 3) nd rfl (Or.inl rfl)) (pgs_cons (pg_name (i := 4) nd rfl (Or.inl rfl)) (pgs_nil))))) (pss_one (ps_if (PW.pt (pw_and (pt_truth (pv 1) (fun _ => rfl)) (pw_and1 (pt_cmpR (op_eqM hr.units) (pe_ix ix_seq (pv 1) (pe_un un_neg (pe_int)) (fun _ _ => rfl)) (pe_tup (pa_cons (pv 2) (pa_cons (pe_ix ix_seq (pe_ix ix_seq (pv 1) (pe_un un_neg (pe_int)) (fun _ _ => rfl)) (pe_int) (fun _ _ => rfl)) (pa_cons (pv 3) (pa_cons (pe_op op_sub (pv 4) (pe_int)) (pa_nil)))))) (nomark _))))) (pss_one (ps_asg (pe_tup (pa_cons (pv 2) (pa_cons (pe_ix ix_seq (pe_ix ix_seq (pv 1) (pe_un un_neg (pe_int)) (fun _ _ => rfl)) (pe_int) (fun _ _ => rfl)) (pa_cons (pv 3) (pa_cons (pv 4) (pa_nil)))))) (pg_sub (pv 1) (pe_un un_neg (pe_int)) set_list))) (pss_one (ps_expr (pe_bm PySem.F.plainAttrs_list PySem.F.slot_list_append PySem.F.type_list_append mt_append (pv 1) (pa_cons (pe_tup (pa_cons (pv 2) (pa_cons (pv 4) (pa_cons (pv 3) (pa_cons (pv 4) (pa_nil)))))) pa_nil))))))) (pss_one (ps_ret (pe_callTy call_tuple_of (by rfl) T.tuple bt_tuple (pa_cons (pv 1) (pa_nil)))))), rd_blocks_of h⟩
theorem ok_moved {f : Addr} {fd : FuncData} (F : Fun K "moved" "moved" s_moved f fd) (T : Txt K mg) {f_row_moved : Addr} {fd_row_moved : FuncData} (G_row_moved : FnOk P w K mg base CX0 1 f_row_moved fd_row_moved ["row", "by"] (sp_row_moved K)) (m_row_moved : mg "row_moved" = some (.ref f_row_moved)) (k_row_moved : PySem.W.keepIn K (.ref f_row_moved) = true) (b_row_moved : Binds K fd_row_moved ["row", "by"] []) : FnOk P w K mg base CX0 2 f fd ["picture", "dx", "dy"] (sp_moved K) := by
  refine F.ok sc_moved (fun vs H Q E h => h.1) (fun cdv A outer s H vs Q E hr h => ?_)
  have nd := (sc_moved).nd
  exact ⟨_, pss_one (ps_ret (pe_callTy call_tuple_of (by rfl) T.tuple bt_tuple (pa_cons (pe_comp (show CmpOk ["picture", "dx", "dy"] (defScope s_moved) _ ["y", "row", "dy", "dx"] [none, none, some 2, some 1] from cmpok) (pi_seq (pv 0)) (fun _ => pg_tup rfl (pgs_cons (pg_name (i := 0) (show List.Nodup (["y", "row", "dy", "dx"] : List Str) from by decide +kernel) rfl (Or.inl rfl)) (pgs_cons (pg_name (i := 1) (show List.Nodup (["y", "row", "dy", "dx"] : List Str) from by decide +kernel) rfl (Or.inl rfl)) (pgs_nil)))) (st_tup (sts_cons (st_name) (sts_cons (st_name) (sts_nil) gName_mono) gName_mono)) (fun _ => pif_nil) (fun _ => pe_tup (pa_cons (pe_op op_addM (pv 0) (pv 2)) (pa_cons (pe_call G_row_moved (hr.mono (by decide)) (by rfl) m_row_moved k_row_moved b_row_moved .nil pass0 (pa_cons (pv 1) (pa_cons (pv 3) (pa_nil)))) (pa_nil))))) (pa_nil)))), rd_moved h⟩
theorem ok_picture_of {f : Addr} {fd : FuncData} (F : Fun K "picture_of" "picture_of" s_picture_of f fd) (T : Txt K mg) {f_row_of : Addr} {fd_row_of : FuncData} (G_row_of : FnOk P w K mg base CX0 1 f_row_of fd_row_of ["pairs"] (sp_row_of K)) (m_row_of : mg "row_of" = some (.ref f_row_of)) (k_row_of : PySem.W.keepIn K (.ref f_row_of) = true) (b_row_of : Binds K fd_row_of ["pairs"] []) : FnOk P w K mg base CX0 2 f fd ["stretches"] (sp_picture_of K) := by
  refine F.ok sc_picture_of (fun vs H Q E h => h.1) (fun cdv A outer s H vs Q E hr h => ?_)
  have nd := (sc_picture_of).nd
  exact ⟨_, pss_cons (ps_set (i := 1) nd rfl (Or.inl rfl) (pe_lst (pa_nil))) (pss_cons (ps_for PassesOwn.never rfl (pi_seq (pe_callB call_sortedM (by rfl) T.sorted bt_sorted (pa_cons (pe_comp (show CmpOk ["stretches", "pairs_by_row", "y", "a", "b"] (defScope s_picture_of) _ ["y", "a", "b"] [none, none, none] from cmpok) (pi_seq (pv 0)) (fun _ => pg_tup rfl (pgs_cons (pg_name (i := 0) (show List.Nodup (["y", "a", "b"] : List Str) from by decide +kernel) rfl (Or.inl rfl)) (pgs_cons (pg_name (i := 1) (show List.Nodup (["y", "a", "b"] : List Str) from by decide +kernel) rfl (Or.inl rfl)) (pgs_cons (pg_name (i := 2) (show List.Nodup (["y", "a", "b"] : List Str) from by decide +kernel) rfl (Or.inl rfl)) (pgs_nil))))) (st_tup (sts_cons (st_name) (sts_cons (st_name) (sts_cons (st_name) (sts_nil) gName_mono) gName_mono) gName_mono)) (fun _ => pif_one (pt_cmpR op_le (pv 1) (pv 2) (nomark _))) (fun _ => pe_tup (pa_cons (pv 0) (pa_cons (pv 1) (pa_cons (pv 2) (pa_nil)))))) (pa_nil)))) (pg_tup rfl (pgs_cons (pg_name (i := 2) nd rfl (Or.inl rfl)) (pgs_cons (pg_name (i := 3) nd rfl (Or.inl rfl)) (pgs_cons (pg_name (i := 4) nd rfl (Or.inl rfl)) (pgs_nil))))) (pss_cons (ps_if (PW.pt (pw_or (pt_not (pt_truth (pv 1) (fun _ => rfl))) (pw_or1 (pt_cmpR (op_neM hr.units) (pe_ix ix_seq (pe_ix ix_seq (pv 1) (pe_un un_neg (pe_int)) (fun _ _ => rfl)) (pe_int) (fun _ _ => rfl)) (pv 2) (nomark _))))) (pss_one (ps_expr (pe_bm PySem.F.plainAttrs_list PySem.F.slot_list_append PySem.F.type_list_append mt_append (pv 1) (pa_cons (pe_tup (pa_cons (pv 2) (pa_cons (pe_lst (pa_nil)) (pa_nil)))) pa_nil)))) (pss_nil)) (pss_one (ps_expr (pe_bm PySem.F.plainAttrs_list PySem.F.slot_list_append PySem.F.type_list_append mt_append (pe_ix ix_seq (pe_ix ix_seq (pv 1) (pe_un un_neg (pe_int)) (fun _ _ => rfl)) (pe_int) (fun _ _ => rfl)) (pa_cons (pe_tup (pa_cons (pv 3) (pa_cons (pv 4) (pa_nil)))) pa_nil)))))) (pss_one (ps_ret (pe_callTy call_tuple_of (by rfl) T.tuple bt_tuple (pa_cons (pe_comp (show CmpOk ["stretches", "pairs_by_row", "y", "a", "b"] (defScope s_picture_of) _ ["y", "pairs"] [none, none] from cmpok) (pi_seq (pv 1)) (fun _ => pg_tup rfl (pgs_cons (pg_name (i := 0) (show List.Nodup (["y", "pairs"] : List Str) from by decide +kernel) rfl (Or.inl rfl)) (pgs_cons (pg_name (i := 1) (show List.Nodup (["y", "pairs"] : List Str) from by decide +kernel) rfl (Or.inl rfl)) (pgs_nil)))) (st_tup (sts_cons (st_name) (sts_cons (st_name) (sts_nil) gName_mono) gName_mono)) (fun _ => pif_nil) (fun _ => pe_tup (pa_cons (pv 0) (pa_cons (pe_call G_row_of (hr.mono (by decide)) (by rfl) m_row_of k_row_of b_row_of .nil pass0 (pa_cons (pv 1) (pa_nil))) (pa_nil))))) (pa_nil)))))), rd_picture_of h⟩
theorem ok_Shape___init__ {f : Addr} {fd : FuncData} (F : Fun K "__init__" "Shape.__init__" s_Shape___init__ f fd) (T : Txt K mg) {f_blocks_of : Addr} {fd_blocks_of : FuncData} (G_blocks_of : FnOk P w K mg base CX0 2 f_blocks_of fd_blocks_of ["picture"] (sp_blocks_of K)) (m_blocks_of : mg "blocks_of" = some (.ref f_blocks_of)) (k_blocks_of : PySem.W.keepIn K (.ref f_blocks_of) = true) (b_blocks_of : Binds K fd_blocks_of ["picture"] []) {f_Form___init__ : Addr} {fd_Form___init__ : FuncData} (G_Form___init__ : FnOk P w K mg base CX0 1 f_Form___init__ fd_Form___init__ ["self", "parts"] (sp_Form___init__ K)) (b_Form___init__ : Binds K fd_Form___init__ ["self", "parts"] []) {c_Form : Addr} (cf_Form : ClsFn K c_Form "__init__" f_Form___init__) (g_Form : mg "Form" = some (.ref c_Form)) : FnOk P w K mg base CX0 3 f fd ["self", "picture"] (sp_Shape___init__ K) := by
  refine F.ok sc_Shape___init__ (fun vs H Q E h => h.1) (fun cdv A outer s H vs Q E hr h => ?_)
  exact ⟨_, pss_cons (ps_if (pt_cmpR (op_eqM hr.units) (pv 1) (pe_tup (pa_nil)) (nomark _)) pss_never pss_nil) (pss_one (ps_expr (pe_clsCall cf_Form (by rfl) g_Form G_Form___init__ (hr.mono (by decide)) b_Form___init__ pass0 (pa_cons (pv 0) (pa_cons (pe_tup (pa_cons (pe_call G_blocks_of (hr.mono (by decide)) (by rfl) m_blocks_of k_blocks_of b_blocks_of .nil pass0 (pa_cons (pv 1) (pa_nil))) (pa_nil))) pa_nil))))), ini_test (s_test (SE.p (s_op (r_eq false) (s_varP 1) ((s_tup (sa_nil)).p)))) (s_tup (sa_cons (s_call (E := E0) (sa_cons (s_var 1) (sa_nil)) (len_cons (fun _ _ h => len_nil h))) (sa_nil))) rfl h⟩
theorem okX__law_made {f : Addr} {fd : FuncData} (F : Fun K "_law_made" "_law_made" s__law_made f fd) (T : Txt K mg) {f_Box___init__ : Addr} {fd_Box___init__ : FuncData} (GX_Box___init__ : FnOk P w K mg base (CXe P w) 1 f_Box___init__ fd_Box___init__ ["self", "left", "up", "right", "down"] (spX_Box___init__ K)) (b_Box___init__ : Binds K fd_Box___init__ ["self", "left", "up", "right", "down"] []) {c_Box : Addr} (n_Box : PySem.W.nsIn K mainGlobals "Box" = some (some (.ref c_Box))) (M_Box : Mk K c_Box f_Box___init__) (g_Box : mg "Box" = some (.ref c_Box)) {f_Cross___init__ : Addr} {fd_Cross___init__ : FuncData} (GX_Cross___init__ : FnOk P w K mg base (CXe P w) 1 f_Cross___init__ fd_Cross___init__ ["self", "arm"] (spX_Cross___init__ K)) (b_Cross___init__ : Binds K fd_Cross___init__ ["self", "arm"] []) {c_Cross : Addr} (n_Cross : PySem.W.nsIn K mainGlobals "Cross" = some (some (.ref c_Cross))) (M_Cross : Mk K c_Cross f_Cross___init__) (g_Cross : mg "Cross" = some (.ref c_Cross)) {f_Shape___init__ : Addr} {fd_Shape___init__ : FuncData} (GX_Shape___init__ : FnOk P w K mg base (CXe P w) 1 f_Shape___init__ fd_Shape___init__ ["self", "picture"] (spX_Shape___init__ K)) (b_Shape___init__ : Binds K fd_Shape___init__ ["self", "picture"] []) {c_Shape : Addr} (n_Shape : PySem.W.nsIn K mainGlobals "Shape" = some (some (.ref c_Shape))) (M_Shape : Mk K c_Shape f_Shape___init__) (g_Shape : mg "Shape" = some (.ref c_Shape)) : FnOk P w K mg base (CXe P w) 3 f fd ["_law_way", "_law_sides"] (spX__law_made K) := by
  refine F.okX sc__law_made (fun vs H Q E h => h.1) (fun cdv A outer s H vs Q E hr h => ?_)
  have nd := (sc__law_made).nd
  exact ⟨_, pss_cons (ps_if (pt_cmpR (op_eqM hr.units) (pv 0) (pe_int) (nomark _)) (pss_one (ps_ret (pe_makeX n_Box M_Box GX_Box___init__ (hr.mono (by decide)) (by rfl) g_Box b_Box___init__ pass_e (pa_cons (pe_ix ix_seq (pv 1) (pe_int) (fun _ _ => rfl)) (pa_cons (pe_ix ix_seq (pv 1) (pe_int) (fun _ _ => rfl)) (pa_cons (pe_ix ix_seq (pv 1) (pe_int) (fun _ _ => rfl)) (pa_cons (pe_ix ix_seq (pv 1) (pe_int) (fun _ _ => rfl)) (pa_nil)))))))) (pss_nil)) (pss_cons (ps_if (pt_cmpR (op_eqM hr.units) (pv 0) (pe_int) (nomark _)) (pss_one (ps_ret (pe_makeX n_Cross M_Cross GX_Cross___init__ (hr.mono (by decide)) (by rfl) g_Cross b_Cross___init__ pass_e (pa_cons (pe_ix ix_seq (pv 1) (pe_int) (fun _ _ => rfl)) (pa_nil))))) (pss_nil)) (pss_one (ps_ret (pe_makeX n_Shape M_Shape GX_Shape___init__ (hr.mono (by decide)) (by rfl) g_Shape b_Shape___init__ pass_e (pa_cons (pe_tup (pa_nil)) (pa_nil)))))), rdX__law_made h⟩
theorem ok_join {f : Addr} {fd : FuncData} (F : Fun K "join" "join" s_join f fd) (T : Txt K mg) {f_picture_of : Addr} {fd_picture_of : FuncData} (G_picture_of : FnOk P w K mg base CX0 2 f_picture_of fd_picture_of ["stretches"] (sp_picture_of K)) (m_picture_of : mg "picture_of" = some (.ref f_picture_of)) (k_picture_of : PySem.W.keepIn K (.ref f_picture_of) = true) (b_picture_of : Binds K fd_picture_of ["stretches"] []) {f_stretches_of : Addr} {fd_stretches_of : FuncData} (G_stretches_of : FnOk P w K mg base CX0 1 f_stretches_of fd_stretches_of ["picture"] (sp_stretches_of K)) (m_stretches_of : mg "stretches_of" = some (.ref f_stretches_of)) (k_stretches_of : PySem.W.keepIn K (.ref f_stretches_of) = true) (b_stretches_of : Binds K fd_stretches_of ["picture"] []) : FnOk P w K mg base CX0 3 f fd ["one", "other"] (sp_join K) := by
  refine F.ok sc_join (fun vs H Q E h => h.1) (fun cdv A outer s H vs Q E hr h => ?_)
  have nd := (sc_join).nd
  exact ⟨_, pss_one (ps_ret (pe_call G_picture_of (hr.mono (by decide)) (by rfl) m_picture_of k_picture_of b_picture_of .nil pass0 (pa_cons (pe_op op_addM (pe_call G_stretches_of (hr.mono (by decide)) (by rfl) m_stretches_of k_stretches_of b_stretches_of .nil pass0 (pa_cons (pv 0) (pa_nil))) (pe_call G_stretches_of (hr.mono (by decide)) (by rfl) m_stretches_of k_stretches_of b_stretches_of .nil pass0 (pa_cons (pv 1) (pa_nil)))) (pa_nil)))), rd_join h⟩
theorem ok__law_refused {f : Addr} {fd : FuncData} (F : Fun K "_law_refused" "_law_refused" s__law_refused f fd) (T : Txt K mg) {f__law_made : Addr} {fd__law_made : FuncData} (GX__law_made : FnOk P w K mg base (CXe P w) 3 f__law_made fd__law_made ["_law_way", "_law_sides"] (spX__law_made K)) (m__law_made : mg "_law_made" = some (.ref f__law_made)) (k__law_made : PySem.W.keepIn K (.ref f__law_made) = true) (b__law_made : Binds K fd__law_made ["_law_way", "_law_sides"] []) : FnOk P w K mg base CX0 4 f fd ["_law_way", "_law_sides"] (sp__law_refused K) := by
  refine F.ok sc__law_refused (fun vs H Q E h => h.1) (fun cdv A outer s H vs Q E hr h => ?_)
  have nd := (sc__law_refused).nd
  exact ⟨_, pss_cons (ps_set (i := 2) nd rfl (Or.inl rfl) (pe_lst (pa_nil))) (pss_cons (ps_set (i := 3) nd rfl (Or.inl rfl) (pe_lst (pa_nil))) (pss_cons (ps_set (i := 4) nd rfl (Or.inl rfl) (pe_lst (pa_nil))) (pss_cons (ps_try (L := xNs) (i := 5) rfl rfl nd rfl rfl T.xc_ShapeError (by rfl) (fun ps W E hp => pss_one (ps_expr (pe_call GX__law_made (hr.mono (by decide)) (by rfl) m__law_made k__law_made b__law_made .nil hp (pa_cons (pv 0) (pa_cons (pv 1) (pa_nil)))))) (fun e => (show PSs _ _ (tSets K 5 [(2, [ax_NoForm, ax_ValueError, ax_TooGreat, ax_TooMany]), (3, [ax_NoText, ax_NoName, ax_NoRow, ax_NoBack])]) from pss_cons (ps_set (i := 2) nd rfl (Or.inl rfl) (pe_lst (pa_cons (pe_isX T.xa_NoForm (by rfl) T.isinstance (by rfl) (pv 5)) (pa_cons (pe_isXB T.ValueError PyProof.Rows.Boot.«ValueError» T.xa_ValueError (by rfl) T.isinstance (by rfl) (pv 5)) (pa_cons (pe_isX T.xa_TooGreat (by rfl) T.isinstance (by rfl) (pv 5)) (pa_cons (pe_isX T.xa_TooMany (by rfl) T.isinstance (by rfl) (pv 5)) (pa_nil))))))) (pss_one (ps_set (i := 3) nd rfl (Or.inl rfl) (pe_lst (pa_cons (pe_isX T.xa_NoText (by rfl) T.isinstance (by rfl) (pv 5)) (pa_cons (pe_isX T.xa_NoName (by rfl) T.isinstance (by rfl) (pv 5)) (pa_cons (pe_isX T.xa_NoRow (by rfl) T.isinstance (by rfl) (pv 5)) (pa_cons (pe_isX T.xa_NoBack (by rfl) T.isinstance (by rfl) (pv 5)) (pa_nil))))))))))) (pss_one (ps_ret (pe_and (pe_cmpR (op_eqM hr.units) (pv 2) (pe_lst (pa_cons (pe_bl) (pa_cons (pe_bl) (pa_cons (pe_bl) (pa_cons (pe_bl) (pa_nil)))))) (nomark _)) (pe_one (pe_cmpR (op_eqM hr.units) (pv 3) (pe_lst (pa_cons (pe_bl) (pa_cons (pe_bl) (pa_cons (pe_bl) (pa_cons (pe_bl) (pa_nil)))))) (nomark _))))))))), rd__law_refused h⟩
theorem ok_spread_down {f : Addr} {fd : FuncData} (F : Fun K "spread_down" "spread_down" s_spread_down f fd) (T : Txt K mg) {f_join : Addr} {fd_join : FuncData} (G_join : FnOk P w K mg base CX0 3 f_join fd_join ["one", "other"] (sp_join K)) (m_join : mg "join" = some (.ref f_join)) (k_join : PySem.W.keepIn K (.ref f_join) = true) (b_join : Binds K fd_join ["one", "other"] []) {f_moved : Addr} {fd_moved : FuncData} (G_moved : FnOk P w K mg base CX0 2 f_moved fd_moved ["picture", "dx", "dy"] (sp_moved K)) (m_moved : mg "moved" = some (.ref f_moved)) (k_moved : PySem.W.keepIn K (.ref f_moved) = true) (b_moved : Binds K fd_moved ["picture", "dx", "dy"] []) : FnOk P w K mg base CX0 4 f fd ["picture", "by"] (sp_spread_down K) := by
  refine F.ok sc_spread_down (fun vs H Q E h => h.1) (fun cdv A outer s H vs Q E hr h => ?_)
  have nd := (sc_spread_down).nd
  exact ⟨_, pss_cons (ps_set (i := 2) nd rfl (Or.inl rfl) (pe_int)) (pss_cons (ps_while PassesOwn.never (pt_cmpR op_lt (pv 2) (pv 1) (nomark _)) (pss_cons (ps_set (i := 3) nd rfl (Or.inl rfl) (pe_callB (call_min2 rfl) (by rfl) T.min bt_min (pa_cons (pe_op op_addM (pv 2) (pe_int)) (pa_cons (pe_op op_sub (pv 1) (pv 2)) (pa_nil))))) (pss_cons (ps_set (i := 0) nd rfl (Or.inl rfl) (pe_call G_join (hr.mono (by decide)) (by rfl) m_join k_join b_join .nil pass0 (pa_cons (pv 0) (pa_cons (pe_call G_moved (hr.mono (by decide)) (by rfl) m_moved k_moved b_moved .nil pass0 (pa_cons (pv 0) (pa_cons (pe_int) (pa_cons (pv 3) (pa_nil))))) (pa_nil))))) (pss_one (ps_aug (i := 2) nd rfl (Or.inl rfl) (pv 3) ip_add))))) (pss_one (ps_ret (pv 0)))), rd_spread_down h⟩
theorem ok__law_made {f : Addr} {fd : FuncData} (F : Fun K "_law_made" "_law_made" s__law_made f fd) (T : Txt K mg) {f_Box___init__ : Addr} {fd_Box___init__ : FuncData} (G_Box___init__ : FnOk P w K mg base CX0 2 f_Box___init__ fd_Box___init__ ["self", "left", "up", "right", "down"] (sp_Box___init__ K)) (b_Box___init__ : Binds K fd_Box___init__ ["self", "left", "up", "right", "down"] []) {c_Box : Addr} (n_Box : PySem.W.nsIn K mainGlobals "Box" = some (some (.ref c_Box))) (M_Box : Mk K c_Box f_Box___init__) (g_Box : mg "Box" = some (.ref c_Box)) {f_Cross___init__ : Addr} {fd_Cross___init__ : FuncData} (G_Cross___init__ : FnOk P w K mg base CX0 2 f_Cross___init__ fd_Cross___init__ ["self", "arm"] (sp_Cross___init__ K)) (b_Cross___init__ : Binds K fd_Cross___init__ ["self", "arm"] []) {c_Cross : Addr} (n_Cross : PySem.W.nsIn K mainGlobals "Cross" = some (some (.ref c_Cross))) (M_Cross : Mk K c_Cross f_Cross___init__) (g_Cross : mg "Cross" = some (.ref c_Cross)) {f_Shape___init__ : Addr} {fd_Shape___init__ : FuncData} (G_Shape___init__ : FnOk P w K mg base CX0 3 f_Shape___init__ fd_Shape___init__ ["self", "picture"] (sp_Shape___init__ K)) (b_Shape___init__ : Binds K fd_Shape___init__ ["self", "picture"] []) {c_Shape : Addr} (n_Shape : PySem.W.nsIn K mainGlobals "Shape" = some (some (.ref c_Shape))) (M_Shape : Mk K c_Shape f_Shape___init__) (g_Shape : mg "Shape" = some (.ref c_Shape)) : FnOk P w K mg base CX0 5 f fd ["_law_way", "_law_sides"] (sp__law_made K) := by
  refine F.ok sc__law_made (fun vs H Q E h => h.1) (fun cdv A outer s H vs Q E hr h => ?_)
  have nd := (sc__law_made).nd
  exact ⟨_, pss_cons (ps_if (pt_cmpR (op_eqM hr.units) (pv 0) (pe_int) (nomark _)) (pss_one (ps_ret (pe_makeN n_Box M_Box G_Box___init__ (hr.mono (by decide)) (by rfl) g_Box b_Box___init__ pass0 (pa_cons (pe_ix ix_seq (pv 1) (pe_int) (fun _ _ => rfl)) (pa_cons (pe_ix ix_seq (pv 1) (pe_int) (fun _ _ => rfl)) (pa_cons (pe_ix ix_seq (pv 1) (pe_int) (fun _ _ => rfl)) (pa_cons (pe_ix ix_seq (pv 1) (pe_int) (fun _ _ => rfl)) (pa_nil)))))))) (pss_nil)) (pss_cons (ps_if (pt_cmpR (op_eqM hr.units) (pv 0) (pe_int) (nomark _)) (pss_one (ps_ret (pe_makeN n_Cross M_Cross G_Cross___init__ (hr.mono (by decide)) (by rfl) g_Cross b_Cross___init__ pass0 (pa_cons (pe_ix ix_seq (pv 1) (pe_int) (fun _ _ => rfl)) (pa_nil))))) (pss_nil)) (pss_one (ps_ret (pe_makeN n_Shape M_Shape G_Shape___init__ (hr.mono (by decide)) (by rfl) g_Shape b_Shape___init__ pass0 (pa_cons (pe_tup (pa_nil)) (pa_nil)))))), rd__law_made h⟩
theorem ok_greater_by_block {f : Addr} {fd : FuncData} (F : Fun K "greater_by_block" "greater_by_block" s_greater_by_block f fd) (T : Txt K mg) {f_stretches_of : Addr} {fd_stretches_of : FuncData} (G_stretches_of : FnOk P w K mg base CX0 1 f_stretches_of fd_stretches_of ["picture"] (sp_stretches_of K)) (m_stretches_of : mg "stretches_of" = some (.ref f_stretches_of)) (k_stretches_of : PySem.W.keepIn K (.ref f_stretches_of) = true) (b_stretches_of : Binds K fd_stretches_of ["picture"] []) {f_spread_down : Addr} {fd_spread_down : FuncData} (G_spread_down : FnOk P w K mg base CX0 4 f_spread_down fd_spread_down ["picture", "by"] (sp_spread_down K)) (m_spread_down : mg "spread_down" = some (.ref f_spread_down)) (k_spread_down : PySem.W.keepIn K (.ref f_spread_down) = true) (b_spread_down : Binds K fd_spread_down ["picture", "by"] []) {f_picture_of : Addr} {fd_picture_of : FuncData} (G_picture_of : FnOk P w K mg base CX0 2 f_picture_of fd_picture_of ["stretches"] (sp_picture_of K)) (m_picture_of : mg "picture_of" = some (.ref f_picture_of)) (k_picture_of : PySem.W.keepIn K (.ref f_picture_of) = true) (b_picture_of : Binds K fd_picture_of ["stretches"] []) : FnOk P w K mg base CX0 5 f fd ["picture", "block"] (sp_greater_by_block K) := by
  refine F.ok sc_greater_by_block (fun vs H Q E h => h.1) (fun cdv A outer s H vs Q E hr h => ?_)
  have nd := (sc_greater_by_block).nd
  exact ⟨_, pss_cons (ps_setC (i := 2) (hN := nd) (hi0 := rfl) (hx := Or.inl rfl) (ck := (show CmpOk ["picture", "block", "wide"] (defScope s_greater_by_block) _ ["y", "a", "b", "block"] [none, none, none, some 1] from cmpok)) (hi := pi_seq (pe_call G_stretches_of (hr.mono (by decide)) (by rfl) m_stretches_of k_stretches_of b_stretches_of .nil pass0 (pa_cons (pv 0) (pa_nil)))) (hg := fun _ => pg_tup rfl (pgs_cons (pg_name (i := 0) (show List.Nodup (["y", "a", "b", "block"] : List Str) from by decide +kernel) rfl (Or.inl rfl)) (pgs_cons (pg_name (i := 1) (show List.Nodup (["y", "a", "b", "block"] : List Str) from by decide +kernel) rfl (Or.inl rfl)) (pgs_cons (pg_name (i := 2) (show List.Nodup (["y", "a", "b", "block"] : List Str) from by decide +kernel) rfl (Or.inl rfl)) (pgs_nil))))) (hs := st_tup (sts_cons (st_name) (sts_cons (st_name) (sts_cons (st_name) (sts_nil) gName_mono) gName_mono) gName_mono)) (ht := fun _ => pif_nil) (he := fun _ => pe_tup (pa_cons (pe_op op_addM (pv 0) (pe_ix ix_seq (pv 3) (pe_int) (fun _ _ => rfl))) (pa_cons (pe_op op_addM (pv 1) (pe_ix ix_seq (pv 3) (pe_int) (fun _ _ => rfl))) (pa_cons (pe_op op_addM (pv 2) (pe_ix ix_seq (pv 3) (pe_int) (fun _ _ => rfl))) (pa_nil)))))) (pss_cons (ps_if (pt_cmpR (op_eqM hr.units) (pe_ix ix_seq (pv 1) (pe_int) (fun _ _ => rfl)) (pe_ix ix_seq (pv 1) (pe_int) (fun _ _ => rfl)) (nomark _)) (pss_one (ps_ret (pv 2))) (pss_nil)) (pss_one (ps_ret (pe_call G_stretches_of (hr.mono (by decide)) (by rfl) m_stretches_of k_stretches_of b_stretches_of .nil pass0 (pa_cons (pe_call G_spread_down (hr.mono (by decide)) (by rfl) m_spread_down k_spread_down b_spread_down .nil pass0 (pa_cons (pe_call G_picture_of (hr.mono (by decide)) (by rfl) m_picture_of k_picture_of b_picture_of .nil pass0 (pa_cons (pv 2) (pa_nil))) (pa_cons (pe_op op_sub (pe_ix ix_seq (pv 1) (pe_int) (fun _ _ => rfl)) (pe_ix ix_seq (pv 1) (pe_int) (fun _ _ => rfl))) (pa_nil)))) (pa_nil)))))), rd_greater_by_block h⟩
theorem ok_greater_by_part {f : Addr} {fd : FuncData} (F : Fun K "greater_by_part" "greater_by_part" s_greater_by_part f fd) (T : Txt K mg) {f_greater_by_block : Addr} {fd_greater_by_block : FuncData} (G_greater_by_block : FnOk P w K mg base CX0 5 f_greater_by_block fd_greater_by_block ["picture", "block"] (sp_greater_by_block K)) (m_greater_by_block : mg "greater_by_block" = some (.ref f_greater_by_block)) (k_greater_by_block : PySem.W.keepIn K (.ref f_greater_by_block) = true) (b_greater_by_block : Binds K fd_greater_by_block ["picture", "block"] []) {f_picture_of : Addr} {fd_picture_of : FuncData} (G_picture_of : FnOk P w K mg base CX0 2 f_picture_of fd_picture_of ["stretches"] (sp_picture_of K)) (m_picture_of : mg "picture_of" = some (.ref f_picture_of)) (k_picture_of : PySem.W.keepIn K (.ref f_picture_of) = true) (b_picture_of : Binds K fd_picture_of ["stretches"] []) : FnOk P w K mg base CX0 6 f fd ["picture", "blocks"] (sp_greater_by_part K) := by
  refine F.ok sc_greater_by_part (fun vs H Q E h => h.1) (fun cdv A outer s H vs Q E hr h => ?_)
  have nd := (sc_greater_by_part).nd
  exact ⟨_, pss_cons (ps_set (i := 2) nd rfl (Or.inl rfl) (pe_lst (pa_nil))) (pss_cons (ps_for PassesOwn.never rfl (pi_seq (pv 1)) (pg_name (i := 3) nd rfl (Or.inl rfl)) (pss_one (ps_expr (pe_bm PySem.F.plainAttrs_list PySem.F.slot_list_extend PySem.F.type_list_extend mt_extM (pv 2) (pa_cons (pe_call G_greater_by_block (hr.mono (by decide)) (by rfl) m_greater_by_block k_greater_by_block b_greater_by_block .nil pass0 (pa_cons (pv 0) (pa_cons (pv 3) (pa_nil)))) pa_nil))))) (pss_one (ps_ret (pe_call G_picture_of (hr.mono (by decide)) (by rfl) m_picture_of k_picture_of b_picture_of .nil pass0 (pa_cons (pv 2) (pa_nil)))))), rd_greater_by_part h⟩
theorem ok_Form_greater {f : Addr} {fd : FuncData} (F : Fun K "greater" "Form.greater" s_Form_greater f fd) (T : Txt K mg) {f_greater_by_part : Addr} {fd_greater_by_part : FuncData} (G_greater_by_part : FnOk P w K mg base CX0 6 f_greater_by_part fd_greater_by_part ["picture", "blocks"] (sp_greater_by_part K)) (m_greater_by_part : mg "greater_by_part" = some (.ref f_greater_by_part)) (k_greater_by_part : PySem.W.keepIn K (.ref f_greater_by_part) = true) (b_greater_by_part : Binds K fd_greater_by_part ["picture", "blocks"] []) : FnOk P w K mg base CX0 7 f fd ["self", "picture"] (sp_Form_greater K) := by
  refine F.ok sc_Form_greater (fun vs H Q E h => h.1) (fun cdv A outer s H vs Q E hr h => ?_)
  have nd := (sc_Form_greater).nd
  exact ⟨_, pss_cons (ps_for PassesOwn.never rfl (pi_rev (by rfl) T.reversed (pa_cons (pe_fldN T.cN (pv 0) rfl) (pa_nil))) (pg_name (i := 2) nd rfl (Or.inl rfl)) (pss_one (ps_set (i := 1) nd rfl (Or.inl rfl) (pe_call G_greater_by_part (hr.mono (by decide)) (by rfl) m_greater_by_part k_greater_by_part b_greater_by_part .nil pass0 (pa_cons (pv 1) (pa_cons (pv 2) (pa_nil))))))) (pss_one (ps_ret (pv 1))), rd_Form_greater h⟩
theorem ok_Form_cells {f : Addr} {fd : FuncData} (F : Fun K "cells" "Form.cells" s_Form_cells f fd) (T : Txt K mg) {f_Form_greater : Addr} {fd_Form_greater : FuncData} (G_Form_greater : FnOk P w K mg base CX0 7 f_Form_greater fd_Form_greater ["self", "picture"] (sp_Form_greater K)) (b_Form_greater : Binds K fd_Form_greater ["self", "picture"] []) (cm_Form_greater : ClsN K NS fun C => Cls K C ∧ Meth K C "greater" f_Form_greater) : FnOk P w K mg base CX0 8 f fd ["self"] (sp_Form_cells K) := by
  refine F.ok sc_Form_cells (fun vs H Q E h => h.1) (fun cdv A outer s H vs Q E hr h => ?_)
  have nd := (sc_Form_cells).nd
  exact ⟨_, pss_one (ps_ret (pe_methN cm_Form_greater G_Form_greater (hr.mono (by decide)) b_Form_greater pass0 (pv 0) (pa_cons (pe_globD (by rfl) T.ONE_CELL.choose_spec.choose_spec.1 T.ONE_CELL.choose_spec.choose_spec.2.1 T.ONE_CELL.choose_spec.choose_spec.2.2) (pa_nil)))), rd_Form_cells h⟩
theorem ok__law_one {f : Addr} {fd : FuncData} (F : Fun K "_law_one" "_law_one" s__law_one f fd) (T : Txt K mg) {f__law_refused : Addr} {fd__law_refused : FuncData} (G__law_refused : FnOk P w K mg base CX0 4 f__law_refused fd__law_refused ["_law_way", "_law_sides"] (sp__law_refused K)) (m__law_refused : mg "_law_refused" = some (.ref f__law_refused)) (k__law_refused : PySem.W.keepIn K (.ref f__law_refused) = true) (b__law_refused : Binds K fd__law_refused ["_law_way", "_law_sides"] []) {f__law_many : Addr} {fd__law_many : FuncData} (G__law_many : FnOk P w K mg base CX0 1 f__law_many fd__law_many ["_law_cells"] (sp__law_many K)) (m__law_many : mg "_law_many" = some (.ref f__law_many)) (k__law_many : PySem.W.keepIn K (.ref f__law_many) = true) (b__law_many : Binds K fd__law_many ["_law_cells"] []) {f__law_made : Addr} {fd__law_made : FuncData} (G__law_made : FnOk P w K mg base CX0 5 f__law_made fd__law_made ["_law_way", "_law_sides"] (sp__law_made K)) (m__law_made : mg "_law_made" = some (.ref f__law_made)) (k__law_made : PySem.W.keepIn K (.ref f__law_made) = true) (b__law_made : Binds K fd__law_made ["_law_way", "_law_sides"] []) {f_Form_cells : Addr} {fd_Form_cells : FuncData} (G_Form_cells : FnOk P w K mg base CX0 8 f_Form_cells fd_Form_cells ["self"] (sp_Form_cells K)) (b_Form_cells : Binds K fd_Form_cells ["self"] []) (cm_Form_cells : ClsN K NS fun C => Cls K C ∧ Meth K C "cells" f_Form_cells) : FnOk P w K mg base CX0 9 f fd ["_law_cell"] (sp__law_one K) := by
  refine F.ok sc__law_one (fun vs H Q E h => h.1) (fun cdv A outer s H vs Q E hr h => ?_)
  have nd := (sc__law_one).nd
  exact ⟨_, pss_cons (ps_set (i := 1) nd rfl (Or.inl rfl) (pe_op op_sub (pe_un un_neg (pe_int)) (pe_ix ix_seq (pe_lst (pa_cons (pe_int) (pa_cons (pe_op op_mod (pe_callB call_absM (by rfl) T.abs bt_abs (pa_cons (pv 0) (pa_nil))) (pe_op op_sub (pe_op op_pow (pe_int) (pe_int)) (pe_int))) (pa_nil)))) (pe_op op_mod (pe_op op_fdiv (pv 0) (pe_int)) (pe_int)) (fun _ _ => rfl)))) (pss_cons (ps_set (i := 2) nd rfl (Or.inl rfl) (pe_lst (pa_cons (pe_op op_mod (pe_op op_fdiv (pv 0) (pe_int)) (pe_int)) (pa_cons (pe_op op_mod (pe_op op_fdiv (pv 0) (pe_int)) (pe_int)) (pa_cons (pe_op op_mod (pe_callB call_absM (by rfl) T.abs bt_abs (pa_cons (pv 0) (pa_nil))) (pe_op op_pow (pe_int) (pe_int))) (pa_cons (pe_op op_mod (pe_op op_fdiv (pv 0) (pe_int)) (pe_int)) (pa_nil))))))) (pss_cons (ps_asg (pv 1) (pg_sub (pv 2) (pe_op op_mod (pv 0) (pe_int)) set_list)) (pss_cons (ps_if (PW.pt (pw_or (pt_not (pt_truth (pe_call G__law_refused (hr.mono (by decide)) (by rfl) m__law_refused k__law_refused b__law_refused .nil pass0 (pa_cons (pe_int) (pa_cons (pv 2) (pa_nil)))) (fun _ => rfl))) (pw_or (pt_not (pt_truth (pe_call G__law_refused (hr.mono (by decide)) (by rfl) m__law_refused k__law_refused b__law_refused .nil pass0 (pa_cons (pe_int) (pa_cons (pe_lst (pa_cons (pv 1) (pa_nil))) (pa_nil)))) (fun _ => rfl))) (pw_or1 (pt_not (pt_truth (pe_call G__law_refused (hr.mono (by decide)) (by rfl) m__law_refused k__law_refused b__law_refused .nil pass0 (pa_cons (pe_int) (pa_cons (pe_lst (pa_nil)) (pa_nil)))) (fun _ => rfl))))))) (pss_one (ps_ret (pe_bl))) (pss_nil)) (pss_cons (ps_set (i := 2) nd rfl (Or.inl rfl) (pe_lst (pa_cons (pe_op op_mod (pe_op op_fdiv (pv 0) (pe_int)) (pe_int)) (pa_cons (pe_op op_mod (pe_op op_fdiv (pv 0) (pe_int)) (pe_int)) (pa_cons (pe_op op_mod (pe_op op_fdiv (pv 0) (pe_int)) (pe_int)) (pa_cons (pe_op op_mod (pe_op op_fdiv (pv 0) (pe_int)) (pe_int)) (pa_nil))))))) (pss_cons (ps_set (i := 3) nd rfl (Or.inl rfl) (pe_op op_mul (pe_op op_addM (pe_op op_addM (pe_int) (pe_ix ix_seq (pv 2) (pe_int) (fun _ _ => rfl))) (pe_ix ix_seq (pv 2) (pe_int) (fun _ _ => rfl))) (pe_op op_addM (pe_op op_addM (pe_int) (pe_ix ix_seq (pv 2) (pe_int) (fun _ _ => rfl))) (pe_ix ix_seq (pv 2) (pe_int) (fun _ _ => rfl))))) (pss_cons (ps_if (pt_cmpR (op_neM hr.units) (pe_call G__law_many (hr.mono (by decide)) (by rfl) m__law_many k__law_many b__law_many .nil pass0 (pa_cons (pe_methN0 cm_Form_cells G_Form_cells (hr.mono (by decide)) b_Form_cells pass0 (pe_call G__law_made (hr.mono (by decide)) (by rfl) m__law_made k__law_made b__law_made .nil pass0 (pa_cons (pe_int) (pa_cons (pv 2) (pa_nil))))) (pa_nil))) (pv 3) (nomark _)) (pss_one (ps_ret (pe_bl))) (pss_nil)) (pss_one (ps_ret (pe_cmpR (op_eqM hr.units) (pe_call G__law_many (hr.mono (by decide)) (by rfl) m__law_many k__law_many b__law_many .nil pass0 (pa_cons (pe_methN0 cm_Form_cells G_Form_cells (hr.mono (by decide)) b_Form_cells pass0 (pe_call G__law_made (hr.mono (by decide)) (by rfl) m__law_made k__law_made b__law_made .nil pass0 (pa_cons (pe_int) (pa_cons (pv 2) (pa_nil))))) (pa_nil))) (pe_op op_addM (pe_int) (pe_op op_mul (pe_int) (pe_ix ix_seq (pv 2) (pe_int) (fun _ _ => rfl)))) (nomark _)))))))))), rd__law_one h⟩
theorem ok_law {f : Addr} {fd : FuncData} (F : Fun K "law" "law" s_law f fd) (T : Txt K mg) {f__law_one : Addr} {fd__law_one : FuncData} (G__law_one : FnOk P w K mg base CX0 9 f__law_one fd__law_one ["_law_cell"] (sp__law_one K)) (m__law_one : mg "_law_one" = some (.ref f__law_one)) (k__law_one : PySem.W.keepIn K (.ref f__law_one) = true) (b__law_one : Binds K fd__law_one ["_law_cell"] []) : FnOk P w K mg base CX0 10 f fd ["_law_script"] (sp_law K) := by
  refine F.ok sc_law (fun vs H Q E h => h.1) (fun cdv A outer s H vs Q E hr h => ?_)
  have nd := (sc_law).nd
  exact ⟨_, pss_cons (ps_for PassesOwn.never rfl (pi_seq (pe_slice sl_M (pv 0) (po_none) (po_some (pe_int)))) (pg_name (i := 1) nd rfl (Or.inl rfl)) (pss_one (ps_if (pt_not (pt_truth (pe_call G__law_one (hr.mono (by decide)) (by rfl) m__law_one k__law_one b__law_one .nil pass0 (pa_cons (pv 1) (pa_nil))) (fun _ => rfl))) (pss_one (ps_ret (pe_bl))) (pss_nil)))) (pss_one (ps_ret (pe_and (pe_call G__law_one (hr.mono (by decide)) (by rfl) m__law_one k__law_one b__law_one .nil pass0 (pa_cons (pe_int) (pa_nil))) (pe_one (pe_call G__law_one (hr.mono (by decide)) (by rfl) m__law_one k__law_one b__law_one .nil pass0 (pa_cons (pe_un un_neg (pe_int)) (pa_nil))))))), rd_law h⟩
end
theorem usS {us : List Value} {n : Nat} (h : us.length = n + 1) : ∃ a v, us = a :: v ∧ v.length = n := by
  cases us with
  | nil => cases h
  | cons a v => exact ⟨a, v, rfl, Nat.succ.inj h⟩
theorem us1 {us : List Value} (h : us.length = 1) : ∃ a0, us = [a0] := by
  obtain ⟨a0, v0, rfl, h0⟩ := usS h
  cases v0 with
  | nil => exact ⟨a0, rfl⟩
  | cons a v => cases h0
theorem us2 {us : List Value} (h : us.length = 2) : ∃ a0 a1, us = [a0, a1] := by
  obtain ⟨a0, v0, rfl, h0⟩ := usS h
  obtain ⟨a1, v1, rfl, h1⟩ := usS h0
  cases v1 with
  | nil => exact ⟨a0, a1, rfl⟩
  | cons a v => cases h1
theorem us3 {us : List Value} (h : us.length = 3) : ∃ a0 a1 a2, us = [a0, a1, a2] := by
  obtain ⟨a0, v0, rfl, h0⟩ := usS h
  obtain ⟨a1, v1, rfl, h1⟩ := usS h0
  obtain ⟨a2, v2, rfl, h2⟩ := usS h1
  cases v2 with
  | nil => exact ⟨a0, a1, a2, rfl⟩
  | cons a v => cases h2
theorem us5 {us : List Value} (h : us.length = 5) : ∃ a0 a1 a2 a3 a4, us = [a0, a1, a2, a3, a4] := by
  obtain ⟨a0, v0, rfl, h0⟩ := usS h
  obtain ⟨a1, v1, rfl, h1⟩ := usS h0
  obtain ⟨a2, v2, rfl, h2⟩ := usS h1
  obtain ⟨a3, v3, rfl, h3⟩ := usS h2
  obtain ⟨a4, v4, rfl, h4⟩ := usS h3
  cases v4 with
  | nil => exact ⟨a0, a1, a2, a3, a4, rfl⟩
  | cons a v => cases h4
theorem all_mk {l : PySem.W.OpenLaw} {w : World} {K : PySem.W.Frag} {h : Heap} {mg : Str → Option Value} {fa : Addr} (X : K.In h) (G : h.Ns mainGlobals mg) (hfa : mg "law" = some (.ref fa))
    {c_Box : Addr}
    {c_Cross : Addr}
    {c_Shape : Addr}
    {c_Form : Addr}
    {f_row_of : Addr} {od_row_of an_row_of : Option Addr} {sl_row_of : Array (Option Value)} {oc_row_of kV_row_of dc_row_of pm_row_of cd_row_of ct_row_of : Value}
    {f_row_moved : Addr} {od_row_moved an_row_moved : Option Addr} {sl_row_moved : Array (Option Value)} {oc_row_moved kV_row_moved dc_row_moved pm_row_moved cd_row_moved ct_row_moved : Value}
    {f_picture_of : Addr} {od_picture_of an_picture_of : Option Addr} {sl_picture_of : Array (Option Value)} {oc_picture_of kV_picture_of dc_picture_of pm_picture_of cd_picture_of ct_picture_of : Value}
    {f_stretches_of : Addr} {od_stretches_of an_stretches_of : Option Addr} {sl_stretches_of : Array (Option Value)} {oc_stretches_of kV_stretches_of dc_stretches_of pm_stretches_of cd_stretches_of ct_stretches_of : Value}
    {f_join : Addr} {od_join an_join : Option Addr} {sl_join : Array (Option Value)} {oc_join kV_join dc_join pm_join cd_join ct_join : Value}
    {f_moved : Addr} {od_moved an_moved : Option Addr} {sl_moved : Array (Option Value)} {oc_moved kV_moved dc_moved pm_moved cd_moved ct_moved : Value}
    {f_blocks_of : Addr} {od_blocks_of an_blocks_of : Option Addr} {sl_blocks_of : Array (Option Value)} {oc_blocks_of kV_blocks_of dc_blocks_of pm_blocks_of cd_blocks_of ct_blocks_of : Value}
    {f_spread_down : Addr} {od_spread_down an_spread_down : Option Addr} {sl_spread_down : Array (Option Value)} {oc_spread_down kV_spread_down dc_spread_down pm_spread_down cd_spread_down ct_spread_down : Value}
    {f_greater_by_block : Addr} {od_greater_by_block an_greater_by_block : Option Addr} {sl_greater_by_block : Array (Option Value)} {oc_greater_by_block kV_greater_by_block dc_greater_by_block pm_greater_by_block cd_greater_by_block ct_greater_by_block : Value}
    {f_greater_by_part : Addr} {od_greater_by_part an_greater_by_part : Option Addr} {sl_greater_by_part : Array (Option Value)} {oc_greater_by_part kV_greater_by_part dc_greater_by_part pm_greater_by_part cd_greater_by_part ct_greater_by_part : Value}
    {f__law_made : Addr} {od__law_made an__law_made : Option Addr} {sl__law_made : Array (Option Value)} {oc__law_made kV__law_made dc__law_made pm__law_made cd__law_made ct__law_made : Value}
    {f__law_refused : Addr} {od__law_refused an__law_refused : Option Addr} {sl__law_refused : Array (Option Value)} {oc__law_refused kV__law_refused dc__law_refused pm__law_refused cd__law_refused ct__law_refused : Value}
    {f__law_many : Addr} {od__law_many an__law_many : Option Addr} {sl__law_many : Array (Option Value)} {oc__law_many kV__law_many dc__law_many pm__law_many cd__law_many ct__law_many : Value}
    {f__law_one : Addr} {od__law_one an__law_one : Option Addr} {sl__law_one : Array (Option Value)} {oc__law_one kV__law_one dc__law_one pm__law_one cd__law_one ct__law_one : Value}
    {f_law : Addr} {od_law an_law : Option Addr} {sl_law : Array (Option Value)} {oc_law kV_law dc_law pm_law cd_law ct_law : Value}
    {f_Form___init__ : Addr} {od_Form___init__ an_Form___init__ : Option Addr} {sl_Form___init__ : Array (Option Value)} {oc_Form___init__ kV_Form___init__ dc_Form___init__ pm_Form___init__ cd_Form___init__ ct_Form___init__ : Value}
    {f_Form_cells : Addr} {od_Form_cells an_Form_cells : Option Addr} {sl_Form_cells : Array (Option Value)} {oc_Form_cells kV_Form_cells dc_Form_cells pm_Form_cells cd_Form_cells ct_Form_cells : Value}
    {f_Form_greater : Addr} {od_Form_greater an_Form_greater : Option Addr} {sl_Form_greater : Array (Option Value)} {oc_Form_greater kV_Form_greater dc_Form_greater pm_Form_greater cd_Form_greater ct_Form_greater : Value}
    {f_Box___init__ : Addr} {od_Box___init__ an_Box___init__ : Option Addr} {sl_Box___init__ : Array (Option Value)} {oc_Box___init__ kV_Box___init__ dc_Box___init__ pm_Box___init__ cd_Box___init__ ct_Box___init__ : Value}
    {f_Cross___init__ : Addr} {od_Cross___init__ an_Cross___init__ : Option Addr} {sl_Cross___init__ : Array (Option Value)} {oc_Cross___init__ kV_Cross___init__ dc_Cross___init__ pm_Cross___init__ cd_Cross___init__ ct_Cross___init__ : Value}
    {f_Shape___init__ : Addr} {od_Shape___init__ an_Shape___init__ : Option Addr} {sl_Shape___init__ : Array (Option Value)} {oc_Shape___init__ kV_Shape___init__ dc_Shape___init__ pm_Shape___init__ cd_Shape___init__ ct_Shape___init__ : Value}
    {c_NoBack : Addr}
    {c_NoForm : Addr}
    {c_NoName : Addr}
    {c_NoRow : Addr}
    {c_NoText : Addr}
    {c_ShapeError : Addr}
    {c_TooGreat : Addr}
    {c_TooMany : Addr}
    {g_ONE_CELL_0 : Addr} {od_ONE_CELL_0 : Option Addr} {n_ONE_CELL_0 : Nat} {sl_ONE_CELL_0 : Array (Option Value)}
    {g_ONE_CELL_1 : Addr} {od_ONE_CELL_1 : Option Addr} {n_ONE_CELL_1 : Nat} {sl_ONE_CELL_1 : Array (Option Value)}
    {t_ONE_CELL_1_0 : Tok}
    {g_ONE_CELL_2 : Addr} {od_ONE_CELL_2 : Option Addr} {n_ONE_CELL_2 : Nat} {sl_ONE_CELL_2 : Array (Option Value)}
    {g_ONE_CELL_3 : Addr} {od_ONE_CELL_3 : Option Addr} {n_ONE_CELL_3 : Nat} {sl_ONE_CELL_3 : Array (Option Value)}
    {t_ONE_CELL_3_0 : Tok}
    {t_ONE_CELL_3_1 : Tok}
    (n_Box : PySem.W.nsIn K mainGlobals "Box" = some (some (.ref c_Box)))
    (n_Cross : PySem.W.nsIn K mainGlobals "Cross" = some (some (.ref c_Cross)))
    (n_Shape : PySem.W.nsIn K mainGlobals "Shape" = some (some (.ref c_Shape)))
    (n_Form : PySem.W.nsIn K mainGlobals "Form" = some (some (.ref c_Form)))
    (a_row_of : PySem.W.nsIn K mainGlobals "row_of" = some (some (.ref f_row_of))) (l_row_of : K.lookup f_row_of = some ⟨oc_row_of, od_row_of, .func (PySem.W.fnOf "row_of" "row_of" (defArgs s_row_of) (defBody s_row_of) (defScope s_row_of) .none kV_row_of dc_row_of pm_row_of an_row_of cd_row_of ct_row_of), sl_row_of⟩) (e_row_of : PySem.W.codeIn K cd_row_of "row_of" = true) (k_row_of : PySem.W.keepIn K (.ref f_row_of) = true)
    (a_row_moved : PySem.W.nsIn K mainGlobals "row_moved" = some (some (.ref f_row_moved))) (l_row_moved : K.lookup f_row_moved = some ⟨oc_row_moved, od_row_moved, .func (PySem.W.fnOf "row_moved" "row_moved" (defArgs s_row_moved) (defBody s_row_moved) (defScope s_row_moved) .none kV_row_moved dc_row_moved pm_row_moved an_row_moved cd_row_moved ct_row_moved), sl_row_moved⟩) (e_row_moved : PySem.W.codeIn K cd_row_moved "row_moved" = true) (k_row_moved : PySem.W.keepIn K (.ref f_row_moved) = true)
    (a_picture_of : PySem.W.nsIn K mainGlobals "picture_of" = some (some (.ref f_picture_of))) (l_picture_of : K.lookup f_picture_of = some ⟨oc_picture_of, od_picture_of, .func (PySem.W.fnOf "picture_of" "picture_of" (defArgs s_picture_of) (defBody s_picture_of) (defScope s_picture_of) .none kV_picture_of dc_picture_of pm_picture_of an_picture_of cd_picture_of ct_picture_of), sl_picture_of⟩) (e_picture_of : PySem.W.codeIn K cd_picture_of "picture_of" = true) (k_picture_of : PySem.W.keepIn K (.ref f_picture_of) = true)
    (a_stretches_of : PySem.W.nsIn K mainGlobals "stretches_of" = some (some (.ref f_stretches_of))) (l_stretches_of : K.lookup f_stretches_of = some ⟨oc_stretches_of, od_stretches_of, .func (PySem.W.fnOf "stretches_of" "stretches_of" (defArgs s_stretches_of) (defBody s_stretches_of) (defScope s_stretches_of) .none kV_stretches_of dc_stretches_of pm_stretches_of an_stretches_of cd_stretches_of ct_stretches_of), sl_stretches_of⟩) (e_stretches_of : PySem.W.codeIn K cd_stretches_of "stretches_of" = true) (k_stretches_of : PySem.W.keepIn K (.ref f_stretches_of) = true)
    (a_join : PySem.W.nsIn K mainGlobals "join" = some (some (.ref f_join))) (l_join : K.lookup f_join = some ⟨oc_join, od_join, .func (PySem.W.fnOf "join" "join" (defArgs s_join) (defBody s_join) (defScope s_join) .none kV_join dc_join pm_join an_join cd_join ct_join), sl_join⟩) (e_join : PySem.W.codeIn K cd_join "join" = true) (k_join : PySem.W.keepIn K (.ref f_join) = true)
    (a_moved : PySem.W.nsIn K mainGlobals "moved" = some (some (.ref f_moved))) (l_moved : K.lookup f_moved = some ⟨oc_moved, od_moved, .func (PySem.W.fnOf "moved" "moved" (defArgs s_moved) (defBody s_moved) (defScope s_moved) .none kV_moved dc_moved pm_moved an_moved cd_moved ct_moved), sl_moved⟩) (e_moved : PySem.W.codeIn K cd_moved "moved" = true) (k_moved : PySem.W.keepIn K (.ref f_moved) = true)
    (a_blocks_of : PySem.W.nsIn K mainGlobals "blocks_of" = some (some (.ref f_blocks_of))) (l_blocks_of : K.lookup f_blocks_of = some ⟨oc_blocks_of, od_blocks_of, .func (PySem.W.fnOf "blocks_of" "blocks_of" (defArgs s_blocks_of) (defBody s_blocks_of) (defScope s_blocks_of) .none kV_blocks_of dc_blocks_of pm_blocks_of an_blocks_of cd_blocks_of ct_blocks_of), sl_blocks_of⟩) (e_blocks_of : PySem.W.codeIn K cd_blocks_of "blocks_of" = true) (k_blocks_of : PySem.W.keepIn K (.ref f_blocks_of) = true)
    (a_spread_down : PySem.W.nsIn K mainGlobals "spread_down" = some (some (.ref f_spread_down))) (l_spread_down : K.lookup f_spread_down = some ⟨oc_spread_down, od_spread_down, .func (PySem.W.fnOf "spread_down" "spread_down" (defArgs s_spread_down) (defBody s_spread_down) (defScope s_spread_down) .none kV_spread_down dc_spread_down pm_spread_down an_spread_down cd_spread_down ct_spread_down), sl_spread_down⟩) (e_spread_down : PySem.W.codeIn K cd_spread_down "spread_down" = true) (k_spread_down : PySem.W.keepIn K (.ref f_spread_down) = true)
    (a_greater_by_block : PySem.W.nsIn K mainGlobals "greater_by_block" = some (some (.ref f_greater_by_block))) (l_greater_by_block : K.lookup f_greater_by_block = some ⟨oc_greater_by_block, od_greater_by_block, .func (PySem.W.fnOf "greater_by_block" "greater_by_block" (defArgs s_greater_by_block) (defBody s_greater_by_block) (defScope s_greater_by_block) .none kV_greater_by_block dc_greater_by_block pm_greater_by_block an_greater_by_block cd_greater_by_block ct_greater_by_block), sl_greater_by_block⟩) (e_greater_by_block : PySem.W.codeIn K cd_greater_by_block "greater_by_block" = true) (k_greater_by_block : PySem.W.keepIn K (.ref f_greater_by_block) = true)
    (a_greater_by_part : PySem.W.nsIn K mainGlobals "greater_by_part" = some (some (.ref f_greater_by_part))) (l_greater_by_part : K.lookup f_greater_by_part = some ⟨oc_greater_by_part, od_greater_by_part, .func (PySem.W.fnOf "greater_by_part" "greater_by_part" (defArgs s_greater_by_part) (defBody s_greater_by_part) (defScope s_greater_by_part) .none kV_greater_by_part dc_greater_by_part pm_greater_by_part an_greater_by_part cd_greater_by_part ct_greater_by_part), sl_greater_by_part⟩) (e_greater_by_part : PySem.W.codeIn K cd_greater_by_part "greater_by_part" = true) (k_greater_by_part : PySem.W.keepIn K (.ref f_greater_by_part) = true)
    (a__law_made : PySem.W.nsIn K mainGlobals "_law_made" = some (some (.ref f__law_made))) (l__law_made : K.lookup f__law_made = some ⟨oc__law_made, od__law_made, .func (PySem.W.fnOf "_law_made" "_law_made" (defArgs s__law_made) (defBody s__law_made) (defScope s__law_made) .none kV__law_made dc__law_made pm__law_made an__law_made cd__law_made ct__law_made), sl__law_made⟩) (e__law_made : PySem.W.codeIn K cd__law_made "_law_made" = true) (k__law_made : PySem.W.keepIn K (.ref f__law_made) = true)
    (a__law_refused : PySem.W.nsIn K mainGlobals "_law_refused" = some (some (.ref f__law_refused))) (l__law_refused : K.lookup f__law_refused = some ⟨oc__law_refused, od__law_refused, .func (PySem.W.fnOf "_law_refused" "_law_refused" (defArgs s__law_refused) (defBody s__law_refused) (defScope s__law_refused) .none kV__law_refused dc__law_refused pm__law_refused an__law_refused cd__law_refused ct__law_refused), sl__law_refused⟩) (e__law_refused : PySem.W.codeIn K cd__law_refused "_law_refused" = true) (k__law_refused : PySem.W.keepIn K (.ref f__law_refused) = true)
    (a__law_many : PySem.W.nsIn K mainGlobals "_law_many" = some (some (.ref f__law_many))) (l__law_many : K.lookup f__law_many = some ⟨oc__law_many, od__law_many, .func (PySem.W.fnOf "_law_many" "_law_many" (defArgs s__law_many) (defBody s__law_many) (defScope s__law_many) .none kV__law_many dc__law_many pm__law_many an__law_many cd__law_many ct__law_many), sl__law_many⟩) (e__law_many : PySem.W.codeIn K cd__law_many "_law_many" = true) (k__law_many : PySem.W.keepIn K (.ref f__law_many) = true)
    (a__law_one : PySem.W.nsIn K mainGlobals "_law_one" = some (some (.ref f__law_one))) (l__law_one : K.lookup f__law_one = some ⟨oc__law_one, od__law_one, .func (PySem.W.fnOf "_law_one" "_law_one" (defArgs s__law_one) (defBody s__law_one) (defScope s__law_one) .none kV__law_one dc__law_one pm__law_one an__law_one cd__law_one ct__law_one), sl__law_one⟩) (e__law_one : PySem.W.codeIn K cd__law_one "_law_one" = true) (k__law_one : PySem.W.keepIn K (.ref f__law_one) = true)
    (a_law : PySem.W.nsIn K mainGlobals "law" = some (some (.ref f_law))) (l_law : K.lookup f_law = some ⟨oc_law, od_law, .func (PySem.W.fnOf "law" "law" (defArgs s_law) (defBody s_law) (defScope s_law) .none kV_law dc_law pm_law an_law cd_law ct_law), sl_law⟩) (e_law : PySem.W.codeIn K cd_law "law" = true) (k_law : PySem.W.keepIn K (.ref f_law) = true)
    (a_Form___init__ : PySem.W.findIn K (.ref c_Form) "__init__" = some (some (.ref f_Form___init__))) (i_Form___init__ : PySem.W.isFn K (.ref f_Form___init__) = true) (l_Form___init__ : K.lookup f_Form___init__ = some ⟨oc_Form___init__, od_Form___init__, .func (PySem.W.fnOf "__init__" "Form.__init__" (defArgs s_Form___init__) (defBody s_Form___init__) (defScope s_Form___init__) .none kV_Form___init__ dc_Form___init__ pm_Form___init__ an_Form___init__ cd_Form___init__ ct_Form___init__), sl_Form___init__⟩) (e_Form___init__ : PySem.W.codeIn K cd_Form___init__ "Form.__init__" = true) (k_Form___init__ : PySem.W.keepIn K (.ref f_Form___init__) = true)
    (a_Form_cells : PySem.W.findIn K (.ref c_Box) "cells" = some (some (.ref f_Form_cells))) (i_Form_cells : PySem.W.isFn K (.ref f_Form_cells) = true) (l_Form_cells : K.lookup f_Form_cells = some ⟨oc_Form_cells, od_Form_cells, .func (PySem.W.fnOf "cells" "Form.cells" (defArgs s_Form_cells) (defBody s_Form_cells) (defScope s_Form_cells) .none kV_Form_cells dc_Form_cells pm_Form_cells an_Form_cells cd_Form_cells ct_Form_cells), sl_Form_cells⟩) (e_Form_cells : PySem.W.codeIn K cd_Form_cells "Form.cells" = true) (k_Form_cells : PySem.W.keepIn K (.ref f_Form_cells) = true)
    (a_Form_greater : PySem.W.findIn K (.ref c_Box) "greater" = some (some (.ref f_Form_greater))) (i_Form_greater : PySem.W.isFn K (.ref f_Form_greater) = true) (l_Form_greater : K.lookup f_Form_greater = some ⟨oc_Form_greater, od_Form_greater, .func (PySem.W.fnOf "greater" "Form.greater" (defArgs s_Form_greater) (defBody s_Form_greater) (defScope s_Form_greater) .none kV_Form_greater dc_Form_greater pm_Form_greater an_Form_greater cd_Form_greater ct_Form_greater), sl_Form_greater⟩) (e_Form_greater : PySem.W.codeIn K cd_Form_greater "Form.greater" = true) (k_Form_greater : PySem.W.keepIn K (.ref f_Form_greater) = true)
    (a_Box___init__ : PySem.W.findIn K (.ref c_Box) "__init__" = some (some (.ref f_Box___init__))) (i_Box___init__ : PySem.W.isFn K (.ref f_Box___init__) = true) (l_Box___init__ : K.lookup f_Box___init__ = some ⟨oc_Box___init__, od_Box___init__, .func (PySem.W.fnOf "__init__" "Box.__init__" (defArgs s_Box___init__) (defBody s_Box___init__) (defScope s_Box___init__) .none kV_Box___init__ dc_Box___init__ pm_Box___init__ an_Box___init__ cd_Box___init__ ct_Box___init__), sl_Box___init__⟩) (e_Box___init__ : PySem.W.codeIn K cd_Box___init__ "Box.__init__" = true) (k_Box___init__ : PySem.W.keepIn K (.ref f_Box___init__) = true)
    (a_Cross___init__ : PySem.W.findIn K (.ref c_Cross) "__init__" = some (some (.ref f_Cross___init__))) (i_Cross___init__ : PySem.W.isFn K (.ref f_Cross___init__) = true) (l_Cross___init__ : K.lookup f_Cross___init__ = some ⟨oc_Cross___init__, od_Cross___init__, .func (PySem.W.fnOf "__init__" "Cross.__init__" (defArgs s_Cross___init__) (defBody s_Cross___init__) (defScope s_Cross___init__) .none kV_Cross___init__ dc_Cross___init__ pm_Cross___init__ an_Cross___init__ cd_Cross___init__ ct_Cross___init__), sl_Cross___init__⟩) (e_Cross___init__ : PySem.W.codeIn K cd_Cross___init__ "Cross.__init__" = true) (k_Cross___init__ : PySem.W.keepIn K (.ref f_Cross___init__) = true)
    (a_Shape___init__ : PySem.W.findIn K (.ref c_Shape) "__init__" = some (some (.ref f_Shape___init__))) (i_Shape___init__ : PySem.W.isFn K (.ref f_Shape___init__) = true) (l_Shape___init__ : K.lookup f_Shape___init__ = some ⟨oc_Shape___init__, od_Shape___init__, .func (PySem.W.fnOf "__init__" "Shape.__init__" (defArgs s_Shape___init__) (defBody s_Shape___init__) (defScope s_Shape___init__) .none kV_Shape___init__ dc_Shape___init__ pm_Shape___init__ an_Shape___init__ cd_Shape___init__ ct_Shape___init__), sl_Shape___init__⟩) (e_Shape___init__ : PySem.W.codeIn K cd_Shape___init__ "Shape.__init__" = true) (k_Shape___init__ : PySem.W.keepIn K (.ref f_Shape___init__) = true)
    (pg_Box : PySem.W.plainGet K c_Box Str.empty = true) (hd_Box : PySem.W.hasDictIn K c_Box = true) (po_Box : PySem.W.plainOver K c_Box = true) (sa_Box : PySem.W.findIn K (.ref c_Box) "__setattr__" = some (some (.builtin "object.__setattr__"))) (mk_Box : PySem.W.makesIn K c_Box = true) (kc_Box : PySem.W.keepIn K (.ref c_Box) = true) (np_Box : PySem.W.findIn K (.ref c_Box) "parts" = some none)
    (mm_Box_cells : PySem.W.findIn K (.ref c_Box) "cells" = some (some (.ref f_Form_cells)))
    (mm_Box_greater : PySem.W.findIn K (.ref c_Box) "greater" = some (some (.ref f_Form_greater)))
    (pg_Cross : PySem.W.plainGet K c_Cross Str.empty = true) (hd_Cross : PySem.W.hasDictIn K c_Cross = true) (po_Cross : PySem.W.plainOver K c_Cross = true) (sa_Cross : PySem.W.findIn K (.ref c_Cross) "__setattr__" = some (some (.builtin "object.__setattr__"))) (mk_Cross : PySem.W.makesIn K c_Cross = true) (kc_Cross : PySem.W.keepIn K (.ref c_Cross) = true) (np_Cross : PySem.W.findIn K (.ref c_Cross) "parts" = some none)
    (mm_Cross_cells : PySem.W.findIn K (.ref c_Cross) "cells" = some (some (.ref f_Form_cells)))
    (mm_Cross_greater : PySem.W.findIn K (.ref c_Cross) "greater" = some (some (.ref f_Form_greater)))
    (pg_Shape : PySem.W.plainGet K c_Shape Str.empty = true) (hd_Shape : PySem.W.hasDictIn K c_Shape = true) (po_Shape : PySem.W.plainOver K c_Shape = true) (sa_Shape : PySem.W.findIn K (.ref c_Shape) "__setattr__" = some (some (.builtin "object.__setattr__"))) (mk_Shape : PySem.W.makesIn K c_Shape = true) (kc_Shape : PySem.W.keepIn K (.ref c_Shape) = true) (np_Shape : PySem.W.findIn K (.ref c_Shape) "parts" = some none)
    (mm_Shape_cells : PySem.W.findIn K (.ref c_Shape) "cells" = some (some (.ref f_Form_cells)))
    (mm_Shape_greater : PySem.W.findIn K (.ref c_Shape) "greater" = some (some (.ref f_Form_greater)))
    (n_NoBack : PySem.W.nsIn K mainGlobals "NoBack" = some (some (.ref c_NoBack)))
    (n_NoForm : PySem.W.nsIn K mainGlobals "NoForm" = some (some (.ref c_NoForm)))
    (n_NoName : PySem.W.nsIn K mainGlobals "NoName" = some (some (.ref c_NoName)))
    (n_NoRow : PySem.W.nsIn K mainGlobals "NoRow" = some (some (.ref c_NoRow)))
    (n_NoText : PySem.W.nsIn K mainGlobals "NoText" = some (some (.ref c_NoText)))
    (n_ShapeError : PySem.W.nsIn K mainGlobals "ShapeError" = some (some (.ref c_ShapeError)))
    (n_TooGreat : PySem.W.nsIn K mainGlobals "TooGreat" = some (some (.ref c_TooGreat)))
    (n_TooMany : PySem.W.nsIn K mainGlobals "TooMany" = some (some (.ref c_TooMany)))
    (xg : PySem.W.specialIn K (.builtin "object.__class__") "__get__" = some (some (.builtin "getset_descriptor.__get__"))) (xt : PySem.W.takesIn K (.builtin "object.__class__") = some true)
    (x1_NoForm : PySem.W.hasDictIn K c_NoForm = true) (x2_NoForm : PySem.W.findIn K (.ref c_NoForm) "__getattribute__" = some (some (.builtin "BaseException.__getattribute__"))) (x3_NoForm : PySem.W.findIn K (.ref c_NoForm) "__getattr__" = some none) (x4_NoForm : PySem.W.findIn K (.ref c_NoForm) "__class__" = some (some (.builtin "object.__class__"))) (x5_NoForm : PySem.W.mroIn K c_NoForm (.type "object") = some true) (x6_NoForm : PySem.W.mroIn K c_NoForm (.type "BaseException") = some true) (xe_NoForm : PySem.W.excIn K c_NoForm bmV "ValueError.__new__" = true)
    (xo_NoForm_NoBack : PySem.W.kitOne K (.ref c_NoForm) (.ref c_NoBack) = some false)
    (xo_NoForm_NoForm : PySem.W.kitOne K (.ref c_NoForm) (.ref c_NoForm) = some true)
    (xo_NoForm_NoName : PySem.W.kitOne K (.ref c_NoForm) (.ref c_NoName) = some false)
    (xo_NoForm_NoRow : PySem.W.kitOne K (.ref c_NoForm) (.ref c_NoRow) = some false)
    (xo_NoForm_NoText : PySem.W.kitOne K (.ref c_NoForm) (.ref c_NoText) = some false)
    (xo_NoForm_TooGreat : PySem.W.kitOne K (.ref c_NoForm) (.ref c_TooGreat) = some false)
    (xo_NoForm_TooMany : PySem.W.kitOne K (.ref c_NoForm) (.ref c_TooMany) = some false)
    (xo_NoForm_ValueError : PySem.W.kitOne K (.ref c_NoForm) (.type "ValueError") = some true)
    (xm_NoForm_ShapeError : PySem.W.exmOne K (.ref c_NoForm) (.ref c_ShapeError) = some true)
    (bs_Form : PySem.W.specialIn K (.ref c_Form) "__getattribute__" = some (some (.builtin "type.__getattribute__"))) (br_Form : PySem.W.readsIn K c_Form (.type "type") = true) (bf_Form : PySem.W.findCls K (.ref c_Form) (.type "type") "__init__" = some (.val (.ref f_Form___init__)))
    (z_ValueError : PySem.W.nsIn K mainGlobals "ValueError" = some none)
    (z_abs : PySem.W.nsIn K mainGlobals "abs" = some none)
    (z_isinstance : PySem.W.nsIn K mainGlobals "isinstance" = some none)
    (z_max : PySem.W.nsIn K mainGlobals "max" = some none)
    (z_min : PySem.W.nsIn K mainGlobals "min" = some none)
    (z_reversed : PySem.W.nsIn K mainGlobals "reversed" = some none)
    (z_sorted : PySem.W.nsIn K mainGlobals "sorted" = some none)
    (z_tuple : PySem.W.nsIn K mainGlobals "tuple" = some none)
    (y_ONE_CELL : PySem.W.nsIn K mainGlobals "ONE_CELL" = some (some (.ref g_ONE_CELL_0)))
    (v_ONE_CELL_0 : K.lookup g_ONE_CELL_0 = some ⟨.type "tuple", od_ONE_CELL_0, .seq #[.ref g_ONE_CELL_1] n_ONE_CELL_0, sl_ONE_CELL_0⟩)
    (v_ONE_CELL_1 : K.lookup g_ONE_CELL_1 = some ⟨.type "tuple", od_ONE_CELL_1, .seq #[.int (0) t_ONE_CELL_1_0, .ref g_ONE_CELL_2] n_ONE_CELL_1, sl_ONE_CELL_1⟩)
    (v_ONE_CELL_2 : K.lookup g_ONE_CELL_2 = some ⟨.type "tuple", od_ONE_CELL_2, .seq #[.ref g_ONE_CELL_3] n_ONE_CELL_2, sl_ONE_CELL_2⟩)
    (v_ONE_CELL_3 : K.lookup g_ONE_CELL_3 = some ⟨.type "tuple", od_ONE_CELL_3, .seq #[.int (0) t_ONE_CELL_3_0, .int (0) t_ONE_CELL_3_1] n_ONE_CELL_3, sl_ONE_CELL_3⟩)
    : ∃ fd : FuncData, (∀ (s : Shared) (v : Value), BindsTo s fd ⟨[v], []⟩ [("_law_script", v)]) ∧ ∀ base : Heap, K.In base → base.Ns mainGlobals mg → FnOk l.prog w K mg base CX0 10 fa fd ["_law_script"] (sp_law K) := by
  have e := hfa.symm.trans (PySem.W.mg_of X G a_law)
  cases e
  have cN : ClsN K NS fun C => Cls K C ∧ NoAttr K C "parts" := by
    intro N hN C hC
    simp only [List.mem_cons, List.not_mem_nil, or_false] at hN
    rcases hN with rfl | rfl | rfl
    · rw [n_Box] at hC; cases hC; exact ⟨⟨pg_Box, hd_Box, po_Box, sa_Box⟩, np_Box⟩
    · rw [n_Cross] at hC; cases hC; exact ⟨⟨pg_Cross, hd_Cross, po_Cross, sa_Cross⟩, np_Cross⟩
    · rw [n_Shape] at hC; cases hC; exact ⟨⟨pg_Shape, hd_Shape, po_Shape, sa_Shape⟩, np_Shape⟩
  have cm_Form_cells : ClsN K NS fun C => Cls K C ∧ Meth K C "cells" f_Form_cells := by
    intro N hN C hC
    simp only [List.mem_cons, List.not_mem_nil, or_false] at hN
    rcases hN with rfl | rfl | rfl
    · rw [n_Box] at hC; cases hC; exact ⟨⟨pg_Box, hd_Box, po_Box, sa_Box⟩, ⟨mm_Box_cells, i_Form_cells, k_Form_cells⟩⟩
    · rw [n_Cross] at hC; cases hC; exact ⟨⟨pg_Cross, hd_Cross, po_Cross, sa_Cross⟩, ⟨mm_Cross_cells, i_Form_cells, k_Form_cells⟩⟩
    · rw [n_Shape] at hC; cases hC; exact ⟨⟨pg_Shape, hd_Shape, po_Shape, sa_Shape⟩, ⟨mm_Shape_cells, i_Form_cells, k_Form_cells⟩⟩
  have cm_Form_greater : ClsN K NS fun C => Cls K C ∧ Meth K C "greater" f_Form_greater := by
    intro N hN C hC
    simp only [List.mem_cons, List.not_mem_nil, or_false] at hN
    rcases hN with rfl | rfl | rfl
    · rw [n_Box] at hC; cases hC; exact ⟨⟨pg_Box, hd_Box, po_Box, sa_Box⟩, ⟨mm_Box_greater, i_Form_greater, k_Form_greater⟩⟩
    · rw [n_Cross] at hC; cases hC; exact ⟨⟨pg_Cross, hd_Cross, po_Cross, sa_Cross⟩, ⟨mm_Cross_greater, i_Form_greater, k_Form_greater⟩⟩
    · rw [n_Shape] at hC; cases hC; exact ⟨⟨pg_Shape, hd_Shape, po_Shape, sa_Shape⟩, ⟨mm_Shape_greater, i_Form_greater, k_Form_greater⟩⟩
  have xc_ShapeError : ∃ T : Addr, mg "ShapeError" = some (.ref T) ∧ ∀ N ∈ xNs, ∀ C : Addr, PySem.W.nsIn K mainGlobals N = some (some (.ref C)) → PySem.W.exmOne K (.ref C) (.ref T) = some true := by
    refine ⟨c_ShapeError, PySem.W.mg_of X G n_ShapeError, fun N hN C hC => ?_⟩
    simp only [List.mem_cons, List.not_mem_nil, or_false] at hN
    rcases hN with rfl
    · rw [n_NoForm] at hC; cases hC; exact xm_NoForm_ShapeError
  have xa_NoBack : ∃ T : Addr, mg "NoBack" = some (.ref T) ∧ AnsX K ax_NoBack (.ref T) := ⟨c_NoBack, PySem.W.mg_of X G n_NoBack, ansX_cons (fun C hC => by rw [n_NoForm] at hC; cases hC; exact ⟨⟨x1_NoForm, x2_NoForm, x3_NoForm, x4_NoForm, xg, xt, x5_NoForm, x6_NoForm⟩, xo_NoForm_NoBack⟩) (ansX_nil)⟩
  have xa_NoForm : ∃ T : Addr, mg "NoForm" = some (.ref T) ∧ AnsX K ax_NoForm (.ref T) := ⟨c_NoForm, PySem.W.mg_of X G n_NoForm, ansX_cons (fun C hC => by rw [n_NoForm] at hC; cases hC; exact ⟨⟨x1_NoForm, x2_NoForm, x3_NoForm, x4_NoForm, xg, xt, x5_NoForm, x6_NoForm⟩, xo_NoForm_NoForm⟩) (ansX_nil)⟩
  have xa_NoName : ∃ T : Addr, mg "NoName" = some (.ref T) ∧ AnsX K ax_NoName (.ref T) := ⟨c_NoName, PySem.W.mg_of X G n_NoName, ansX_cons (fun C hC => by rw [n_NoForm] at hC; cases hC; exact ⟨⟨x1_NoForm, x2_NoForm, x3_NoForm, x4_NoForm, xg, xt, x5_NoForm, x6_NoForm⟩, xo_NoForm_NoName⟩) (ansX_nil)⟩
  have xa_NoRow : ∃ T : Addr, mg "NoRow" = some (.ref T) ∧ AnsX K ax_NoRow (.ref T) := ⟨c_NoRow, PySem.W.mg_of X G n_NoRow, ansX_cons (fun C hC => by rw [n_NoForm] at hC; cases hC; exact ⟨⟨x1_NoForm, x2_NoForm, x3_NoForm, x4_NoForm, xg, xt, x5_NoForm, x6_NoForm⟩, xo_NoForm_NoRow⟩) (ansX_nil)⟩
  have xa_NoText : ∃ T : Addr, mg "NoText" = some (.ref T) ∧ AnsX K ax_NoText (.ref T) := ⟨c_NoText, PySem.W.mg_of X G n_NoText, ansX_cons (fun C hC => by rw [n_NoForm] at hC; cases hC; exact ⟨⟨x1_NoForm, x2_NoForm, x3_NoForm, x4_NoForm, xg, xt, x5_NoForm, x6_NoForm⟩, xo_NoForm_NoText⟩) (ansX_nil)⟩
  have xa_TooGreat : ∃ T : Addr, mg "TooGreat" = some (.ref T) ∧ AnsX K ax_TooGreat (.ref T) := ⟨c_TooGreat, PySem.W.mg_of X G n_TooGreat, ansX_cons (fun C hC => by rw [n_NoForm] at hC; cases hC; exact ⟨⟨x1_NoForm, x2_NoForm, x3_NoForm, x4_NoForm, xg, xt, x5_NoForm, x6_NoForm⟩, xo_NoForm_TooGreat⟩) (ansX_nil)⟩
  have xa_TooMany : ∃ T : Addr, mg "TooMany" = some (.ref T) ∧ AnsX K ax_TooMany (.ref T) := ⟨c_TooMany, PySem.W.mg_of X G n_TooMany, ansX_cons (fun C hC => by rw [n_NoForm] at hC; cases hC; exact ⟨⟨x1_NoForm, x2_NoForm, x3_NoForm, x4_NoForm, xg, xt, x5_NoForm, x6_NoForm⟩, xo_NoForm_TooMany⟩) (ansX_nil)⟩
  have xa_ValueError : AnsX K ax_ValueError (.type "ValueError") := ansX_cons (fun C hC => by rw [n_NoForm] at hC; cases hC; exact ⟨⟨x1_NoForm, x2_NoForm, x3_NoForm, x4_NoForm, xg, xt, x5_NoForm, x6_NoForm⟩, xo_NoForm_ValueError⟩) (ansX_nil)
  have xr_NoForm : ∃ C : Addr, PySem.W.nsIn K mainGlobals "NoForm" = some (some (.ref C)) ∧ PySem.W.excIn K C bmV "ValueError.__new__" = true ∧ mg "NoForm" = some (.ref C) := ⟨c_NoForm, n_NoForm, xe_NoForm, PySem.W.mg_of X G n_NoForm⟩
  have T : Txt K mg := ⟨PySem.W.mg_none_of X G z_ValueError, PySem.W.mg_none_of X G z_abs, PySem.W.mg_none_of X G z_isinstance, PySem.W.mg_none_of X G z_max, PySem.W.mg_none_of X G z_min, PySem.W.mg_none_of X G z_reversed, PySem.W.mg_none_of X G z_sorted, PySem.W.mg_none_of X G z_tuple, ⟨_, .ref _, PySem.W.mg_of X G y_ONE_CELL, rfl, fun S => den_modT (xs := [.ref g_ONE_CELL_1]) v_ONE_CELL_0 rfl rfl (Nat.le_trans (show 1 ≤ 1000 by decide) (by rw [sizeLine_eq]; decide)) (.cons rfl (.nil)) (fun S => Dens.cons (den_modT (xs := [.int (0), .ref g_ONE_CELL_2]) v_ONE_CELL_1 rfl rfl (Nat.le_trans (show 2 ≤ 1000 by decide) (by rw [sizeLine_eq]; decide)) (.cons ⟨_, rfl⟩ (.cons rfl (.nil))) (fun S => Dens.cons (den_int.mpr rfl) (Dens.cons (den_modT (xs := [.ref g_ONE_CELL_3]) v_ONE_CELL_2 rfl rfl (Nat.le_trans (show 1 ≤ 1000 by decide) (by rw [sizeLine_eq]; decide)) (.cons rfl (.nil)) (fun S => Dens.cons (den_modT (xs := [.int (0), .int (0)]) v_ONE_CELL_3 rfl rfl (Nat.le_trans (show 2 ≤ 1000 by decide) (by rw [sizeLine_eq]; decide)) (.cons ⟨_, rfl⟩ (.cons ⟨_, rfl⟩ (.nil))) (fun S => Dens.cons (den_int.mpr rfl) (Dens.cons (den_int.mpr rfl) (Dens.nil))) S) (Dens.nil)) S) (Dens.nil))) S) (Dens.nil)) S⟩, cN, xc_ShapeError, xa_NoBack, xa_NoForm, xa_NoName, xa_NoRow, xa_NoText, xa_TooGreat, xa_TooMany, xa_ValueError, xr_NoForm⟩
  have F_row_of := fun_mk (st := s_row_of) l_row_of e_row_of k_row_of
  have b_row_of := (F_row_of).binds (ps := ["pairs"]) fun _ _ _ _ _ _ us hl => by obtain ⟨a0, rfl⟩ := us1 hl; rfl
  have m_row_of := PySem.W.mg_of X G a_row_of
  have F_row_moved := fun_mk (st := s_row_moved) l_row_moved e_row_moved k_row_moved
  have b_row_moved := (F_row_moved).binds (ps := ["row", "by"]) fun _ _ _ _ _ _ us hl => by obtain ⟨a0, a1, rfl⟩ := us2 hl; rfl
  have m_row_moved := PySem.W.mg_of X G a_row_moved
  have F_stretches_of := fun_mk (st := s_stretches_of) l_stretches_of e_stretches_of k_stretches_of
  have b_stretches_of := (F_stretches_of).binds (ps := ["picture"]) fun _ _ _ _ _ _ us hl => by obtain ⟨a0, rfl⟩ := us1 hl; rfl
  have m_stretches_of := PySem.W.mg_of X G a_stretches_of
  have F__law_many := fun_mk (st := s__law_many) l__law_many e__law_many k__law_many
  have b__law_many := (F__law_many).binds (ps := ["_law_cells"]) fun _ _ _ _ _ _ us hl => by obtain ⟨a0, rfl⟩ := us1 hl; rfl
  have m__law_many := PySem.W.mg_of X G a__law_many
  have F_Form___init__ := fun_mk (st := s_Form___init__) l_Form___init__ e_Form___init__ k_Form___init__
  have b_Form___init__ := (F_Form___init__).binds (ps := ["self", "parts"]) fun _ _ _ _ _ _ us hl => by obtain ⟨a0, a1, rfl⟩ := us2 hl; rfl
  have F_picture_of := fun_mk (st := s_picture_of) l_picture_of e_picture_of k_picture_of
  have b_picture_of := (F_picture_of).binds (ps := ["stretches"]) fun _ _ _ _ _ _ us hl => by obtain ⟨a0, rfl⟩ := us1 hl; rfl
  have m_picture_of := PySem.W.mg_of X G a_picture_of
  have F_moved := fun_mk (st := s_moved) l_moved e_moved k_moved
  have b_moved := (F_moved).binds (ps := ["picture", "dx", "dy"]) fun _ _ _ _ _ _ us hl => by obtain ⟨a0, a1, a2, rfl⟩ := us3 hl; rfl
  have m_moved := PySem.W.mg_of X G a_moved
  have F_blocks_of := fun_mk (st := s_blocks_of) l_blocks_of e_blocks_of k_blocks_of
  have b_blocks_of := (F_blocks_of).binds (ps := ["picture"]) fun _ _ _ _ _ _ us hl => by obtain ⟨a0, rfl⟩ := us1 hl; rfl
  have m_blocks_of := PySem.W.mg_of X G a_blocks_of
  have F_Box___init__ := fun_mk (st := s_Box___init__) l_Box___init__ e_Box___init__ k_Box___init__
  have b_Box___init__ := (F_Box___init__).binds (ps := ["self", "left", "up", "right", "down"]) fun _ _ _ _ _ _ us hl => by obtain ⟨a0, a1, a2, a3, a4, rfl⟩ := us5 hl; rfl
  have F_Cross___init__ := fun_mk (st := s_Cross___init__) l_Cross___init__ e_Cross___init__ k_Cross___init__
  have b_Cross___init__ := (F_Cross___init__).binds (ps := ["self", "arm"]) fun _ _ _ _ _ _ us hl => by obtain ⟨a0, a1, rfl⟩ := us2 hl; rfl
  have F_join := fun_mk (st := s_join) l_join e_join k_join
  have b_join := (F_join).binds (ps := ["one", "other"]) fun _ _ _ _ _ _ us hl => by obtain ⟨a0, a1, rfl⟩ := us2 hl; rfl
  have m_join := PySem.W.mg_of X G a_join
  have F_Shape___init__ := fun_mk (st := s_Shape___init__) l_Shape___init__ e_Shape___init__ k_Shape___init__
  have b_Shape___init__ := (F_Shape___init__).binds (ps := ["self", "picture"]) fun _ _ _ _ _ _ us hl => by obtain ⟨a0, a1, rfl⟩ := us2 hl; rfl
  have F_spread_down := fun_mk (st := s_spread_down) l_spread_down e_spread_down k_spread_down
  have b_spread_down := (F_spread_down).binds (ps := ["picture", "by"]) fun _ _ _ _ _ _ us hl => by obtain ⟨a0, a1, rfl⟩ := us2 hl; rfl
  have m_spread_down := PySem.W.mg_of X G a_spread_down
  have F__law_refused := fun_mk (st := s__law_refused) l__law_refused e__law_refused k__law_refused
  have b__law_refused := (F__law_refused).binds (ps := ["_law_way", "_law_sides"]) fun _ _ _ _ _ _ us hl => by obtain ⟨a0, a1, rfl⟩ := us2 hl; rfl
  have m__law_refused := PySem.W.mg_of X G a__law_refused
  have F_greater_by_block := fun_mk (st := s_greater_by_block) l_greater_by_block e_greater_by_block k_greater_by_block
  have b_greater_by_block := (F_greater_by_block).binds (ps := ["picture", "block"]) fun _ _ _ _ _ _ us hl => by obtain ⟨a0, a1, rfl⟩ := us2 hl; rfl
  have m_greater_by_block := PySem.W.mg_of X G a_greater_by_block
  have F__law_made := fun_mk (st := s__law_made) l__law_made e__law_made k__law_made
  have b__law_made := (F__law_made).binds (ps := ["_law_way", "_law_sides"]) fun _ _ _ _ _ _ us hl => by obtain ⟨a0, a1, rfl⟩ := us2 hl; rfl
  have m__law_made := PySem.W.mg_of X G a__law_made
  have F_greater_by_part := fun_mk (st := s_greater_by_part) l_greater_by_part e_greater_by_part k_greater_by_part
  have b_greater_by_part := (F_greater_by_part).binds (ps := ["picture", "blocks"]) fun _ _ _ _ _ _ us hl => by obtain ⟨a0, a1, rfl⟩ := us2 hl; rfl
  have m_greater_by_part := PySem.W.mg_of X G a_greater_by_part
  have F_Form_greater := fun_mk (st := s_Form_greater) l_Form_greater e_Form_greater k_Form_greater
  have b_Form_greater := (F_Form_greater).binds (ps := ["self", "picture"]) fun _ _ _ _ _ _ us hl => by obtain ⟨a0, a1, rfl⟩ := us2 hl; rfl
  have F_Form_cells := fun_mk (st := s_Form_cells) l_Form_cells e_Form_cells k_Form_cells
  have b_Form_cells := (F_Form_cells).binds (ps := ["self"]) fun _ _ _ _ _ _ us hl => by obtain ⟨a0, rfl⟩ := us1 hl; rfl
  have F__law_one := fun_mk (st := s__law_one) l__law_one e__law_one k__law_one
  have b__law_one := (F__law_one).binds (ps := ["_law_cell"]) fun _ _ _ _ _ _ us hl => by obtain ⟨a0, rfl⟩ := us1 hl; rfl
  have m__law_one := PySem.W.mg_of X G a__law_one
  have F_law := fun_mk (st := s_law) l_law e_law k_law
  have g_Box := PySem.W.mg_of X G n_Box
  have g_Cross := PySem.W.mg_of X G n_Cross
  have g_Shape := PySem.W.mg_of X G n_Shape
  have g_Form := PySem.W.mg_of X G n_Form
  have M_Box : Mk K c_Box f_Box___init__ := ⟨mk_Box, a_Box___init__, i_Box___init__, kc_Box⟩
  have M_Cross : Mk K c_Cross f_Cross___init__ := ⟨mk_Cross, a_Cross___init__, i_Cross___init__, kc_Cross⟩
  have M_Shape : Mk K c_Shape f_Shape___init__ := ⟨mk_Shape, a_Shape___init__, i_Shape___init__, kc_Shape⟩
  have cf_Form : ClsFn K c_Form "__init__" f_Form___init__ := ⟨bs_Form, br_Form, bf_Form, k_Form___init__⟩
  refine ⟨PySem.W.fnOf "law" "law" (defArgs s_law) (defBody s_law) (defScope s_law) .none kV_law dc_law pm_law an_law cd_law ct_law, fun s v => .of_eq rfl, fun base _ _ => ?_⟩
  have G_Form___init__ : FnOk l.prog w K mg base CX0 1 f_Form___init__ _ ["self", "parts"] (sp_Form___init__ K) := ok_Form___init__ F_Form___init__ T
  have GX_Box___init__ : FnOk l.prog w K mg base (CXe l.prog w) 1 f_Box___init__ _ ["self", "left", "up", "right", "down"] (spX_Box___init__ K) := okX_Box___init__ F_Box___init__ T
  have GX_Cross___init__ : FnOk l.prog w K mg base (CXe l.prog w) 1 f_Cross___init__ _ ["self", "arm"] (spX_Cross___init__ K) := okX_Cross___init__ F_Cross___init__ T
  have GX_Shape___init__ : FnOk l.prog w K mg base (CXe l.prog w) 1 f_Shape___init__ _ ["self", "picture"] (spX_Shape___init__ K) := okX_Shape___init__ F_Shape___init__ T
  have G__law_many : FnOk l.prog w K mg base CX0 1 f__law_many _ ["_law_cells"] (sp__law_many K) := ok__law_many F__law_many T
  have G_row_moved : FnOk l.prog w K mg base CX0 1 f_row_moved _ ["row", "by"] (sp_row_moved K) := ok_row_moved F_row_moved T
  have G_row_of : FnOk l.prog w K mg base CX0 1 f_row_of _ ["pairs"] (sp_row_of K) := ok_row_of F_row_of T
  have G_stretches_of : FnOk l.prog w K mg base CX0 1 f_stretches_of _ ["picture"] (sp_stretches_of K) := ok_stretches_of F_stretches_of T
  have G_Box___init__ : FnOk l.prog w K mg base CX0 2 f_Box___init__ _ ["self", "left", "up", "right", "down"] (sp_Box___init__ K) := ok_Box___init__ F_Box___init__ T G_Form___init__ b_Form___init__ cf_Form g_Form
  have G_Cross___init__ : FnOk l.prog w K mg base CX0 2 f_Cross___init__ _ ["self", "arm"] (sp_Cross___init__ K) := ok_Cross___init__ F_Cross___init__ T G_Form___init__ b_Form___init__ cf_Form g_Form
  have G_blocks_of : FnOk l.prog w K mg base CX0 2 f_blocks_of _ ["picture"] (sp_blocks_of K) := ok_blocks_of F_blocks_of T G_stretches_of m_stretches_of k_stretches_of b_stretches_of
  have G_moved : FnOk l.prog w K mg base CX0 2 f_moved _ ["picture", "dx", "dy"] (sp_moved K) := ok_moved F_moved T G_row_moved m_row_moved k_row_moved b_row_moved
  have G_picture_of : FnOk l.prog w K mg base CX0 2 f_picture_of _ ["stretches"] (sp_picture_of K) := ok_picture_of F_picture_of T G_row_of m_row_of k_row_of b_row_of
  have G_Shape___init__ : FnOk l.prog w K mg base CX0 3 f_Shape___init__ _ ["self", "picture"] (sp_Shape___init__ K) := ok_Shape___init__ F_Shape___init__ T G_blocks_of m_blocks_of k_blocks_of b_blocks_of G_Form___init__ b_Form___init__ cf_Form g_Form
  have GX__law_made : FnOk l.prog w K mg base (CXe l.prog w) 3 f__law_made _ ["_law_way", "_law_sides"] (spX__law_made K) := okX__law_made F__law_made T GX_Box___init__ b_Box___init__ n_Box M_Box g_Box GX_Cross___init__ b_Cross___init__ n_Cross M_Cross g_Cross GX_Shape___init__ b_Shape___init__ n_Shape M_Shape g_Shape
  have G_join : FnOk l.prog w K mg base CX0 3 f_join _ ["one", "other"] (sp_join K) := ok_join F_join T G_picture_of m_picture_of k_picture_of b_picture_of G_stretches_of m_stretches_of k_stretches_of b_stretches_of
  have G__law_refused : FnOk l.prog w K mg base CX0 4 f__law_refused _ ["_law_way", "_law_sides"] (sp__law_refused K) := ok__law_refused F__law_refused T GX__law_made m__law_made k__law_made b__law_made
  have G_spread_down : FnOk l.prog w K mg base CX0 4 f_spread_down _ ["picture", "by"] (sp_spread_down K) := ok_spread_down F_spread_down T G_join m_join k_join b_join G_moved m_moved k_moved b_moved
  have G__law_made : FnOk l.prog w K mg base CX0 5 f__law_made _ ["_law_way", "_law_sides"] (sp__law_made K) := ok__law_made F__law_made T G_Box___init__ b_Box___init__ n_Box M_Box g_Box G_Cross___init__ b_Cross___init__ n_Cross M_Cross g_Cross G_Shape___init__ b_Shape___init__ n_Shape M_Shape g_Shape
  have G_greater_by_block : FnOk l.prog w K mg base CX0 5 f_greater_by_block _ ["picture", "block"] (sp_greater_by_block K) := ok_greater_by_block F_greater_by_block T G_stretches_of m_stretches_of k_stretches_of b_stretches_of G_spread_down m_spread_down k_spread_down b_spread_down G_picture_of m_picture_of k_picture_of b_picture_of
  have G_greater_by_part : FnOk l.prog w K mg base CX0 6 f_greater_by_part _ ["picture", "blocks"] (sp_greater_by_part K) := ok_greater_by_part F_greater_by_part T G_greater_by_block m_greater_by_block k_greater_by_block b_greater_by_block G_picture_of m_picture_of k_picture_of b_picture_of
  have G_Form_greater : FnOk l.prog w K mg base CX0 7 f_Form_greater _ ["self", "picture"] (sp_Form_greater K) := ok_Form_greater F_Form_greater T G_greater_by_part m_greater_by_part k_greater_by_part b_greater_by_part
  have G_Form_cells : FnOk l.prog w K mg base CX0 8 f_Form_cells _ ["self"] (sp_Form_cells K) := ok_Form_cells F_Form_cells T G_Form_greater b_Form_greater cm_Form_greater
  have G__law_one : FnOk l.prog w K mg base CX0 9 f__law_one _ ["_law_cell"] (sp__law_one K) := ok__law_one F__law_one T G__law_refused m__law_refused k__law_refused b__law_refused G__law_many m__law_many k__law_many b__law_many G__law_made m__law_made k__law_made b__law_made G_Form_cells b_Form_cells cm_Form_cells
  exact ok_law F_law T G__law_one m__law_one k__law_one b__law_one
theorem walk {l : PySem.W.OpenLaw} {q : Program} {loose : List Str} {XP : (Str → Option Value) → Heap → Prop} {YP : World → Heap → Prop} {d : DefRec} {K : Params → PySem.W.Frag} (hn : l.most = some 63) (hdf : d.params.defaults = [])
    (hY : ∀ (w : World) (h : Heap), YP w h → (K w.params).In h)
    (F : ∀ (w : World) (mg : Str → Option Value) (fa : Addr) (h : Heap), (K w.params).In h → h.Ns mainGlobals mg → mg d.name = some (.ref fa) →
      ∃ fd : FuncData, (∀ (s : Shared) (u : Value), BindsTo s fd ⟨[u], []⟩ [("_law_script", u)]) ∧ ∀ base : Heap, (K w.params).In base → base.Ns mainGlobals mg → FnOk l.prog w (K w.params) mg base CX0 10 fa fd ["_law_script"] (sp_law (K w.params))) :
    PySem.W.WalkO q loose XP YP l.row.toRowW d [] (fun f vs => PySem.call f vs) :=
  L2.walk_of (n := 63) (k := 10) (x := "_law_script") (CX := fun _ => CX0) (sp := fun w => sp_law (K w.params)) hn (by decide) hdf ⟨rfl, by decide, by decide⟩ hY F (fun _ H a ns hl _ hS => M.sp_script hS (m_law_is ns hl)) fun _ _ _ _ _ z => z
end Lw
open PySem PySem.W PyProof.Rows
set_option maxRecDepth 100000 in
set_option maxHeartbeats 0 in
theorem PySem.Challenge.cw_shapethin_k36_no_forms_holds : PySem.Challenge.rw_shapethin_k36_no_forms.Holds := by
  w_on; o_law; k_head; (case hw => w_witness2)
  k_fill
  refine Lw.walk (l := PySem.Challenge.rw_shapethin_k36_no_forms) rfl rfl (fun w h Y => PySem.W.kIn_of Y) ?F
  case F =>
    intro w mg fa h KX G hmg
    refine' Lw.all_mk KX G hmg ?n_Box ?n_Cross ?n_Shape ?n_Form ?a_row_of ?l_row_of ?e_row_of ?k_row_of ?a_row_moved ?l_row_moved ?e_row_moved ?k_row_moved ?a_picture_of ?l_picture_of ?e_picture_of ?k_picture_of ?a_stretches_of ?l_stretches_of ?e_stretches_of ?k_stretches_of ?a_join ?l_join ?e_join ?k_join ?a_moved ?l_moved ?e_moved ?k_moved ?a_blocks_of ?l_blocks_of ?e_blocks_of ?k_blocks_of ?a_spread_down ?l_spread_down ?e_spread_down ?k_spread_down ?a_greater_by_block ?l_greater_by_block ?e_greater_by_block ?k_greater_by_block ?a_greater_by_part ?l_greater_by_part ?e_greater_by_part ?k_greater_by_part ?a__law_made ?l__law_made ?e__law_made ?k__law_made ?a__law_refused ?l__law_refused ?e__law_refused ?k__law_refused ?a__law_many ?l__law_many ?e__law_many ?k__law_many ?a__law_one ?l__law_one ?e__law_one ?k__law_one ?a_law ?l_law ?e_law ?k_law ?a_Form___init__ ?i_Form___init__ ?l_Form___init__ ?e_Form___init__ ?k_Form___init__ ?a_Form_cells ?i_Form_cells ?l_Form_cells ?e_Form_cells ?k_Form_cells ?a_Form_greater ?i_Form_greater ?l_Form_greater ?e_Form_greater ?k_Form_greater ?a_Box___init__ ?i_Box___init__ ?l_Box___init__ ?e_Box___init__ ?k_Box___init__ ?a_Cross___init__ ?i_Cross___init__ ?l_Cross___init__ ?e_Cross___init__ ?k_Cross___init__ ?a_Shape___init__ ?i_Shape___init__ ?l_Shape___init__ ?e_Shape___init__ ?k_Shape___init__ ?pg_Box ?hd_Box ?po_Box ?sa_Box ?mk_Box ?kc_Box ?np_Box ?mm_Box_cells ?mm_Box_greater ?pg_Cross ?hd_Cross ?po_Cross ?sa_Cross ?mk_Cross ?kc_Cross ?np_Cross ?mm_Cross_cells ?mm_Cross_greater ?pg_Shape ?hd_Shape ?po_Shape ?sa_Shape ?mk_Shape ?kc_Shape ?np_Shape ?mm_Shape_cells ?mm_Shape_greater ?n_NoBack ?n_NoForm ?n_NoName ?n_NoRow ?n_NoText ?n_ShapeError ?n_TooGreat ?n_TooMany ?xg ?xt ?x1_NoForm ?x2_NoForm ?x3_NoForm ?x4_NoForm ?x5_NoForm ?x6_NoForm ?xe_NoForm ?xo_NoForm_NoBack ?xo_NoForm_NoForm ?xo_NoForm_NoName ?xo_NoForm_NoRow ?xo_NoForm_NoText ?xo_NoForm_TooGreat ?xo_NoForm_TooMany ?xo_NoForm_ValueError ?xm_NoForm_ShapeError ?bs_Form ?br_Form ?bf_Form ?z_ValueError ?z_abs ?z_isinstance ?z_max ?z_min ?z_reversed ?z_sorted ?z_tuple ?y_ONE_CELL ?v_ONE_CELL_0 ?v_ONE_CELL_1 ?v_ONE_CELL_2 ?v_ONE_CELL_3
    (case n_Box => k_is)
    (case n_Cross => k_is)
    (case n_Shape => k_is)
    (case n_Form => k_is)
    (case a_row_of => k_is)
    (case l_row_of => k_is)
    (case e_row_of => k_is)
    (case k_row_of => k_is)
    (case a_row_moved => k_is)
    (case l_row_moved => k_is)
    (case e_row_moved => k_is)
    (case k_row_moved => k_is)
    (case a_picture_of => k_is)
    (case l_picture_of => k_is)
    (case e_picture_of => k_is)
    (case k_picture_of => k_is)
    (case a_stretches_of => k_is)
    (case l_stretches_of => k_is)
    (case e_stretches_of => k_is)
    (case k_stretches_of => k_is)
    (case a_join => k_is)
    (case l_join => k_is)
    (case e_join => k_is)
    (case k_join => k_is)
    (case a_moved => k_is)
    (case l_moved => k_is)
    (case e_moved => k_is)
    (case k_moved => k_is)
    (case a_blocks_of => k_is)
    (case l_blocks_of => k_is)
    (case e_blocks_of => k_is)
    (case k_blocks_of => k_is)
    (case a_spread_down => k_is)
    (case l_spread_down => k_is)
    (case e_spread_down => k_is)
    (case k_spread_down => k_is)
    (case a_greater_by_block => k_is)
    (case l_greater_by_block => k_is)
    (case e_greater_by_block => k_is)
    (case k_greater_by_block => k_is)
    (case a_greater_by_part => k_is)
    (case l_greater_by_part => k_is)
    (case e_greater_by_part => k_is)
    (case k_greater_by_part => k_is)
    (case a__law_made => k_is)
    (case l__law_made => k_is)
    (case e__law_made => k_is)
    (case k__law_made => k_is)
    (case a__law_refused => k_is)
    (case l__law_refused => k_is)
    (case e__law_refused => k_is)
    (case k__law_refused => k_is)
    (case a__law_many => k_is)
    (case l__law_many => k_is)
    (case e__law_many => k_is)
    (case k__law_many => k_is)
    (case a__law_one => k_is)
    (case l__law_one => k_is)
    (case e__law_one => k_is)
    (case k__law_one => k_is)
    (case a_law => k_is)
    (case l_law => k_is)
    (case e_law => k_is)
    (case k_law => k_is)
    (case a_Form___init__ => k_is)
    (case i_Form___init__ => k_is)
    (case l_Form___init__ => k_is)
    (case e_Form___init__ => k_is)
    (case k_Form___init__ => k_is)
    (case a_Form_cells => k_is)
    (case i_Form_cells => k_is)
    (case l_Form_cells => k_is)
    (case e_Form_cells => k_is)
    (case k_Form_cells => k_is)
    (case a_Form_greater => k_is)
    (case i_Form_greater => k_is)
    (case l_Form_greater => k_is)
    (case e_Form_greater => k_is)
    (case k_Form_greater => k_is)
    (case a_Box___init__ => k_is)
    (case i_Box___init__ => k_is)
    (case l_Box___init__ => k_is)
    (case e_Box___init__ => k_is)
    (case k_Box___init__ => k_is)
    (case a_Cross___init__ => k_is)
    (case i_Cross___init__ => k_is)
    (case l_Cross___init__ => k_is)
    (case e_Cross___init__ => k_is)
    (case k_Cross___init__ => k_is)
    (case a_Shape___init__ => k_is)
    (case i_Shape___init__ => k_is)
    (case l_Shape___init__ => k_is)
    (case e_Shape___init__ => k_is)
    (case k_Shape___init__ => k_is)
    (case pg_Box => k_is)
    (case hd_Box => k_is)
    (case po_Box => k_is)
    (case sa_Box => k_is)
    (case mk_Box => k_is)
    (case kc_Box => k_is)
    (case np_Box => k_is)
    (case mm_Box_cells => k_is)
    (case mm_Box_greater => k_is)
    (case pg_Cross => k_is)
    (case hd_Cross => k_is)
    (case po_Cross => k_is)
    (case sa_Cross => k_is)
    (case mk_Cross => k_is)
    (case kc_Cross => k_is)
    (case np_Cross => k_is)
    (case mm_Cross_cells => k_is)
    (case mm_Cross_greater => k_is)
    (case pg_Shape => k_is)
    (case hd_Shape => k_is)
    (case po_Shape => k_is)
    (case sa_Shape => k_is)
    (case mk_Shape => k_is)
    (case kc_Shape => k_is)
    (case np_Shape => k_is)
    (case mm_Shape_cells => k_is)
    (case mm_Shape_greater => k_is)
    (case n_NoBack => k_is)
    (case n_NoForm => k_is)
    (case n_NoName => k_is)
    (case n_NoRow => k_is)
    (case n_NoText => k_is)
    (case n_ShapeError => k_is)
    (case n_TooGreat => k_is)
    (case n_TooMany => k_is)
    (case xg => k_is)
    (case xt => k_is)
    (case x1_NoForm => k_is)
    (case x2_NoForm => k_is)
    (case x3_NoForm => k_is)
    (case x4_NoForm => k_is)
    (case x5_NoForm => k_is)
    (case x6_NoForm => k_is)
    (case xe_NoForm => k_exc)
    (case xo_NoForm_NoBack => kit_is)
    (case xo_NoForm_NoForm => kit_is)
    (case xo_NoForm_NoName => kit_is)
    (case xo_NoForm_NoRow => kit_is)
    (case xo_NoForm_NoText => kit_is)
    (case xo_NoForm_TooGreat => kit_is)
    (case xo_NoForm_TooMany => kit_is)
    (case xo_NoForm_ValueError => kit_is)
    (case xm_NoForm_ShapeError => kts_exm)
    (case bs_Form => k_is)
    (case br_Form => k_is)
    (case bf_Form => k_is)
    (case z_ValueError => k_is)
    (case z_abs => k_is)
    (case z_isinstance => k_is)
    (case z_max => k_is)
    (case z_min => k_is)
    (case z_reversed => k_is)
    (case z_sorted => k_is)
    (case z_tuple => k_is)
    (case y_ONE_CELL => k_is)
    (case v_ONE_CELL_0 => k_is)
    (case v_ONE_CELL_1 => k_is)
    (case v_ONE_CELL_2 => k_is)
    (case v_ONE_CELL_3 => k_is)

import PyProof.Rows.All
import Wide.All
import OpenK.AllK
import Wide.FinOn
import Lean
import PyProof.EqAt
import PyProof.EqKinds
import PyProof.TupleCall
import PySem.Challenge.RW_shapethin_k23_texts_of_no_picture
set_option genSizeOf false
set_option bootstrap.genMatcherCode false
set_option compiler.extract_closed false
set_option Elab.async false
set_option linter.all false
set_option maxRecDepth 100000
namespace L2
open PySem PySem.Spec PyProof.Rows
noncomputable abbrev Key := Sum Int Str
noncomputable def keyIs : Key → Value → Bool
  | .inl k, v => Value.isInt k v
  | .inr x, v => Value.isStrOf x v
noncomputable def keyH (w : World) : Key → Int
  | .inl k => hashInt k
  | .inr x => hashStr w x
theorem keyIs_shape : ∀ {k : Key} {v : Value}, keyIs k v = true → (∃ i t, k = Sum.inl i ∧ v = Value.int i t) ∨ (∃ x t, k = Sum.inr x ∧ v = Value.str x t)
  | .inl i, v, h => by
    obtain ⟨t, e⟩ := Value.isInt_shape (k := i) (v := v) h
    exact .inl ⟨i, t, rfl, e⟩
  | .inr x, v, h => by
    obtain ⟨t, e⟩ := Value.isStrOf_shape (x := x) (v := v) h
    exact .inr ⟨x, t, rfl, e⟩
theorem key_ll (a b : Int) : decide ((Sum.inl a : Key) = Sum.inl b) = (a == b) := by
  by_cases e : a = b
  · subst e; simp
  · have h : ¬ (Sum.inl a : Key) = Sum.inl b := fun q => e (Sum.inl.inj q)
    rw [decide_eq_false h]
    exact (beq_eq_false_iff_ne.mpr e).symm
theorem key_rr (a b : Str) : decide ((Sum.inr a : Key) = Sum.inr b) = decide (a = b) := by
  by_cases e : a = b
  · subst e; simp
  · have h : ¬ (Sum.inr a : Key) = Sum.inr b := fun q => e (Sum.inr.inj q)
    rw [decide_eq_false h, decide_eq_false e]
theorem key_lr (a : Int) (b : Str) : decide ((Sum.inl a : Key) = Sum.inr b) = false := decide_eq_false (fun q => nomatch q)
theorem key_rl (a : Str) (b : Int) : decide ((Sum.inr a : Key) = Sum.inl b) = false := decide_eq_false (fun q => nomatch q)
noncomputable def mixKind (prog : Program) (w : World) : PySem.KeyKind prog w Key where
  is := keyIs
  hash := keyH w
  inj := fun v a b ha hb => by
    rcases keyIs_shape ha with ⟨i, t, rfl, rfl⟩ | ⟨x, t, rfl, rfl⟩
    · rcases keyIs_shape hb with ⟨j, u, rfl, e⟩ | ⟨y, u, rfl, e⟩
      · injection e with e1 _; rw [e1]
      · exact nomatch e
    · rcases keyIs_shape hb with ⟨j, u, rfl, e⟩ | ⟨y, u, rfl, e⟩
      · exact nomatch e
      · injection e with e1 _; rw [e1]
  byValue := fun k v h => by
    rcases keyIs_shape h with ⟨i, t, rfl, rfl⟩ | ⟨x, t, rfl, rfl⟩ <;> rfl
  pyHash := fun hv h => by
    rcases keyIs_shape hv with ⟨i, t, rfl, rfl⟩ | ⟨x, t, rfl, rfl⟩
    · exact wpAny_pyHash_int h
    · exact wpAny_pyHash_str h
  eqBool := fun hu hv h => by
    rcases keyIs_shape hu with ⟨i, t, rfl, rfl⟩ | ⟨x, t, rfl, rfl⟩
    · rcases keyIs_shape hv with ⟨j, u, rfl, rfl⟩ | ⟨y, u, rfl, rfl⟩
      · rw [key_ll] at h; exact wpAny_eqBool_int h
      · rw [key_lr] at h; exact SeqAt.EqAt.int_str i t y u _ _ _ _ h
    · rcases keyIs_shape hv with ⟨j, u, rfl, rfl⟩ | ⟨y, u, rfl, rfl⟩
      · rw [key_rl] at h; exact SeqAt.EqAt.str_int x t j u _ _ _ _ h
      · rw [key_rr] at h; exact wpAny_eqBool_str h
  «strs» := fun k x t v h => by
    rcases keyIs_shape h with ⟨i, u, rfl, e⟩ | ⟨y, u, rfl, e⟩
    · exact nomatch e
    · injection e with e1 _
      subst e1
      cases v <;> rfl
end L2
namespace L2
open PySem PySem.Spec PyProof.Rows
inductive V where
  | non | bl (b : Bool) | int (i : Int) | str (x : Str) | byt (b : Array UInt8) | flt (b : UInt64) | ref (a : Addr) | ty (n : String)
  deriving DecidableEq
noncomputable def RelV : V → Value → Prop
  | .non, u => u = Value.none
  | .bl b, u => u = Value.bool b
  | .int i, u => ∃ t, u = Value.int i t
  | .str x, u => ∃ t, u = Value.str x t
  | .byt b, u => ∃ t, u = Value.bytes b t
  | .flt b, u => ∃ t, u = Value.float b t
  | .ref a, u => u = Value.ref a
  | .ty n, u => u = Value.type n
noncomputable abbrev Vals : List V → List Value → Prop := Paired RelV
theorem Vals.length {xs : List V} {us : List Value} (r : Vals xs us) : xs.length = us.length := Paired.length r
theorem Vals.get : ∀ {xs : List V} {us : List Value} {i : Nat} {x : V}, Vals xs us → xs[i]? = some x → ∃ u, us[i]? = some u ∧ RelV x u
  | _, _, _, _, .nil, e => by simp at e
  | _, _, 0, _, .cons r _, e => by simp at e; subst e; exact ⟨_, rfl, r⟩
  | _, _, i + 1, x, .cons _ t, e => by
    obtain ⟨u, h1, h2⟩ := Vals.get (i := i) (x := x) t (by simpa using e)
    exact ⟨u, by simpa using h1, h2⟩
theorem Vals.set {x : V} {u : Value} (r : RelV x u) : ∀ {xs : List V} {us : List Value} (i : Nat), Vals xs us → Vals (xs.set i x) (us.set i u)
  | _, _, _, .nil => .nil
  | _, _, 0, .cons _ t => .cons r t
  | _, _, i + 1, .cons q t => .cons q (Vals.set r i t)
theorem Vals.append : ∀ {xs ys : List V} {us ws : List Value}, Vals xs us → Vals ys ws → Vals (xs ++ ys) (us ++ ws)
  | _, _, _, _, .nil, s => s
  | _, _, _, _, .cons r t, s => .cons r (Vals.append t s)
theorem Vals.take : ∀ {xs : List V} {us : List Value} (n : Nat), Vals xs us → Vals (xs.take n) (us.take n)
  | _, _, 0, _ => .nil
  | _, _, _ + 1, .nil => .nil
  | _, _, n + 1, .cons r t => .cons r (Vals.take n t)
noncomputable def RelO : Option V → Option Value → Prop
  | some v, some u => RelV v u
  | none, none => True
  | _, _ => False
noncomputable def KV {κ : Type} : List (κ × V) → List (κ × Value) → Prop := Paired fun (p : κ × V) (q : κ × Value) => p.1 = q.1 ∧ RelV p.2 q.2
noncomputable def kV : Key → V
  | .inl i => .int i
  | .inr x => .str x
inductive HO where
    | lst (xs : List V)
    | tup (xs : List V)
    | dK (kvs : List (Key × V)) | dT (kvs : List (List Key × V))
    | set (S : Int → Bool) (n : Nat)
    | ins (C dx : Addr) (fs : List (Str × V))
    | own (x : Addr)
    | xd (fs : List (Str × V))
    | met (f x : Addr)
    | rng (lo hi : Int)
    | frz (o : Obj) (u : HO)
    | tbl (ps : Array Value)
    | ext (φ : Heap → Prop)
noncomputable abbrev Hp := Addr → Option HO
noncomputable def upd (H : Hp) (a : Addr) (o : HO) : Hp := fun b => if b = a then some o else H b
theorem upd_same {H : Hp} {a : Addr} {o : HO} : upd H a o a = some o := by unfold upd; rw [if_pos rfl]
theorem upd_ne {H : Hp} {a b : Addr} {o : HO} (h : b ≠ a) : upd H a o b = H b := by unfold upd; rw [if_neg h]
theorem ne_of_none {H : Hp} {a b : Addr} {o : HO} (h : H a = some o) (h' : H b = none) : a ≠ b := by
  intro e; subst e; rw [h] at h'; cases h'
section
variable (P : Program) (w : World)
noncomputable def ObjOk (H : Hp) (h : Heap) (a : Addr) : HO → Prop
  | .lst xs => xs.length ≤ sizeLine ∧ ∃ (its : List Value) (n : Nat), Vals xs its ∧ h.get? a = some { cls := .type "list", data := .seq its.toArray n }
  | .tup xs => xs.length ≤ sizeLine ∧ ∃ its : List Value, Vals xs its ∧ IsTup h a its.toArray
  | .dK kvs => kvs.length ≤ sizeLine ∧ (a == sysModules) = false ∧ ∃ vs, KV kvs vs ∧ h.DictOf (mixKind P w) a vs
  | .dT kvs => kvs.length ≤ sizeLine ∧ (a == sysModules) = false ∧ ∃ xs : List (List Key × Addr × Value),
      Paired (fun (p : List Key × V) (q : List Key × Addr × Value) => p.1 = q.1 ∧ H q.2.1 = some (.tup (p.1.map kV)) ∧ RelV p.2 q.2.2) kvs xs ∧
      ∃ o es ep, h.get? a = some o ∧ o.ExactDict ∧ o.data = .dict es ep ∧ es.toList = xs.map (entryOfKey (tupleKind (mixKind P w))) ∧ (xs.map (·.1)).Nodup
  | .set S n => h.SetOf (intKind P w) a S n
  | .ins C dx fs => H dx = some (.own a) ∧ fs.length ≤ 1000 ∧ dx ≠ a ∧ h.get? a = some (PySem.W.instObj C dx) ∧
      ∃ mA, h.Ns1 dx mA ∧ (∀ f, RelO (fs.lookup f) (mA f)) ∧ PySem.Within mA (fs.map (·.1))
  | .own _ => ∃ o, h.get? a = some o
  | .xd fs => ∃ mA, h.Ns1 a mA ∧ ∀ f, RelO (fs.lookup f) (mA f)
  | .rng lo hi => ∃ t u v, h.get? a = some { cls := .type "range", data := .fields #[.int lo t, .int hi u, .int 1 v] }
  | .frz o u => h.get? a = some o ∧ ObjOk H h a u
  | .tbl ps => h.get? a = some { cls := .none, data := .fields ps }
  | .met f x => h.get? a = some (PySem.W.methodObj (.ref f) (.ref x))
  | .ext φ => φ h ∧ (∃ o, h.get? a = some o) ∧ ∀ h1 h2 : Heap, φ h1 → (∀ o, h1.get? a = some o → h2.get? a = some o) → φ h2
noncomputable def HOk (H : Hp) (h : Heap) : Prop := ∀ a o, H a = some o → ObjOk P w H h a o
end
section
variable {P : Program} {w : World} {H H' : Hp} {h h' : Heap} {a : Addr} {o : HO}
theorem ObjOk.lt (x : ObjOk P w H h a o) : a < h.objs.size := by
  cases o with
  | lst xs => obtain ⟨_, _, _, _, e⟩ := x; exact Heap.lt_size e
  | tup xs => obtain ⟨_, _, _, p⟩ := x; exact p.lt
  | dK kvs => obtain ⟨_, _, _, _, o, _, _, e, _⟩ := x; exact Heap.lt_size e
  | dT kvs => obtain ⟨_, _, _, _, o, _, _, e, _⟩ := x; exact Heap.lt_size e
  | set S n => obtain ⟨o, _, _, _, e, _⟩ := x; exact Heap.lt_size e
  | ins C dx fs => obtain ⟨_, _, _, e, _⟩ := x; exact Heap.lt_size e
  | own y => obtain ⟨_, e⟩ := x; exact Heap.lt_size e
  | xd fs => obtain ⟨_, ⟨_, _, _, e, _⟩, _⟩ := x; exact Heap.lt_size e
  | rng lo hi => obtain ⟨_, _, _, e⟩ := x; exact Heap.lt_size e
  | frz ob u => obtain ⟨e, _⟩ := x; exact Heap.lt_size e
  | tbl ps => exact Heap.lt_size (show h.get? a = some _ from x)
  | met f y => exact Heap.lt_size (show h.get? a = some _ from x)
  | ext φ => obtain ⟨_, ⟨_, e⟩, _⟩ := x; exact Heap.lt_size e
theorem Paired.mapP {α β : Type} {F G : α → β → Prop} : ∀ {l₁ : List α} {l₂ : List β}, Paired F l₁ l₂ → (∀ a b, F a b → G a b) → Paired G l₁ l₂
  | _, _, .nil, _ => .nil
  | _, _, .cons r t, f => .cons (f _ _ r) (Paired.mapP t f)
theorem ObjOk.stay (x : ObjOk P w H h a o) (k : ∀ b u, (b = a ∨ H b = some (.own a)) → h.get? b = some u → h'.get? b = some u)
    (ho : ∀ b, H b = some (.own a) → H' b = some (.own a)) (ht : ∀ b xs, H b = some (.tup xs) → H' b = some (.tup xs)) : ObjOk P w H' h' a o := by
  induction o with
  | lst xs => obtain ⟨z, its, n, r, e⟩ := x; exact ⟨z, its, n, r, k _ _ (.inl rfl) e⟩
  | tup xs => obtain ⟨z, its, r, ob, e, c⟩ := x; exact ⟨z, its, r, ob, k _ _ (.inl rfl) e, c⟩
  | dK kvs => obtain ⟨z, y, vs, r, ob, es, ep, e, c⟩ := x; exact ⟨z, y, vs, r, ob, es, ep, k _ _ (.inl rfl) e, c⟩
  | dT kvs =>
    obtain ⟨z, y, xs, r, ob, es, ep, e, c⟩ := x
    exact ⟨z, y, xs, Paired.mapP r fun p q z => ⟨z.1, ht _ _ z.2.1, z.2.2⟩, ob, es, ep, k _ _ (.inl rfl) e, c⟩
  | set S n => obtain ⟨ob, es, ep, t, e, c⟩ := x; exact ⟨ob, es, ep, t, k _ _ (.inl rfl) e, c⟩
  | ins C dx fs =>
    obtain ⟨d, z, ne, e, mA, ⟨od, es, ep, e2, c⟩, r⟩ := x
    exact ⟨ho _ d, z, ne, k _ _ (.inl rfl) e, mA, ⟨od, es, ep, k _ _ (.inr d) e2, c⟩, r⟩
  | own y => obtain ⟨ob, e⟩ := x; exact ⟨ob, k _ _ (.inl rfl) e⟩
  | xd fs => obtain ⟨mA, ⟨od, es, ep, e, c⟩, r⟩ := x; exact ⟨mA, ⟨od, es, ep, k _ _ (.inl rfl) e, c⟩, r⟩
  | rng lo hi => obtain ⟨t, u, v, e⟩ := x; exact ⟨t, u, v, k _ _ (.inl rfl) e⟩
  | frz ob u ih => obtain ⟨e, q⟩ := x; exact ⟨k _ _ (.inl rfl) e, ih q⟩
  | tbl ps =>
    have e : h.get? a = some { cls := .none, data := .fields ps } := x
    show h'.get? a = some { cls := .none, data := .fields ps }
    exact k a _ (.inl rfl) e
  | met f y =>
    have e : h.get? a = some (PySem.W.methodObj (.ref f) (.ref y)) := x
    show h'.get? a = some (PySem.W.methodObj (.ref f) (.ref y))
    exact k a _ (.inl rfl) e
  | ext φ => obtain ⟨p, ⟨o, e⟩, st⟩ := x; exact ⟨st _ _ p fun o q => k _ _ (.inl rfl) q, ⟨o, k _ _ (.inl rfl) e⟩, st⟩
theorem HOk.lt (x : HOk P w H h) (e : H a = some o) : a < h.objs.size := (x a o e).lt
theorem HOk.fresh (x : HOk P w H h) (e : h.objs.size ≤ a) : H a = none := by
  cases q : H a with
  | none => rfl
  | some u => exact absurd (Nat.lt_of_lt_of_le (x.lt q) e) (Nat.lt_irrefl _)
theorem HOk.kept (x : HOk P w H h) (k : ∀ b u, h.get? b = some u → h'.get? b = some u) : HOk P w H h' := fun a o e =>
  (x a o e).stay (fun b u _ q => k b u q) (fun _ q => q) fun _ _ q => q
theorem HOk.laid (x : HOk P w H h) (k : ∀ b u, h.get? b = some u → h'.get? b = some u) (hp : h.objs.size ≤ a) (new : ObjOk P w (upd H a o) h' a o) : HOk P w (upd H a o) h' := fun b u e => by
  have hn := x.fresh hp
  by_cases hb : b = a
  · subst hb; rw [upd_same] at e; cases e; exact new
  · rw [upd_ne hb] at e
    exact (x b u e).stay (fun c v _ q => k c v q) (fun c q => by rw [upd_ne (ne_of_none q hn)]; exact q) fun c xs q => by rw [upd_ne (ne_of_none q hn)]; exact q
end
noncomputable def Rd (H : Hp) (a : Addr) (u : HO) : Prop := H a = some u ∨ ∃ o, H a = some (.frz o u)
theorem Rd.ok {P : Program} {w : World} {H : Hp} {h : Heap} {a : Addr} {u : HO} (r : Rd H a u) (x : HOk P w H h) : ObjOk P w H h a u := by
  rcases r with r | ⟨o, r⟩
  · exact x a u r
  · obtain ⟨_, q⟩ := x a _ r
    exact q
noncomputable def Mut : Option HO → Prop
  | some (.lst _) => True
  | some (.dK _) => True
  | some (.dT _) => True
  | some (.set _ _) => True
  | some (.ins _ _ _) => True
  | some (.ext _) => True
  | _ => False
section
variable {P : Program} {w : World} {H : Hp} {h h' : Heap} {x e : Addr} {o' : HO}
theorem HOk.write (ok : HOk P w H h) (mu : Mut (H x)) (he : e = x ∨ H e = some (.own x)) (k : ∀ b u, b ≠ e → h.get? b = some u → h'.get? b = some u) (heo : ∃ u, h'.get? e = some u)
    (new : ObjOk P w (upd H x o') h' x o') : HOk P w (upd H x o') h' := fun b u q => by
  have nown : ∀ c y, H c = some (.own y) → c ≠ x := fun c y r z => by subst z; rw [r] at mu; exact mu
  have ntup : ∀ c xs, H c = some (.tup xs) → c ≠ x := fun c xs r z => by subst z; rw [r] at mu; exact mu
  by_cases hb : b = x
  · subst hb; rw [upd_same] at q; cases q; exact new
  · rw [upd_ne hb] at q
    by_cases hbe : b = e
    · have q' : H b = some (.own x) := by
        rcases he with z | z
        · exact absurd (hbe.trans z) hb
        · rw [hbe]; exact z
      rw [q] at q'; cases q'
      obtain ⟨v, hv⟩ := heo
      exact ⟨v, by rw [hbe]; exact hv⟩
    · refine (ok b u q).stay (fun c v hc r => k c v ?_ r) (fun c r => by rw [upd_ne (nown c b r)]; exact r) fun c xs r => by rw [upd_ne (ntup c xs r)]; exact r
      rcases hc with rfl | hc
      · exact hbe
      · rintro rfl
        rcases he with z | z
        · exact nown c b hc z
        · rw [hc] at z; cases z; exact hb rfl
end
structure Un (fs ex : List Addr) (H H' : Hp) (h h' : Heap) : Prop where
  keep : ∀ b o, h.get? b = some o → H b = none → b ∉ fs → b ∉ ex → h'.get? b = some o
  slot : ∀ b o, h.get? b = some o → H b = none → b ∈ fs → b ∉ ex → ∃ sl, h'.get? b = some { o with slots := sl }
  free : ∀ b o, h.get? b = some o → H b = none → b ∉ ex → H' b = none
  there : ∀ b o, h.get? b = some o → b ∉ ex → ∃ o', h'.get? b = some o'
  tups : ∀ b xs, H b = some (.tup xs) → H' b = some (.tup xs)
  frzs : ∀ b o u, H b = some (.frz o u) → H' b = some (.frz o u)
  tbls : ∀ b ps, H b = some (.tbl ps) → ∃ more, H' b = some (.tbl (ps ++ more))
section
variable {fs fs' ex ex' : List Addr} {H H1 H2 : Hp} {h h1 h2 h' : Heap} {a x e : Addr} {o : HO}
theorem Un.any (u : Un fs ex H H1 h h1) {b : Addr} {ob : Obj} (q : h.get? b = some ob) (n : H b = none) (hx : b ∉ ex) : ∃ sl, h1.get? b = some { ob with slots := sl } := by
  by_cases hb : b ∈ fs
  · exact u.slot b ob q n hb hx
  · exact ⟨ob.slots, u.keep b ob q n hb hx⟩
theorem Un.kept (k : ∀ b u, h.get? b = some u → h'.get? b = some u) : Un fs ex H H h h' :=
  ⟨fun b ob q _ _ _ => k b ob q, fun b ob q _ _ _ => ⟨ob.slots, k b ob q⟩, fun _ _ _ n _ => n, fun b ob q _ => ⟨ob, k b ob q⟩, fun _ _ q => q, fun _ _ _ q => q, fun _ ps q => ⟨#[], by rw [q]; simp⟩⟩
theorem Un.refl : Un fs ex H H h h := Un.kept fun _ _ q => q
theorem Un.laid (k : ∀ b u, h.get? b = some u → h'.get? b = some u) (hp : h.objs.size ≤ a) (hn : H a = none) : Un fs ex H (upd H a o) h h' where
  keep := fun b u q _ _ _ => k b u q
  slot := fun b u q _ _ _ => ⟨u.slots, k b u q⟩
  free := fun b u q n _ => by rw [upd_ne (Nat.ne_of_lt (Nat.lt_of_lt_of_le (Heap.lt_size q) hp))]; exact n
  there := fun b u q _ => ⟨u, k b u q⟩
  tups := fun b xs q => by rw [upd_ne (ne_of_none q hn)]; exact q
  frzs := fun b u xs q => by rw [upd_ne (ne_of_none q hn)]; exact q
  tbls := fun b ps q => ⟨#[], by rw [upd_ne (ne_of_none q hn), q]; simp⟩
theorem Un.write (mu : Mut (H x)) (he : e = x ∨ H e = some (.own x)) (k : ∀ b u, b ≠ e → h.get? b = some u → h'.get? b = some u) (heo : ∃ u, h'.get? e = some u) : Un fs ex H (upd H x o) h h' := by
  have hx : ∀ b, H b = none → b ≠ x := fun b n z => by subst z; rw [n] at mu; exact mu
  have hb : ∀ b, H b = none → b ≠ e := fun b n z => by
    subst z
    rcases he with r | r
    · exact hx b n r
    · rw [n] at r; cases r
  have hm : ∀ b u, H b = some u → ¬ Mut (some u) → b ≠ x := fun b u q nm z => by subst z; rw [q] at mu; exact nm mu
  refine ⟨fun b u q n _ _ => k b u (hb b n) q, fun b u q n _ _ => ⟨u.slots, k b u (hb b n) q⟩, fun b u q n _ => by rw [upd_ne (hx b n)]; exact n, fun b u q _ => ?_,
    fun b xs q => by rw [upd_ne (hm b _ q fun z => z)]; exact q, fun b u xs q => by rw [upd_ne (hm b _ q fun z => z)]; exact q, fun b ps q => ⟨#[], by rw [upd_ne (hm b _ q fun z => z), q]; simp⟩⟩
  by_cases hbe : b = e
  · subst hbe; exact heo
  · exact ⟨u, k b u hbe q⟩
end
noncomputable def trk (h : Heap) (H : Hp) : List Addr := (List.range h.objs.size).filter fun a => (H a).isSome
noncomputable def hidT (h : Heap) (H : Hp) : Heap := PySem.W.hideAll h (trk h H)
theorem hidT_size (h : Heap) (H : Hp) : (hidT h H).objs.size = h.objs.size := PySem.W.hideAll_size _ _
theorem hidT_get {h : Heap} {H : Hp} {b : Addr} {o : Obj} (e : h.get? b = some o) (n : H b = none) : (hidT h H).get? b = some o :=
  PySem.W.hideAll_get _ e fun hm => by
    have q : (H b).isSome = true := (List.mem_filter.mp hm).2
    rw [n] at q; simp at q
theorem of_hidT {h : Heap} {H : Hp} {b : Addr} {o : Obj} (e : (hidT h H).get? b = some o) : h.get? b = some o ∧ H b = none := by
  have e' : h.get? b = some o := PySem.W.of_hideAll (trk h H) e
  refine ⟨e', ?_⟩
  cases q : H b with
  | none => rfl
  | some x =>
    have hm : b ∈ trk h H := List.mem_filter.mpr ⟨List.mem_range.mpr (Heap.lt_size e'), by simp [q]⟩
    have z : (hidT h H).get? b = none := PySem.W.hideAll_none (trk h H) hm
    rw [z] at e; cases e
noncomputable def allNews (g h : Heap) (L : Addr) : List (Addr × Obj) := (List.range h.objs.size).filterMap fun a => if a = L ∨ (g.get? a).isSome = true then none else (h.get? a).map fun o => (a, o)
noncomputable def rest (g h : Heap) (L d : Addr) : List (Addr × Obj) := (allNews g h L).filter fun p => decide (p.1 ≠ d)
end L2
namespace L2
open PySem PySem.Spec PyProof.Rows
structure Mod (K : PySem.W.Frag) (mg : Str → Option Value) (base : Heap) : Prop where
  kin : K.In base
  glob : base.Ns mainGlobals mg
  blt : ∃ mb, base.Ns builtinsNs mb ∧ ∀ x : Str, x ≠ "__name__" → mb x = bootBuiltins x
  nolimit : base.NoLimit
structure Cx where
  prog : Program
  w : World
  K : PySem.W.Frag
  mg : Str → Option Value
  base : Heap
  A : Around
  N : List Str
  s₀ : Shared
  H₀ : Hp
  env : Env
  outer : List Env
  stack : List Env
  ex : List Addr
  fn : Str → Bool
  calm : Bool
  pn : List (Addr × Obj)
  xe : Value → Shared → Prop
noncomputable def frs (l : List Env) : List Addr := l.filterMap (·.frame)
noncomputable abbrev Cx.fs (X : Cx) : List Addr := frs X.outer
noncomputable def Vis (sc : Scope) (x : Str) : Prop := sc.names.lookup x = some .local ∨ sc.names.lookup x = some .cell ∨ sc.names.lookup x = some .free
noncomputable def Loc (sc : Scope) (x : Str) : Prop := sc.names.lookup x = some .local ∨ sc.names.lookup x = some .cell
noncomputable def Look (env : Env) (h : Heap) (m : Str → Option Value) (x : Str) (u : Value) : Prop :=
  (env.kindOf x = some .local ∧ m x = some u) ∨ ((env.kindOf x = some .cell ∨ env.kindOf x = some .free) ∧ ∃ c, env.cells.lookup x = some c ∧ h.IsCell c (some u))
structure Cx.Ok (X : Cx) : Prop where
  mod : Mod X.K X.mg X.base
  kind : X.env.scope.kind = .function
  glob : X.env.globals = mainGlobals
  blt : X.env.builtins = builtinsNs
  above : X.s₀.heap.objs.size ≤ X.env.locals
  inj : ∀ x y c, X.env.cells.lookup x = some c → X.env.cells.lookup y = some c → x = y
  has : ∀ x, (X.env.kindOf x = some .cell ∨ X.env.kindOf x = some .free) → ∃ c, X.env.cells.lookup x = some c
  cab : ∀ x c, X.fn x = true → X.env.cells.lookup x = some c → X.s₀.heap.objs.size ≤ c
  hd : X.calm = true → X.A.handled = none
  frames : X.A.frames = some X.stack
  stk : X.stack = X.outer ∨ (X.stack = X.env :: X.outer ∧ X.env.frame = some X.env.locals)
  exf : ∀ b ∈ X.ex, b ≠ X.env.locals ∧ ∀ x c, X.env.cells.lookup x = some c → c ≠ b
  bs : ∀ b o, X.base.get? b = some o → X.s₀.heap.get? b = some o ∧ X.H₀ b = none
  bsz : X.base.objs.size ≤ X.s₀.heap.objs.size
  noex : ∀ b o, X.base.get? b = some o → b ∉ X.ex
  exfs : ∀ b ∈ X.ex, b ∉ X.fs
  funs : X.s₀.heap.FunFrames X.base X.outer
  frf : ∀ b ∈ X.fs, X.H₀ b = none
structure Inv (X : Cx) (pins : List (Addr × Obj)) (σ : List (Option V)) (H : Hp) (s : Shared) : Prop where
  ok : X.Ok
  os : s.os = X.s₀.os
  bare : AllBare s.gens
  base : Un X.fs X.ex X.H₀ H X.s₀.heap s.heap
  loc : ∃ m, s.heap.Ns X.env.locals m ∧ ∀ (i : Nat) (x : Str) (v : V), X.N[i]? = some x → σ[i]? = some (some v) → Vis X.env.scope x → ∃ u, RelV v u ∧ Look X.env s.heap m x u
  cell : ∀ x c, X.env.cells.lookup x = some c → ∃ v, s.heap.IsCell c v
  free : H X.env.locals = none
  freeC : ∀ x c, X.env.cells.lookup x = some c → H c = none
  pin : ∀ p ∈ X.pn ++ pins, s.heap.get? p.1 = some p.2 ∧ H p.1 = none ∧ p.1 ≠ X.env.locals ∧ p.1 ∉ X.fs ∧ ∀ v, p.2.data ≠ .cell v
  hok : HOk X.prog X.w H s.heap
  len : σ.length = X.N.length
section
variable {X : Cx} {pins : List (Addr × Obj)} {σ : List (Option V)} {H H' : Hp} {s : Shared} {h' : Heap}
theorem Cx.Ok.nofr (ok : X.Ok) {b : Addr} {o : Obj} (e : X.base.get? b = some o) : b ∉ X.fs := fun hb => by
  have := (ok.funs.mem hb).1
  rw [e] at this; cases this
theorem Inv.bs (I : Inv X pins σ H s) : ∀ b o, X.base.get? b = some o → s.heap.get? b = some o ∧ H b = none := fun b o e =>
  ⟨I.base.keep b o (I.ok.bs b o e).1 (I.ok.bs b o e).2 (I.ok.nofr e) (I.ok.noex b o e), I.base.free b o (I.ok.bs b o e).1 (I.ok.bs b o e).2 (I.ok.noex b o e)⟩
theorem Inv.bk (I : Inv X pins σ H s) : ∀ b o, X.base.get? b = some o → s.heap.get? b = some o := fun b o e => (I.bs b o e).1
theorem Inv.mod (I : Inv X pins σ H s) : Mod X.K X.mg X.base := I.ok.mod
theorem Inv.kIn (I : Inv X pins σ H s) : X.K.In s.heap := I.ok.mod.kin.keeps I.bk
theorem Inv.fr (I : Inv X pins σ H s) : ∃ m, Fr X.base X.env.locals s.heap m :=
  let ⟨m, hn, _⟩ := I.loc
  ⟨m, hn, I.bk, Nat.le_trans I.ok.bsz I.ok.above⟩
theorem Inv.lt (I : Inv X pins σ H s) : X.env.locals < s.heap.objs.size := let ⟨_, hn, _⟩ := I.loc; hn.lt
theorem Inv.sz (I : Inv X pins σ H s) : X.s₀.heap.objs.size ≤ s.heap.objs.size := Nat.le_trans I.ok.above (Nat.le_of_lt I.lt)
theorem Inv.nofs (I : Inv X pins σ H s) {a : Addr} (h : s.heap.objs.size ≤ a) : a ∉ X.fs := fun hb => by
  obtain ⟨_, o, ho, _⟩ := I.ok.funs.mem hb
  exact absurd (Nat.lt_of_lt_of_le (Heap.lt_size ho) (Nat.le_trans I.sz h)) (Nat.lt_irrefl _)
theorem Inv.cne (I : Inv X pins σ H s) : ∀ x c, X.env.cells.lookup x = some c → c ≠ X.env.locals := fun x c e z => by
  obtain ⟨v, o, ho, hd⟩ := I.cell x c e
  obtain ⟨m, ⟨o', es, ep, ho', hd', _⟩, _⟩ := I.loc
  rw [z, ho'] at ho; cases ho; rw [hd'] at hd; cases hd
theorem Inv.funs (I : Inv X pins σ H s) : s.heap.FunFrames X.base X.outer := by
  have all : ∀ (l : List Env), (∀ b ∈ frs l, b ∈ X.fs) → X.s₀.heap.FunFrames X.base l → s.heap.FunFrames X.base l := by
    intro l
    induction l with
    | nil => intro _ _; trivial
    | cons env r ih =>
      intro hs hl
      obtain ⟨hk, ⟨L, o, hf, hn, ho, hd⟩, hr⟩ := hl
      have hL : L ∈ X.fs := hs L (by unfold frs; rw [List.filterMap_cons, hf]; exact List.mem_cons_self)
      obtain ⟨sl, e⟩ := I.base.slot L o ho (I.ok.frf L hL) hL fun z => I.ok.exfs L z hL
      exact ⟨hk, ⟨L, _, hf, hn, e, hd⟩, ih (fun b hb => hs b (by unfold frs; rw [List.filterMap_cons, hf]; exact List.mem_cons_of_mem _ hb)) hr⟩
  exact all X.outer (fun _ hb => hb) I.ok.funs
theorem Inv.stack (I : Inv X pins σ H s) : s.heap.FunFrames X.base X.stack := by
  rcases I.ok.stk with e | ⟨e, hf⟩
  · rw [e]; exact I.funs
  · rw [e]
    obtain ⟨m, hn, _⟩ := I.loc
    refine .cons (by rw [I.ok.kind]; decide) hf hn ?_ I.funs
    exact Heap.get?_none_of_le (Nat.le_trans I.ok.bsz I.ok.above)
theorem Inv.stkSub (I : Inv X pins σ H s) : ∀ b ∈ frs X.stack, b ∈ X.env.locals :: X.fs := fun b hb => by
  rcases I.ok.stk with e | ⟨e, hf⟩
  · rw [e] at hb; exact List.mem_cons_of_mem _ hb
  · rw [e] at hb
    unfold frs at hb
    rw [List.filterMap_cons, hf] at hb
    exact hb
theorem Inv.stkFree (I : Inv X pins σ H s) : ∀ b ∈ frs X.stack, H b = none := fun b hb => by
  rcases List.mem_cons.mp (I.stkSub b hb) with e | hb
  · rw [e]; exact I.free
  · obtain ⟨_, o, ho, _⟩ := I.ok.funs.mem hb
    exact I.base.free b o ho (I.ok.frf b hb) fun z => I.ok.exfs b z hb
theorem Inv.step {g' : Array GenState} {t' : Nat} {d' : Drawn} {ch : List Addr} (I : Inv X pins σ H s)
    (hch : ∀ b ∈ ch, (b ∈ X.ex ∨ X.s₀.heap.objs.size ≤ b) ∧ b ≠ X.env.locals ∧ (∀ x c, X.env.cells.lookup x = some c → c ≠ b) ∧ ∀ p ∈ X.pn ++ pins, p.1 ≠ b)
    (keep : ∀ b o, b ≠ X.env.locals → b ∉ X.fs → b ∉ ch → s.heap.get? b = some o → H b = none → h'.get? b = some o)
    (slot : ∀ b o, b ≠ X.env.locals → b ∈ X.fs → b ∉ ch → s.heap.get? b = some o → H b = none → ∃ sl, h'.get? b = some { o with slots := sl }) (free : ∀ b o, b ∉ ch → s.heap.get? b = some o → H b = none → H' b = none)
    (there : ∀ b o, b ∉ ch → s.heap.get? b = some o → ∃ o', h'.get? b = some o')
    (tups : ∀ b xs, H b = some (.tup xs) → H' b = some (.tup xs)) (frzs : ∀ b o u, H b = some (.frz o u) → H' b = some (.frz o u)) (tbls : ∀ b ps, H b = some (.tbl ps) → ∃ more, H' b = some (.tbl (ps ++ more)))
    (ns : ∀ m, s.heap.Ns X.env.locals m → h'.Ns X.env.locals m) (hok : HOk X.prog X.w H' h') (hg : AllBare g') :
    Inv X pins σ H' { s with heap := h', gens := g', drawn := d', toks := t' } := by
  have neL : ∀ b o, X.s₀.heap.get? b = some o → b ≠ X.env.locals := fun b o e => Nat.ne_of_lt (Nat.lt_of_lt_of_le (Heap.lt_size e) I.ok.above)
  have neC : ∀ b o, X.s₀.heap.get? b = some o → b ∉ X.ex → b ∉ ch := fun b o e hx hb => by
    rcases (hch b hb).1 with z | z
    · exact hx z
    · exact absurd (Nat.lt_of_lt_of_le (Heap.lt_size e) z) (Nat.lt_irrefl _)
  have cellK : ∀ x c, X.env.cells.lookup x = some c → ∀ v, s.heap.IsCell c v → h'.IsCell c v := fun x c e v hpt0 => by
    obtain ⟨o, ho, hd⟩ := hpt0
    have nch : c ∉ ch := fun z => (hch c z).2.2.1 x c e rfl
    by_cases hc : c ∈ X.fs
    · obtain ⟨sl, q⟩ := slot c o (I.cne x c e) hc nch ho (I.freeC x c e)
      exact ⟨_, q, hd⟩
    · exact ⟨o, keep c o (I.cne x c e) hc nch ho (I.freeC x c e), hd⟩
  refine ⟨I.ok, I.os, hg, ⟨fun b o e n hb hx => ?_, fun b o e n hb hx => ?_, fun b o e n hx => ?_, fun b o e hx => ?_, fun b xs e => tups b xs (I.base.tups b xs e), fun b o xs e => frzs b o xs (I.base.frzs b o xs e), fun b ps e => ?_⟩, ?_, fun x c e => ?_, ?_, fun x c e => ?_, fun p hp => ?_, hok, I.len⟩
  · exact keep b o (neL b o e) hb (neC b o e hx) (I.base.keep b o e n hb hx) (I.base.free b o e n hx)
  · obtain ⟨sl, e1⟩ := I.base.slot b o e n hb hx
    obtain ⟨sl', e2⟩ := slot b _ (neL b o e) hb (neC b o e hx) e1 (I.base.free b o e n hx)
    exact ⟨sl', e2⟩
  · obtain ⟨o', e1⟩ := I.base.there b o e hx
    exact free b o' (neC b o e hx) e1 (I.base.free b o e n hx)
  · obtain ⟨o', e1⟩ := I.base.there b o e hx
    exact there b o' (neC b o e hx) e1
  · obtain ⟨m1, e1⟩ := I.base.tbls b ps e
    obtain ⟨m2, e2⟩ := tbls b _ e1
    exact ⟨m1 ++ m2, by rw [e2, Array.append_assoc]⟩
  · obtain ⟨m, hn, hl⟩ := I.loc
    refine ⟨m, ns m hn, fun i x v e1 e2 e3 => ?_⟩
    obtain ⟨u, r, l⟩ := hl i x v e1 e2 e3
    refine ⟨u, r, ?_⟩
    rcases l with l | ⟨k, c, e, z⟩
    · exact .inl l
    · exact .inr ⟨k, c, e, cellK x c e _ z⟩
  · obtain ⟨v, z⟩ := I.cell x c e
    exact ⟨v, cellK x c e v z⟩
  · obtain ⟨m, ⟨o, _, _, ho, _⟩, _⟩ := I.loc
    exact free _ o (fun z => (hch _ z).2.1 rfl) ho I.free
  · obtain ⟨v, o, ho, hd⟩ := I.cell x c e
    exact free c o (fun z => (hch c z).2.2.1 x c e rfl) ho (I.freeC x c e)
  · obtain ⟨e, n, ne, nf, d⟩ := I.pin p hp
    have nch : p.1 ∉ ch := fun z => (hch p.1 z).2.2.2 p hp rfl
    exact ⟨keep p.1 p.2 ne nf nch e n, free p.1 p.2 nch e n, ne, nf, d⟩
theorem Inv.un {t' : Nat} (I : Inv X pins σ H s) (u : Un X.fs [] H H' s.heap h') (hok : HOk X.prog X.w H' h') : Inv X pins σ H' { s with heap := h', toks := t' } := by
  obtain ⟨m, ⟨o, es, ep, ho, r⟩, _⟩ := id I.loc
  obtain ⟨sl, hL⟩ := u.any ho I.free (by simp)
  exact I.step (g' := s.gens) (d' := s.drawn) (ch := []) (fun _ z => nomatch z) (fun b o _ hb _ e n => u.keep b o e n hb (by simp)) (fun b o _ hb _ e n => u.slot b o e n hb (by simp)) (fun b o _ e n => u.free b o e n (by simp)) (fun b o _ e => u.there b o e (by simp)) u.tups u.frzs u.tbls (fun m' hm => by
    obtain ⟨o', es', ep', ho', r'⟩ := hm
    rw [ho] at ho'; cases ho'
    exact ⟨_, es', ep', hL, r'⟩) hok I.bare
theorem Inv.call {g' : Array GenState} {t' : Nat} {d' : Drawn} {ch : List Addr} (I : Inv X pins σ H s) (u : Un (frs X.stack) ch H H' s.heap h') (hok : HOk X.prog X.w H' h') (hg : AllBare g')
    (hch : ∀ b ∈ ch, (b ∈ X.ex ∨ X.s₀.heap.objs.size ≤ b) ∧ b ≠ X.env.locals ∧ (∀ x c, X.env.cells.lookup x = some c → c ≠ b) ∧ ∀ p ∈ X.pn ++ pins, p.1 ≠ b) :
    Inv X pins σ H' { s with heap := h', gens := g', drawn := d', toks := t' } := by
  obtain ⟨m, ⟨o, es, ep, ho, r⟩, _⟩ := id I.loc
  obtain ⟨sl, hL⟩ := u.any ho I.free fun z => (hch _ z).2.1 rfl
  exact I.step (ch := ch) hch (fun b o hL hb hc e n => u.keep b o e n (fun z => (List.mem_cons.mp (I.stkSub b z)).elim hL hb) hc) (fun b o _ _ hc e n => u.any e n hc) (fun b o hc e n => u.free b o e n hc) (fun b o hc e => u.there b o e hc) u.tups u.frzs u.tbls (fun m' hm => by
    obtain ⟨o', es', ep', ho', r'⟩ := hm
    rw [ho] at ho'; cases ho'
    exact ⟨_, es', ep', hL, r'⟩) hok hg
theorem Inv.turned {t' : Nat} {it : Addr} (I : Inv X pins σ H s) (k : ∀ b o, b ≠ it → s.heap.get? b = some o → h'.get? b = some o) (hn : H it = none) (hL : it ≠ X.env.locals)
    (h1 : it ∈ X.ex ∨ X.s₀.heap.objs.size ≤ it) (h2 : ∀ x c, X.env.cells.lookup x = some c → c ≠ it) (h3 : ∀ p ∈ X.pn ++ pins, p.1 ≠ it) : Inv X pins σ H { s with heap := h', toks := t' } := by
  have nit : ∀ b u, H b = some u → b ≠ it := fun b u e z => by rw [z, hn] at e; cases e
  refine I.step (g' := s.gens) (d' := s.drawn) (ch := [it]) (fun b hb => ?_) (fun b o _ _ hc e _ => k b o (fun z => hc (by simp [z])) e) (fun b o _ _ hc e _ => ⟨o.slots, k b o (fun z => hc (by simp [z])) e⟩) (fun _ _ _ _ n => n)
    (fun b o hc e => ⟨o, k b o (fun z => hc (by simp [z])) e⟩) (fun _ _ e => e) (fun _ _ _ e => e) (fun b ps e => ⟨#[], by rw [e]; simp⟩) (fun m hm => ?_) (fun b u e => ?_) I.bare
  · have e : b = it := by simpa using hb
    subst e
    exact ⟨h1, hL, h2, h3⟩
  · obtain ⟨o, es, ep, ho, r⟩ := hm
    exact ⟨o, es, ep, k _ o (Ne.symm hL) ho, r⟩
  · refine (I.hok b u e).stay (fun c v hc q => k c v ?_ q) (fun _ q => q) fun _ _ q => q
    rcases hc with z | z
    · rw [z]; exact nit b u e
    · exact nit c _ z
theorem Inv.tok (I : Inv X pins σ H s) (t : Nat) : Inv X pins σ H { s with toks := t } := I.un (h' := s.heap) (t' := t) Un.refl I.hok
theorem Inv.kept {t' : Nat} (I : Inv X pins σ H s) (k : ∀ b u, s.heap.get? b = some u → h'.get? b = some u) : Inv X pins σ H { s with heap := h', toks := t' } := I.un (Un.kept k) (I.hok.kept k)
theorem Inv.laid {a : Addr} {o : HO} {t' : Nat} (I : Inv X pins σ H s) (k : ∀ b u, s.heap.get? b = some u → h'.get? b = some u) (hp : s.heap.objs.size ≤ a) (new : ObjOk X.prog X.w (upd H a o) h' a o) :
    Inv X pins σ (upd H a o) { s with heap := h', toks := t' } := I.un (Un.laid k hp (I.hok.fresh hp)) (I.hok.laid k hp new)
theorem Inv.write {x e : Addr} {o : HO} {t' : Nat} (I : Inv X pins σ H s) (mu : Mut (H x)) (he : e = x ∨ H e = some (.own x)) (k : ∀ b u, b ≠ e → s.heap.get? b = some u → h'.get? b = some u) (heo : ∃ u, h'.get? e = some u)
    (new : ObjOk X.prog X.w (upd H x o) h' x o) : Inv X pins σ (upd H x o) { s with heap := h', toks := t' } := I.un (Un.write mu he k heo) (I.hok.write mu he k heo new)
theorem Inv.weak {σ' : List (Option V)} (I : Inv X pins σ H s) (hl : σ'.length = σ.length) (w : ∀ (i : Nat) v, σ'[i]? = some (some v) → σ[i]? = some (some v)) : Inv X pins σ' H s :=
  ⟨I.ok, I.os, I.bare, I.base, let ⟨m, hn, hl'⟩ := I.loc; ⟨m, hn, fun i x v e1 e2 e3 => hl' i x v e1 (w i v e2) e3⟩, I.cell, I.free, I.freeC, I.pin, I.hok, hl.trans I.len⟩
theorem Inv.pins_of {pins' : List (Addr × Obj)} (I : Inv X pins σ H s) (h : ∀ p ∈ pins', s.heap.get? p.1 = some p.2 ∧ H p.1 = none ∧ p.1 ≠ X.env.locals ∧ p.1 ∉ X.fs ∧ ∀ v, p.2.data ≠ .cell v) : Inv X pins' σ H s :=
  ⟨I.ok, I.os, I.bare, I.base, I.loc, I.cell, I.free, I.freeC, fun p hp => (List.mem_append.mp hp).elim (fun z => I.pin p (List.mem_append_left _ z)) (h p), I.hok, I.len⟩
theorem nodup_ix {N : List Str} (hN : N.Nodup) {i j : Nat} {x : Str} (a : N[i]? = some x) (b : N[j]? = some x) : i = j := by
  obtain ⟨h1, e1⟩ := List.getElem?_eq_some_iff.mp a
  obtain ⟨h2, e2⟩ := List.getElem?_eq_some_iff.mp b
  exact (List.getElem_inj hN).mp (e1.trans e2.symm)
theorem store_ok2 {M : Model} {A : Around} {E : Value → Shared → Prop} {i : Nat} {x : Str} {v : V} {u : Value} {Q : Unit → Shared → Prop} (I : Inv X pins σ H s) (hN : X.N.Nodup) (hi : X.N[i]? = some x) (hx : Loc X.env.scope x) (r : RelV v u)
    (h : ∀ s', Inv X pins (σ.set i (some v)) H s' → (∃ a, Heap.SameBut a s.heap s'.heap ∧ (a = X.env.locals ∨ X.env.cells.lookup x = some a)) → Q () s') (hf : X.fn x = true ∨ X.env.scope.names.lookup x = some .local := by first | exact .inl rfl | exact .inr rfl | assumption) : wpAny M A (storeName X.env x u) Q E s := by
  obtain ⟨m, hn, hl⟩ := id I.loc
  have hcls : (X.env.scope.kind == .class || (X.env.scope.kind == .module && X.env.locals != X.env.globals)) = false := by rw [I.ok.kind]; rfl
  have hiσ : i < σ.length := by rw [I.len]; exact (List.getElem?_eq_some_iff.mp hi).1
  have cne := I.cne
  have tracked : ∀ {a : Addr} {h' : Heap}, (∃ o, s.heap.get? a = some o ∧ H a = none) → Heap.SameBut a s.heap h' → HOk X.prog X.w H h' := fun {a h'} ha hs b ob e => by
    obtain ⟨_, _, hfree⟩ := ha
    refine (I.hok b ob e).stay (fun c w' hc q => (hs.2 c ?_).trans q) (fun _ q => q) fun _ _ q => q
    rintro rfl
    rcases hc with rfl | hc
    · rw [hfree] at e; cases e
    · rw [hfree] at hc; cases hc
  rcases hx with hk | hk
  · refine wpAny_storeName_local hk hn (fun h' hn' hs => ?_) hcls
    obtain ⟨oL, _, _, hoL, _⟩ := id hn
    refine h _ ⟨I.ok, I.os, I.bare, ⟨fun b o e n hb hx => ?_, fun b o e n hb hx => ?_, I.base.free, fun b o e hx => ?_, I.base.tups, I.base.frzs, I.base.tbls⟩, ⟨_, hn', fun j y v' e1 e2 e3 => ?_⟩, fun y c e => ?_, I.free, I.freeC, fun p hp => ?_, tracked ⟨oL, hoL, I.free⟩ hs, by simpa using I.len⟩ ⟨_, hs, .inl rfl⟩
    · exact (hs.2 b (Nat.ne_of_lt (Nat.lt_of_lt_of_le (Heap.lt_size e) I.ok.above))).trans (I.base.keep b o e n hb hx)
    · obtain ⟨sl, e1⟩ := I.base.slot b o e n hb hx
      exact ⟨sl, (hs.2 b (Nat.ne_of_lt (Nat.lt_of_lt_of_le (Heap.lt_size e) I.ok.above))).trans e1⟩
    · obtain ⟨o', e1⟩ := I.base.there b o e hx
      exact ⟨o', (hs.2 b (Nat.ne_of_lt (Nat.lt_of_lt_of_le (Heap.lt_size e) I.ok.above))).trans e1⟩
    · by_cases hj : j = i
      · subst hj
        rw [hi] at e1; cases e1
        rw [List.getElem?_set_self hiσ] at e2
        cases e2
        exact ⟨u, r, .inl ⟨hk, by simp⟩⟩
      · rw [List.getElem?_set_ne (Ne.symm hj)] at e2
        obtain ⟨u', r', q⟩ := hl j y v' e1 e2 e3
        refine ⟨u', r', ?_⟩
        rcases q with ⟨k, e⟩ | ⟨k, c, e, z⟩
        · refine .inl ⟨k, ?_⟩
          have : y ≠ x := fun e => hj (nodup_ix hN e1 (e ▸ hi))
          simp [this, e]
        · exact .inr ⟨k, c, e, z.sameBut hs (cne y c e)⟩
    · obtain ⟨w', z⟩ := I.cell y c e
      exact ⟨w', z.sameBut hs (cne y c e)⟩
    · obtain ⟨e, n, ne, nf, d⟩ := I.pin p hp
      exact ⟨(hs.2 p.1 ne).trans e, n, ne, nf, d⟩
  · have hfn : X.fn x = true := by
      rcases hf with z | z
      · exact z
      · rw [z] at hk; cases hk
    obtain ⟨c, hc⟩ := I.ok.has x (.inl hk)
    obtain ⟨w', z⟩ := I.cell x c hc
    refine wpAny_storeName_cell I.ok.kind hk hc z (fun h' hc' hs => ?_)
    obtain ⟨oc, hoc, hocd⟩ := id z
    refine h { s with heap := h' } ⟨I.ok, I.os, I.bare, ⟨fun b o e n hb hx => ?_, fun b o e n hb hx => ?_, I.base.free, fun b o e hx => ?_, I.base.tups, I.base.frzs, I.base.tbls⟩, ⟨m, hn.sameBut hs (Ne.symm (cne x c hc)), fun j y v' e1 e2 e3 => ?_⟩, fun y c' e => ?_, I.free, I.freeC, fun p hp => ?_, tracked ⟨oc, hoc, I.freeC x c hc⟩ hs, by simpa using I.len⟩ ⟨c, hs, .inr hc⟩
    · exact (hs.2 b (Nat.ne_of_lt (Nat.lt_of_lt_of_le (Heap.lt_size e) (I.ok.cab x c hfn hc)))).trans (I.base.keep b o e n hb hx)
    · obtain ⟨sl, e1⟩ := I.base.slot b o e n hb hx
      exact ⟨sl, (hs.2 b (Nat.ne_of_lt (Nat.lt_of_lt_of_le (Heap.lt_size e) (I.ok.cab x c hfn hc)))).trans e1⟩
    · obtain ⟨o', e1⟩ := I.base.there b o e hx
      exact ⟨o', (hs.2 b (Nat.ne_of_lt (Nat.lt_of_lt_of_le (Heap.lt_size e) (I.ok.cab x c hfn hc)))).trans e1⟩
    · by_cases hj : j = i
      · subst hj
        rw [hi] at e1; cases e1
        rw [List.getElem?_set_self hiσ] at e2
        cases e2
        exact ⟨u, r, .inr ⟨.inl hk, c, hc, hc'⟩⟩
      · rw [List.getElem?_set_ne (Ne.symm hj)] at e2
        obtain ⟨u', r', q⟩ := hl j y v' e1 e2 e3
        refine ⟨u', r', ?_⟩
        rcases q with q | ⟨k, c', e, z'⟩
        · exact .inl q
        · refine .inr ⟨k, c', e, z'.sameBut hs ?_⟩
          rintro rfl
          exact hj (nodup_ix hN e1 (I.ok.inj _ _ _ e hc ▸ hi))
    · by_cases hcc : c' = c
      · subst hcc; exact ⟨_, hc'⟩
      · obtain ⟨w2, z2⟩ := I.cell y c' e
        exact ⟨w2, z2.sameBut hs hcc⟩
    · obtain ⟨e, n, ne, nf, d⟩ := I.pin p hp
      refine ⟨(hs.2 p.1 ?_).trans e, n, ne, nf, d⟩
      intro q
      rw [q, hoc] at e
      have q' : oc = p.2 := Option.some.inj e
      exact d w' (by rw [← q']; exact hocd)
theorem store_ok {M : Model} {A : Around} {E : Value → Shared → Prop} {i : Nat} {x : Str} {v : V} {u : Value} {Q : Unit → Shared → Prop} (I : Inv X pins σ H s) (hN : X.N.Nodup) (hi : X.N[i]? = some x) (hx : Loc X.env.scope x) (r : RelV v u)
    (h : ∀ s', Inv X pins (σ.set i (some v)) H s' → Q () s') (hf : X.fn x = true ∨ X.env.scope.names.lookup x = some .local := by first | exact .inl rfl | exact .inr rfl | assumption) : wpAny M A (storeName X.env x u) Q E s :=
  store_ok2 I hN hi hx r (fun s' I' _ => h s' I') hf
theorem Inv.call' {s' : Shared} {ch : List Addr} (I : Inv X pins σ H s) (ho : s'.os = s.os) (u : Un (frs X.stack) ch H H' s.heap s'.heap) (hok : HOk X.prog X.w H' s'.heap) (hg : AllBare s'.gens)
    (hch : ∀ b ∈ ch, (b ∈ X.ex ∨ X.s₀.heap.objs.size ≤ b) ∧ b ≠ X.env.locals ∧ (∀ x c, X.env.cells.lookup x = some c → c ≠ b) ∧ ∀ p ∈ X.pn ++ pins, p.1 ≠ b) : Inv X pins σ H' s' := by
  obtain ⟨h', g', d', t', o'⟩ := s'
  have e : o' = s.os := ho
  subst e
  exact I.call (g' := g') (t' := t') (d' := d') u hok hg hch
end
noncomputable abbrev XK := Value → Option Addr → Hp → Prop
noncomputable abbrev St := List (Option V)
noncomputable abbrev VK := V → Hp → Prop
noncomputable abbrev TE := St → Hp → VK → Prop
noncomputable abbrev TT := St → Hp → (Bool → Hp → Prop) → Prop
noncomputable abbrev TA := St → Hp → (List V → Hp → Prop) → Prop
structure Ends where
  nx : St → Hp → Prop
  rt : VK
  bk : St → Hp → Prop := fun _ _ => False
  ct : St → Hp → Prop := fun _ _ => False
noncomputable abbrev TS := Ends → St → Hp → Prop
noncomputable def EP (X : Cx) (pins : List (Addr × Obj)) (σ : St) (Q : VK) (u : Value) (s' : Shared) : Prop := ∃ v H', Inv X pins σ H' s' ∧ RelV v u ∧ Q v H'
noncomputable def TP (X : Cx) (pins : List (Addr × Obj)) (σ : St) (Q : Bool → Hp → Prop) (b : Bool) (s' : Shared) : Prop := ∃ H', Inv X pins σ H' s' ∧ Q b H'
noncomputable def AP (X : Cx) (pins : List (Addr × Obj)) (σ : St) (Q : List V → Hp → Prop) (us : List Value) (s' : Shared) : Prop := ∃ vs H', Inv X pins σ H' s' ∧ Vals vs us ∧ Q vs H'
noncomputable def SP (X : Cx) (pins : List (Addr × Obj)) (D : Ends) (f : Flow) (s' : Shared) : Prop :=
  match f with
  | .next => ∃ σ' H', Inv X pins σ' H' s' ∧ D.nx σ' H'
  | .brk => ∃ σ' H', Inv X pins σ' H' s' ∧ D.bk σ' H'
  | .cont => ∃ σ' H', Inv X pins σ' H' s' ∧ D.ct σ' H'
  | .ret u => ∃ v σ' H', Inv X pins σ' H' s' ∧ RelV v u ∧ D.rt v H'
noncomputable def PE (X : Cx) (e : Expr) (t : TE) : Prop :=
  ∀ (pins : List (Addr × Obj)) (s : Shared) (σ : St) (H : Hp) (Q : VK), Inv X pins σ H s → t σ H Q → wpAny (model X.prog X.w) X.A (eval e X.env) (EP X pins σ Q) X.xe s
noncomputable def PT (X : Cx) (e : Expr) (t : TT) : Prop :=
  ∀ (pins : List (Addr × Obj)) (s : Shared) (σ : St) (H : Hp) (Q : Bool → Hp → Prop), Inv X pins σ H s → t σ H Q → wpAny (model X.prog X.w) X.A (isTrue e X.env (eval e X.env)) (TP X pins σ Q) X.xe s
noncomputable def PW (X : Cx) (e : Expr) (t : TT) : Prop :=
  ∀ (whole : Sem Value) (pins : List (Addr × Obj)) (s : Shared) (σ : St) (H : Hp) (Q : Bool → Hp → Prop), Inv X pins σ H s → t σ H Q → wpAny (model X.prog X.w) X.A (isTrue e X.env whole) (TP X pins σ Q) X.xe s
theorem PW.pt {X : Cx} {e : Expr} {t : TT} (h : PW X e t) : PT X e t := h _
noncomputable def PA (X : Cx) (es : List Expr) (t : TA) : Prop :=
  ∀ (pos : Pos) (pins : List (Addr × Obj)) (s : Shared) (σ : St) (H : Hp) (Q : List V → Hp → Prop), Inv X pins σ H s → t σ H Q → wpAny (model X.prog X.w) X.A (spliced (backTo pos (starEach es X.env))) (AP X pins σ Q) X.xe s
noncomputable def PS (X : Cx) (st : Stmt) (t : TS) : Prop :=
  ∀ (pins : List (Addr × Obj)) (s : Shared) (σ : St) (H : Hp) (D : Ends), Inv X pins σ H s → t D σ H → wpAny (model X.prog X.w) X.A (exec st X.env) (SP X pins D) X.xe s
noncomputable def PSs (X : Cx) (st : List Stmt) (t : TS) : Prop :=
  ∀ (pins : List (Addr × Obj)) (s : Shared) (σ : St) (H : Hp) (D : Ends), Inv X pins σ H s → t D σ H → wpAny (model X.prog X.w) X.A (execs st X.env) (SP X pins D) X.xe s
theorem thn {α : Type} {t : Sem α} {Q Q' : α → Shared → Prop} {M : Model} {A : Around} {E : Value → Shared → Prop} {s : Shared} (h : wpAny M A t Q E s) (hQ : ∀ a s, Q a s → Q' a s) : wpAny M A t Q' E s := wpAny_mono h hQ fun _ _ x => x
end L2
namespace L2
open PySem PySem.Spec PyProof.Rows
section
variable {X : Cx}
noncomputable def tVar (i : Nat) : TE := fun σ H Q => ∃ v, σ[i]? = some (some v) ∧ Q v H
noncomputable def tC (v : V) : TE := fun _ H Q => Q v H
theorem pe_var {i : Nat} {x : Str} {pos : Pos} (hN : X.N[i]? = some x) (hv : Vis X.env.scope x) (hd : (x == ("__debug__" : Str)) = false := by decide) (hcd : (x == ("__classdict__" : Str)) = false := by decide) : PE X (.Name x pos) (tVar i) := by
  intro pins s σ H Q I h
  obtain ⟨v, e, h⟩ := h
  obtain ⟨m, hn, hl⟩ := I.loc
  obtain ⟨u, r, l⟩ := hl i x v hN e hv
  have fin : EP X pins σ Q u s := ⟨v, H, I, r, h⟩
  rcases l with ⟨hk, hm⟩ | ⟨hk, c, hc, hcell⟩
  · exact wpAny_Name (wpAny_loadName_local I.ok.kind hk hn hm fin) hd
  · rcases hk with hk | hk
    · exact wpAny_Name (wpAny_loadName_cell I.ok.kind hk hc hcell fin) hd
    · exact wpAny_Name (wpAny_loadName_free I.ok.kind hk hc hcell fin hcd) hd
theorem pe_int {i j pos} : PE X (.Constant (.int i) j pos) (tC (.int i)) := fun _ _ _ H _ I h => wpAny_Constant_int ⟨.int i, H, I.tok _, ⟨_, rfl⟩, h⟩
theorem pe_bl {b j pos} : PE X (.Constant (.bool b) j pos) (tC (.bl b)) := fun _ _ _ H _ I h => Constant_bool ⟨.bl b, H, I, rfl, h⟩
theorem pe_non {j pos} : PE X (.Constant .none j pos) (tC .non) := fun _ _ _ H _ I h => Constant_none ⟨.non, H, I, rfl, h⟩
theorem pe_str {x j pos} : PE X (.Constant (.str x) j pos) (tC (.str x)) := fun _ _ _ H _ I h => Calls.Constant_str ⟨.str x, H, I.tok _, ⟨_, rfl⟩, h⟩
noncomputable def Gl (X : Cx) (x : Str) : Prop := X.env.kindOf x = some .globalImplicit
theorem ld_glob {E : Value → Shared → Prop} {pins : List (Addr × Obj)} {s : Shared} {σ : St} {H : Hp} {x : Str} {u : Value} {pos : Pos} {Q : Value → Shared → Prop} (I : Inv X pins σ H s) (hg : Gl X x) (hm : X.mg x = some u) (h : Q u s)
    (hd : (x == ("__debug__" : Str)) = false := by decide) : wpAny (model X.prog X.w) X.A (eval (.Name x pos) X.env) Q E s :=
  Calls.Name_function_global I.ok.kind hg (Calls.loadGlobal_global (by rw [I.ok.glob]; exact I.mod.glob.keeps I.bk) hm h) hd
theorem ld_blt {E : Value → Shared → Prop} {pins : List (Addr × Obj)} {s : Shared} {σ : St} {H : Hp} {x : Str} {u : Value} {pos : Pos} {Q : Value → Shared → Prop} (I : Inv X pins σ H s) (hg : Gl X x) (hm : X.mg x = none) (hv : bootBuiltins x = some u) (h : Q u s)
    (hn : x ≠ "__name__" := by decide) (hd : (x == ("__debug__" : Str)) = false := by decide) : wpAny (model X.prog X.w) X.A (eval (.Name x pos) X.env) Q E s := by
  obtain ⟨mb, h1, h2⟩ := I.mod.blt
  exact Calls.Name_function_global I.ok.kind hg (Calls.loadGlobal_builtin (by rw [I.ok.glob]; exact I.mod.glob.keeps I.bk) hm (by rw [I.ok.blt]; exact h1.keeps I.bk) ((h2 x hn).trans hv) h) hd
theorem pe_glob {x : Str} {v : V} {u : Value} {pos : Pos} (hg : Gl X x) (hm : X.mg x = some u) (r : RelV v u) (hd : (x == ("__debug__" : Str)) = false := by decide) : PE X (.Name x pos) (tC v) :=
  fun _ _ _ H _ I h => ld_glob I hg hm ⟨v, H, I, r, h⟩ hd
theorem pe_bltn {x : Str} {v : V} {u : Value} {pos : Pos} (hg : Gl X x) (hm : X.mg x = none) (hv : bootBuiltins x = some u) (r : RelV v u) (hn : x ≠ "__name__" := by decide) (hd : (x == ("__debug__" : Str)) = false := by decide) : PE X (.Name x pos) (tC v) :=
  fun _ _ _ H _ I h => ld_blt I hg hm hv ⟨v, H, I, r, h⟩ hn hd
variable {a b : Expr} {ta tb : TE} {pos : Pos}
noncomputable def tB (t : TE) : TT := fun σ H Q => t σ H fun x H1 => ∃ c, x = .bl c ∧ Q c H1
variable {tA tB' : TT} {rest : List Expr}
noncomputable def tAnd (t u : TT) : TT := fun σ H Q => t σ H fun c H1 => if c = true then u σ H1 Q else Q false H1
noncomputable def tOr (t u : TT) : TT := fun σ H Q => t σ H fun c H1 => if c = true then Q true H1 else u σ H1 Q
noncomputable def tNot (t : TT) : TT := fun σ H Q => t σ H fun c H1 => Q (!c) H1
theorem pw_and1 (ha : PT X a tA) : PW X (.BoolOp .And [a] pos) tA := by
  intro wh pins s σ H Q I h
  refine isTrue_and (thn (ha pins s σ H Q I h) fun c s1 e => ?_)
  cases c with
  | true => exact isTrue_and_nil e
  | false => exact e
theorem pw_or1 (ha : PT X a tA) : PW X (.BoolOp .Or [a] pos) tA := by
  intro wh pins s σ H Q I h
  refine isTrue_or (thn (ha pins s σ H Q I h) fun c s1 e => ?_)
  cases c with
  | false => exact isTrue_or_nil e
  | true => exact e
theorem pw_and (ha : PT X a tA) (hb : PW X (.BoolOp .And (b :: rest) pos) tB') : PW X (.BoolOp .And (a :: b :: rest) pos) (tAnd tA tB') := by
  intro wh pins s σ H Q I h
  refine isTrue_and (thn (ha pins s σ H _ I h) fun c s1 hpt9 => ?_)
  obtain ⟨H1, I1, q1⟩ := hpt9
  cases c with
  | true => exact hb wh pins s1 σ H1 Q I1 q1
  | false => exact ⟨H1, I1, q1⟩
theorem pw_or (ha : PT X a tA) (hb : PW X (.BoolOp .Or (b :: rest) pos) tB') : PW X (.BoolOp .Or (a :: b :: rest) pos) (tOr tA tB') := by
  intro wh pins s σ H Q I h
  refine isTrue_or (thn (ha pins s σ H _ I h) fun c s1 hpt9 => ?_)
  obtain ⟨H1, I1, q1⟩ := hpt9
  cases c with
  | true => exact ⟨H1, I1, q1⟩
  | false => exact hb wh pins s1 σ H1 Q I1 q1
theorem pt_not (ha : PT X a tA) : PT X (.UnaryOp .Not a pos) (tNot tA) := by
  intro pins s σ H Q I h
  exact isTrue_not (ha pins s σ H (fun c H1 => Q (!c) H1) I h)
noncomputable def tAndV (ta tb : TE) : TE := fun σ H Q => ta σ H fun x H1 => ∃ c, x = .bl c ∧ if c = true then tb σ H1 Q else Q (.bl false) H1
theorem pe_one {op} {t : TE} (h : PE X a t) : PE X (.BoolOp op [a] pos) t := fun pins s σ H Q I hw => BoolOp_one (h pins s σ H Q I hw)
theorem pe_and (ha : PE X a ta) (hb : PE X (.BoolOp .And (b :: rest) pos) tb) : PE X (.BoolOp .And (a :: b :: rest) pos) (tAndV ta tb) := by
  intro pins s σ H Q I h
  refine BoolOp_and (thn (ha pins s σ H _ I h) fun v s1 hpt9 => ?_)
  obtain ⟨x, H1, I1, r1, q1⟩ := hpt9
  obtain ⟨c, rfl, q1⟩ := q1
  cases r1
  refine wpAny_truthy_bool ?_
  cases c with
  | true => exact hb pins s1 σ H1 Q I1 q1
  | false => exact ⟨.bl false, H1, I1, rfl, q1⟩
noncomputable def tIf (t : TT) (ta tb : TE) : TE := fun σ H Q => t σ H fun c H1 => if c = true then ta σ H1 Q else tb σ H1 Q
theorem pe_ifExp {c : Expr} (hc : PT X c tA) (ha : PE X a ta) (hb : PE X b tb) : PE X (.IfExp c a b pos) (tIf tA ta tb) := by
  intro pins s σ H Q I h
  refine wpAny_IfExp (thn (hc pins s σ H _ I h) fun d s1 hpt9 => ?_)
  obtain ⟨H1, I1, q1⟩ := hpt9
  cases d with
  | true => exact ha pins s1 σ H1 Q I1 q1
  | false => exact hb pins s1 σ H1 Q I1 q1
end
end L2
namespace L2
open PySem PySem.Spec PyProof.Rows
noncomputable def SqL (K : PySem.W.Frag) (H : Hp) (a : Addr) (xs : List V) : Prop :=
  Rd H a (.lst xs) ∨
    ∃ (o : Obj) (its : Array Value) (n : Nat), K.lookup a = some o ∧ o.cls = .type "list" ∧ o.dict = none ∧ o.data = .seq its n ∧ its.size ≤ sizeLine ∧ Vals xs its.toList
noncomputable def SqT (K : PySem.W.Frag) (H : Hp) (a : Addr) (xs : List V) : Prop :=
  Rd H a (.tup xs) ∨
    ∃ (o : Obj) (its : Array Value) (n : Nat), K.lookup a = some o ∧ o.cls = .type "tuple" ∧ o.data = .seq its n ∧ its.size ≤ sizeLine ∧ Vals xs its.toList
noncomputable def absV : Value → Option V
  | .none => some .non
  | .bool b => some (.bl b)
  | .int i _ => some (.int i)
  | .str x _ => some (.str x)
  | .bytes b _ => some (.byt b)
  | .float b _ => some (.flt b)
  | .ref a => some (.ref a)
  | .type n => some (.ty n)
  | _ => none
theorem RelV.abs {x : V} {u : Value} (r : RelV x u) : absV u = some x := by
  cases x with
  | non => cases r; rfl
  | bl _ => cases r; rfl
  | int _ => obtain ⟨t, rfl⟩ := r; rfl
  | str _ => obtain ⟨t, rfl⟩ := r; rfl
  | byt _ => obtain ⟨t, rfl⟩ := r; rfl
  | flt _ => obtain ⟨t, rfl⟩ := r; rfl
  | ref _ => cases r; rfl
  | ty _ => cases r; rfl
theorem RelV.inj {x y : V} {u : Value} (r : RelV x u) (q : RelV y u) : x = y := Option.some.inj (r.abs.symm.trans q.abs)
theorem Vals.inj {xs ys : List V} {us : List Value} (h : Vals xs us) (k : Vals ys us) : xs = ys := by
  induction h generalizing ys with
  | nil => cases k; rfl
  | cons r t ih =>
    cases k with
    | cons r' t' => rw [r.inj r', ih t']
section
variable {X : Cx} {pins : List (Addr × Obj)} {σ : St} {H : Hp} {s : Shared} {a : Addr} {xs ys : List V}
theorem SqL.of {K : PySem.W.Frag} (h : H a = some (.lst xs)) : SqL K H a xs := .inl (.inl h)
theorem SqT.of {K : PySem.W.Frag} (h : H a = some (.tup xs)) : SqT K H a xs := .inl (.inl h)
theorem Inv.list (I : Inv X pins σ H s) (h : SqL X.K H a xs) : ∃ its : List Value, Vals xs its ∧ PlainL s.heap a its.toArray ∧ xs.length ≤ sizeLine := by
  rcases h with h | ⟨o, its, n, hk, hc, hd, hs, hz, r⟩
  · obtain ⟨z, its, n, r, e⟩ := h.ok I.hok
    exact ⟨its, r, ⟨_, n, e, rfl, rfl, rfl⟩, z⟩
  · refine ⟨its.toList, r, ⟨o, n, I.kIn a o hk, hc, hd, by simpa using hs⟩, ?_⟩
    have e := r.length
    simp only [Array.length_toList] at e
    omega
theorem Inv.tuple (I : Inv X pins σ H s) (h : SqT X.K H a xs) : ∃ its : List Value, Vals xs its ∧ IsTup s.heap a its.toArray ∧ xs.length ≤ sizeLine := by
  rcases h with h | ⟨o, its, n, hk, hc, hs, hz, r⟩
  · obtain ⟨z, its, r, p⟩ := h.ok I.hok
    exact ⟨its, r, p, z⟩
  · refine ⟨its.toList, r, ⟨o, I.kIn a o hk, hc, n, by simpa using hs⟩, ?_⟩
    have e := r.length
    simp only [Array.length_toList] at e
    omega
theorem Inv.list_inj (I : Inv X pins σ H s) (h : SqL X.K H a xs) (h' : SqL X.K H a ys) : xs = ys := by
  obtain ⟨its, r, ⟨o, n, e, _, _, d⟩, _⟩ := I.list h
  obtain ⟨its', r', ⟨o', n', e', _, _, d'⟩, _⟩ := I.list h'
  rw [e] at e'; cases e'
  rw [d] at d'
  injection d' with d1 _
  have : its = its' := by simpa using congrArg Array.toList d1
  subst this
  exact r.inj r'
theorem Inv.tuple_inj (I : Inv X pins σ H s) (h : SqT X.K H a xs) (h' : SqT X.K H a ys) : xs = ys := by
  obtain ⟨its, r, ⟨o, e, _, n, d⟩, _⟩ := I.tuple h
  obtain ⟨its', r', ⟨o', e', _, n', d'⟩, _⟩ := I.tuple h'
  rw [e] at e'; cases e'
  rw [d] at d'
  injection d' with d1 _
  have : its = its' := by simpa using congrArg Array.toList d1
  subst this
  exact r.inj r'
end
noncomputable abbrev Cx.wish (X : Cx) (E : Value → Shared → Prop) : Cx := { X with xe := E }
noncomputable abbrev Cx.nox (X : Cx) : Cx := X.wish fun _ _ => False
theorem Cx.Ok.wish {X : Cx} (ok : X.Ok) (E : Value → Shared → Prop) : (X.wish E).Ok :=
  ⟨ok.mod, ok.kind, ok.glob, ok.blt, ok.above, ok.inj, ok.has, ok.cab, ok.hd, ok.frames, ok.stk, ok.exf, ok.bs, ok.bsz, ok.noex, ok.exfs, ok.funs, ok.frf⟩
theorem Cx.Ok.unwish {X : Cx} {E : Value → Shared → Prop} (ok : (X.wish E).Ok) : X.Ok :=
  ⟨ok.mod, ok.kind, ok.glob, ok.blt, ok.above, ok.inj, ok.has, ok.cab, ok.hd, ok.frames, ok.stk, ok.exf, ok.bs, ok.bsz, ok.noex, ok.exfs, ok.funs, ok.frf⟩
section
variable {X : Cx} {pins : List (Addr × Obj)} {σ : St} {H : Hp} {s : Shared} {E : Value → Shared → Prop}
theorem Inv.wish (I : Inv X pins σ H s) (E : Value → Shared → Prop) : Inv (X.wish E) pins σ H s := ⟨I.ok.wish E, I.os, I.bare, I.base, I.loc, I.cell, I.free, I.freeC, I.pin, I.hok, I.len⟩
theorem Inv.unwish (I : Inv (X.wish E) pins σ H s) : Inv X pins σ H s := ⟨I.ok.unwish, I.os, I.bare, I.base, I.loc, I.cell, I.free, I.freeC, I.pin, I.hok, I.len⟩
theorem SP.unwish {D : Ends} {f : Flow} {s' : Shared} (h : SP (X.wish E) pins D f s') : SP X pins D f s' := by
  cases f with
  | next => obtain ⟨σ', H', I, q⟩ := h; exact ⟨σ', H', I.unwish, q⟩
  | brk => obtain ⟨σ', H', I, q⟩ := h; exact ⟨σ', H', I.unwish, q⟩
  | cont => obtain ⟨σ', H', I, q⟩ := h; exact ⟨σ', H', I.unwish, q⟩
  | ret u => obtain ⟨v, σ', H', I, r, q⟩ := h; exact ⟨v, σ', H', I.unwish, r, q⟩
theorem PSs.nox {st : List Stmt} {t : TS} (h : PSs X.nox st t) : PSs X st t := fun pins s σ H D I hw =>
  wpAny_mono (h pins s σ H D (I.wish _) hw) (fun _ _ q => q.unwish) fun _ _ z => False.elim z
end
section
variable {X : Cx} {st : Stmt} {rest : List Stmt} {t u : TS} {e : Expr} {te : TE} {pos : Pos}
noncomputable def tNext : TS := fun D σ H => D.nx σ H
noncomputable def tSeq (t u : TS) : TS := fun D σ H => t { D with nx := u D } σ H
theorem pss_nil : PSs X [] tNext := fun _ _ σ H _ I h => wpAny_execs_nil ⟨σ, H, I, h⟩
theorem pss_cons (h1 : PS X st t) (h2 : PSs X rest u) : PSs X (st :: rest) (tSeq t u) := by
  intro pins s σ H D I h
  refine wpAny_execs_cons (thn (h1 pins s σ H { D with nx := u D } I h) fun f s1 q => ?_)
  cases f with
  | next =>
    obtain ⟨σ', H', I', q⟩ := q
    exact h2 pins s1 σ' H' D I' q
  | ret v => exact q
  | brk => exact q
  | cont => exact q
theorem pss_one (h1 : PS X st t) : PSs X [st] t := by
  intro pins s σ H D I h
  refine wpAny_execs_cons (thn (h1 pins s σ H D I h) fun f s1 q => ?_)
  cases f with
  | next => exact wpAny_execs_nil q
  | ret v => exact q
  | brk => exact q
  | cont => exact q
theorem Inv.quiet {pins : List (Addr × Obj)} {σ : St} {H : Hp} {s : Shared} (I : Inv X pins σ H s) : interactive X.env = false := by simp [interactive, I.ok.kind]
noncomputable def tDrop (te : TE) : TS := fun D σ H => te σ H fun _ H1 => D.nx σ H1
theorem ps_expr (he : PE X e te) (hs : swapsWith e none pos.line X.env = pure false := by rfl) : PS X (.Expr e pos) (tDrop te) := by
  intro pins s σ H D I h
  exact wpAny_Expr_any (thn (he pins s σ H _ I h) fun v s1 ⟨x, H1, I1, r1, q1⟩ => ⟨σ, H1, I1, q1⟩) I.quiet hs
noncomputable def tRet (te : TE) : TS := fun D σ H => te σ H D.rt
theorem ps_ret (he : PE X e te) : PS X (.Return (some e) pos) (tRet te) := by
  intro pins s σ H D I h
  exact wpAny_Return_some (thn (he pins s σ H _ I h) fun v s1 ⟨x, H1, I1, r1, q1⟩ => ⟨x, σ, H1, I1, r1, q1⟩)
noncomputable def tIfS (c : TT) (t u : TS) : TS := fun D σ H => c σ H fun b H1 => if b = true then t D σ H1 else u D σ H1
theorem ps_if {c : Expr} {a b : List Stmt} {tc : TT} (hc : PT X c tc) (ha : PSs X a t) (hb : PSs X b u) : PS X (.If c a b pos) (tIfS tc t u) := by
  intro pins s σ H D I h
  refine wpAny_If (thn (hc pins s σ H _ I h) fun d s1 hpt9 => ?_)
  obtain ⟨H1, I1, q1⟩ := hpt9
  cases d with
  | true => exact ha pins s1 σ H1 D I1 q1
  | false => exact hb pins s1 σ H1 D I1 q1
noncomputable def tNever : TS := fun _ _ _ => False
theorem ps_never : PS X st tNever := fun _ _ _ _ _ _ h => h.elim
end
noncomputable abbrev TG := V → St → Hp → (St → Hp → Prop) → Prop
noncomputable abbrev TGs := List V → St → Hp → (St → Hp → Prop) → Prop
noncomputable def PG (X : Cx) (target : Expr) (t : TG) : Prop :=
  ∀ (pins : List (Addr × Obj)) (s : Shared) (σ : St) (H : Hp) (v : V) (u : Value) (Q : St → Hp → Prop), Inv X pins σ H s → RelV v u → t v σ H Q →
    wpAny (model X.prog X.w) X.A (assign target X.env u) (fun _ s' => ∃ σ' H', Inv X pins σ' H' s' ∧ Q σ' H') X.xe s
noncomputable def PGs (X : Cx) (ts : List Expr) (t : TGs) : Prop :=
  ∀ (pins : List (Addr × Obj)) (s : Shared) (σ : St) (H : Hp) (vs : List V) (us : List Value) (Q : St → Hp → Prop), Inv X pins σ H s → Vals vs us → t vs σ H Q →
    wpAny (model X.prog X.w) X.A (assignInOrder ((assignEach ts X.env).map (·.2)) us) (fun _ s' => ∃ σ' H', Inv X pins σ' H' s' ∧ Q σ' H') X.xe s
noncomputable abbrev TSet := V → V → V → Hp → (Hp → Prop) → Prop
noncomputable def PSet (X : Cx) (t : TSet) : Prop :=
  ∀ (pins : List (Addr × Obj)) (s : Shared) (σ : St) (H : Hp) (o i v : V) (ov iv u : Value) (Q : Hp → Prop), Inv X pins σ H s → RelV o ov → RelV i iv → RelV v u → t o i v H Q →
    wpAny (model X.prog X.w) X.A (setItem ov iv u) (fun _ s' => ∃ H', Inv X pins σ H' s' ∧ Q H') X.xe s
section
variable {X : Cx} {pos : Pos}
noncomputable def gName (i : Nat) : TG := fun v σ H Q => Q (σ.set i (some v)) H
theorem pg_name {i : Nat} {x : Str} (hN : X.N.Nodup) (hi : X.N[i]? = some x) (hx : Loc X.env.scope x) (hf : X.fn x = true ∨ X.env.scope.names.lookup x = some .local := by first | exact .inl rfl | exact .inr rfl | assumption) : PG X (.Name x pos) (gName i) := by
  intro pins s σ H v u Q I r h
  exact wpAny_assign_Name (store_ok I hN hi hx r (fun s' I' => ⟨_, H, I', h⟩) hf)
noncomputable def gNil : TGs := fun vs σ H Q => vs = [] ∧ Q σ H
noncomputable def gCons (t : TG) (u : TGs) : TGs := fun vs σ H Q => ∃ v r, vs = v :: r ∧ t v σ H fun σ' H' => u r σ' H' Q
theorem pgs_nil : PGs X [] gNil := by
  intro pins s σ H vs us Q I r h
  obtain ⟨e, h⟩ := h
  subst e
  cases r
  exact assignInOrder_nil ⟨σ, H, I, h⟩
theorem pgs_cons {e : Expr} {es : List Expr} {t : TG} {u : TGs} (h1 : PG X e t) (h2 : PGs X es u)
    (hs : (assignEach (e :: es) X.env).map (·.2) = assign e X.env :: (assignEach es X.env).map (·.2) := by rfl) : PGs X (e :: es) (gCons t u) := by
  intro pins s σ H vs us Q I r h
  obtain ⟨v, vr, e1, h⟩ := h
  subst e1
  cases r with
  | cons r rr =>
    rw [hs]
    refine assignInOrder_cons (thn (h1 pins s σ H _ _ _ I r h) fun _ s1 hpt9 => ?_)
    obtain ⟨σ1, H1, I1, q1⟩ := hpt9
    exact h2 pins s1 σ1 H1 _ _ Q I1 rr q1
noncomputable def gTup (K : PySem.W.Frag) (n : Nat) (t : TGs) : TG := fun v σ H Q => ∃ a xs, v = .ref a ∧ SqT K H a xs ∧ xs.length = n ∧ t xs σ H Q
theorem pg_tup {es : List Expr} {k : Nat} {t : TGs} {n : Nat} (hc : X.calm = true) (h : PGs X es t)
    (hn : (assignEach es X.env).length = n := by rfl) (hst : (assignEach es X.env).findIdx? (·.1) = none := by rfl) : PG X (.Tuple es k pos) (gTup X.K n t) := by
  intro pins s σ H v u Q I r hw
  obtain ⟨a, xs, e1, hq, hl, hw⟩ := hw
  subst e1
  cases r
  obtain ⟨its, rv, ht, hz⟩ := I.tuple hq
  refine assign_Tuple_tuple (I.ok.hd hc) ht (by simp [hn, ← hl, rv.length]) hst fun h' hx => ?_
  have I1 : Inv X pins σ H { s with heap := h' } := I.kept (t' := s.toks) fun b o e => hx b o (Nat.ne_of_lt (Heap.lt_size e)) e
  exact h pins _ σ H xs _ Q I1 (by simpa using rv) hw
noncomputable def gSub (to ti : TE) (t : TSet) : TG := fun v σ H Q => to σ H fun o H1 => ti σ H1 fun i H2 => t o i v H2 fun H3 => Q σ H3
theorem pg_sub {o i : Expr} {to ti : TE} {t : TSet} (ho : PE X o to) (hi : PE X i ti) (hs : PSet X t)
    (ha : ∀ v, assign (.Subscript o i pos) X.env v = (do
      let ov ← holding [v] (eval o X.env)
      let iv ← holding [v, ov] (eval i X.env)
      standAt pos
      holding [v, ov, iv] (setItem ov iv v)
      release [v, ov, iv] []) := by intro _; rfl) : PG X (.Subscript o i pos) (gSub to ti t) := by
  intro pins s σ H v u Q I r h
  rw [ha]
  refine wpAny_bind (wpAny_holding (thn (ho pins s σ H _ I h) fun ov s1 hpt9 => ?_))
  obtain ⟨x, H1, I1, r1, q1⟩ := hpt9
  refine wpAny_bind (wpAny_holding (thn (hi pins s1 σ H1 _ I1 q1) fun iv s2 hpt9 => ?_))
  obtain ⟨y, H2, I2, r2, q2⟩ := hpt9
  refine wpAny_bind (wpAny_standAt (wpAny_bind (wpAny_holding (thn (hs pins s2 σ H2 x y v ov iv u _ I2 r1 r2 r q2) fun _ s3 hpt9 => ?_))))
  obtain ⟨H3, I3, q3⟩ := hpt9
  exact wpAny_release ⟨σ, H3, I3, q3⟩
noncomputable def tAsg (te : TE) (g : TG) : TS := fun D σ H => te σ H fun x H1 => g x σ H1 D.nx
theorem ps_asg {tg e : Expr} {te : TE} {g : TG} (he : PE X e te) (hg : PG X tg g) (hs : swapsWithSole [tg] e pos.line X.env = pure false := by rfl) (hw : swappedStores [tg] e X.env = pure none := by rfl)
    (h1 : (assignEach [tg] X.env).map (·.2) = [assign tg X.env] := by rfl) : PS X (.Assign [tg] e pos) (tAsg te g) := by
  intro pins s σ H D I h
  refine wpAny_Assign_stores (thn (he pins s σ H _ I h) fun v s1 hpt9 => ?_) hs hw
  obtain ⟨x, H1, I1, r1, q1⟩ := hpt9
  rw [h1]
  exact thn (hg pins s1 σ H1 x v _ I1 r1 q1) fun _ s2 q => q
theorem ps_set {i : Nat} {x : Str} {e : Expr} {te : TE} {pos' : Pos} (hN : X.N.Nodup) (hi : X.N[i]? = some x) (hx : Loc X.env.scope x) (he : PE X e te) (hs : swapsWith e (some (.Name x pos')) pos.line X.env = pure false := by rfl) (hf : X.fn x = true ∨ X.env.scope.names.lookup x = some .local := by first | exact .inl rfl | exact .inr rfl | assumption) :
    PS X (.Assign [.Name x pos'] e pos) (tAsg te (gName i)) := by
  intro pins s σ H D I h
  refine wpAny_Assign_Name (thn (he pins s σ H _ I h) fun v s1 hpt9 => ?_) hs
  obtain ⟨y, H1, I1, r1, q1⟩ := hpt9
  exact store_ok I1 hN hi hx r1 (fun s2 I2 => ⟨_, H1, I2, q1⟩) hf
end
section
variable {X : Cx} {pos : Pos}
end
structure It where
  go : Nat → Hp → Prop
  yld : Nat → Hp → V → Hp → Prop
  stop : Nat → Hp → Prop
noncomputable def FpOk (X : Cx) (pins : List (Addr × Obj)) (H : Hp) (b : Addr) : Prop :=
  H b = none ∧ b ≠ X.env.locals ∧ b ∉ X.fs ∧ (b ∈ X.ex ∨ X.s₀.heap.objs.size ≤ b) ∧ (∀ x c, X.env.cells.lookup x = some c → c ≠ b) ∧ ∀ p ∈ X.pn ++ pins, p.1 ≠ b
theorem Inv.fpOk {X : Cx} {pins : List (Addr × Obj)} {σ : St} {H H' : Hp} {s : Shared} {b : Addr} (I : Inv X pins σ H s) (hb : s.heap.objs.size ≤ b) (hn : H' b = none) : FpOk X pins H' b := by
  refine ⟨hn, Nat.ne_of_gt (Nat.lt_of_lt_of_le I.lt hb), I.nofs hb, .inr (Nat.le_trans I.sz hb), fun x c e z => ?_, fun p hp z => ?_⟩
  · obtain ⟨v, q⟩ := I.cell x c e
    exact absurd (Nat.lt_of_lt_of_le q.lt (by rw [z]; exact hb)) (Nat.lt_irrefl _)
  · exact absurd (Nat.lt_of_lt_of_le (Heap.lt_size (I.pin p hp).1) (by rw [z]; exact hb)) (Nat.lt_irrefl _)
structure Turn (P : Program) (w : World) (K : PySem.W.Frag) (tg : Expr) (J : It) (fp : List Addr) (it : Addr) (tn : Nat → Heap → Prop) : Prop where
  mem : it ∈ fp
  obj : ∀ i h, tn i h → ∀ b ∈ fp, ∃ o, h.get? b = some o ∧ ∀ v, o.data ≠ .cell v
  keep : ∀ i h h', tn i h → (∀ b ∈ fp, ∀ o, h.get? b = some o → h'.get? b = some o) → tn i h'
  item : ∀ (X : Cx), X.prog = P → X.w = w → X.K = K → X.calm = true → ∀ (i : Nat) (pins : List (Addr × Obj)) (s : Shared) (σ : St) (H : Hp) (E : Value → Shared → Prop), Inv X pins σ H s → (∀ b ∈ fp, FpOk X pins H b) → tn i s.heap → J.go i H →
    wpAny (model P w) X.A (pyNext (.ref it)) (fun r s1 => ∃ u, r = some u ∧
      wpAny (model P w) X.A (letOwnedTupleGo tg (.ref it) u) (fun _ s2 => ∃ x H', Inv X pins σ H' s2 ∧ RelV x u ∧ J.yld i H x H' ∧ tn (i + 1) s2.heap ∧ ∀ b ∈ fp, H' b = none) E s1) E s
  done : ∀ (X : Cx), X.prog = P → X.w = w → X.K = K → X.calm = true → ∀ (i : Nat) (pins : List (Addr × Obj)) (s : Shared) (σ : St) (H : Hp) (E : Value → Shared → Prop), Inv X pins σ H s → (∀ b ∈ fp, FpOk X pins H b) → tn i s.heap → J.stop i H →
    wpAny (model P w) X.A (pyNext (.ref it)) (fun r s1 => r = none ∧ Inv X pins σ H s1) E s
  self : ∀ (A : Around) (i : Nat) (s : Shared) (Q : Value → Shared → Prop) (E : Value → Shared → Prop), tn i s.heap → Q (.ref it) s → wpAny (model P w) A (pyIter (.ref it)) Q E s
noncomputable abbrev TI := St → Hp → (It → Hp → Prop) → Prop
noncomputable def PIE (X : Cx) (pins : List (Addr × Obj)) (σ : St) (tg : Expr) (R : It → Hp → Prop) (itv : Value) (s2 : Shared) : Prop :=
  ∃ (it : Addr) (fp : List Addr) (tn : Nat → Heap → Prop) (J : It) (H' : Hp), itv = .ref it ∧ Inv X pins σ H' s2 ∧ Turn X.prog X.w X.K tg J fp it tn ∧ tn 0 s2.heap ∧ (∀ b ∈ fp, FpOk X pins H' b) ∧ R J H'
noncomputable def PI (X : Cx) (tg iter : Expr) (wi : TI) : Prop :=
  ∀ (pins : List (Addr × Obj)) (s : Shared) (σ : St) (H : Hp) (R : It → Hp → Prop), Inv X pins σ H s → wi σ H R →
    wpAny (model X.prog X.w) X.A (eval iter X.env) (fun v s1 => wpAny (model X.prog X.w) X.A (pyIter v) (PIE X pins σ tg R) X.xe s1) X.xe s
theorem go_of {M : Model} {A : Around} {E : Value → Shared → Prop} {s : Shared} {tg : Expr} {it : Addr} {u : Value} {o : Obj} {n : String} {vs : Array Value} {Q : Unit → Shared → Prop} (ho : s.heap.get? it = some o) (hc : o.cls = .type n) (hd : o.data = .fields vs)
    (hn : ["enumerate", "zip", "dict_itemiterator", "dict_reverseitemiterator", "odict_iterator", "itertools.zip_longest", "itertools.pairwise"].contains n = false) (hQ : Q () s) : wpAny M A (letOwnedTupleGo tg (.ref it) u) Q E s := by
  unfold letOwnedTupleGo
  cases tg <;> first
    | exact wpAny_pure hQ
    | (cases u <;> first
        | exact wpAny_pure hQ
        | (refine wpAny_bind (wpAny_load ho ?_)
           rw [hc, hd]
           show wpAny M A (if (["enumerate", "zip", "dict_itemiterator", "dict_reverseitemiterator", "odict_iterator", "itertools.zip_longest", "itertools.pairwise"].contains n && vs[0]? == some (rawInt _)) = true then _ else _) Q E s
           rw [if_neg (by intro h; rw [hn, Bool.false_and] at h; cases h)]
           exact wpAny_pure hQ))
noncomputable def Itl (K : PySem.W.Frag) (a : Addr) : It :=
  ⟨fun i H => ∃ xs x, SqL K H a xs ∧ xs[i]? = some x, fun i H x H' => H' = H ∧ ∀ xs, SqL K H a xs → xs[i]? = some x, fun i H => ∃ xs, SqL K H a xs ∧ xs.length ≤ i⟩
noncomputable def Itt (K : PySem.W.Frag) (a : Addr) : It :=
  ⟨fun i H => ∃ xs x, SqT K H a xs ∧ xs[i]? = some x, fun i H x H' => H' = H ∧ ∀ xs, SqT K H a xs → xs[i]? = some x, fun i H => ∃ xs, SqT K H a xs ∧ xs.length ≤ i⟩
noncomputable def Itr (lo : Int) (n : Nat) : It := ⟨fun i _ => i < n, fun i H x H' => H' = H ∧ x = .int (lo + i), fun i _ => n ≤ i⟩
theorem turn_list {P : Program} {w : World} {K : PySem.W.Frag} {tg : Expr} (a it : Addr) : Turn P w K tg (Itl K a) [it] it (fun i h => h.IsListIter it a i) where
  mem := by simp
  obj := fun i h st b hb => by
    have e : b = it := by simpa using hb
    subst e
    obtain ⟨o, e, c, d⟩ := st
    exact ⟨o, e, fun v z => by rw [d] at z; cases z⟩
  keep := fun i h h' st k => st.at fun o e => k it (by simp) o e
  item := by
    intro X hP hw hK hc i pins s σ H E I hf st hg
    subst hP hw hK
    obtain ⟨xs, x, hq, hx⟩ := hg
    obtain ⟨its, rv, p, hz⟩ := I.list hq
    obtain ⟨u, hu, ru⟩ := rv.get hx
    obtain ⟨f0, f1, f2, f3, f4, f5⟩ := hf it (by simp)
    refine wpAny_pyNext_list_item st p.isList (x := u) (by simpa using hu) fun h' st' sb => ?_
    have I1 : Inv X pins σ H { s with heap := h' } := I.turned (t' := s.toks) (fun b o hb e => (sb.2 b hb).trans e) f0 f1 f3 f4 f5
    obtain ⟨o, e, c, d⟩ := id st'
    exact ⟨u, rfl, go_of (s := { s with heap := h' }) e c d (by decide) ⟨x, H, I1, ru, ⟨rfl, fun ys hy => by rw [I.list_inj hy hq]; exact hx⟩, st', fun b hb => (hf b hb).1⟩⟩
  done := by
    intro X hP hw hK hc i pins s σ H E I hf st hg
    subst hP hw hK
    obtain ⟨xs, hq, hx⟩ := hg
    obtain ⟨its, rv, p, hz⟩ := I.list hq
    obtain ⟨f0, f1, f2, f3, f4, f5⟩ := hf it (by simp)
    have hl := rv.length
    exact wpAny_pyNext_list_end (I.ok.hd hc) st p.isList (by simp; omega) fun h' eb => ⟨rfl, I.turned (t' := s.toks) (fun b o hb e => eb b o hb e) f0 f1 f3 f4 f5⟩
  self := fun _ _ _ _ _ st h => wpAny_pyIter_listiter st h
theorem turn_tuple {P : Program} {w : World} {K : PySem.W.Frag} {tg : Expr} (a it : Addr) : Turn P w K tg (Itt K a) [it] it (fun i h => h.IsTupleIter it a i) where
  mem := by simp
  obj := fun i h st b hb => by
    have e : b = it := by simpa using hb
    subst e
    obtain ⟨o, e, c, d⟩ := st
    exact ⟨o, e, fun v z => by rw [d] at z; cases z⟩
  keep := fun i h h' st k => st.at fun o e => k it (by simp) o e
  item := by
    intro X hP hw hK hc i pins s σ H E I hf st hg
    subst hP hw hK
    obtain ⟨xs, x, hq, hx⟩ := hg
    obtain ⟨its, rv, p, hz⟩ := I.tuple hq
    obtain ⟨u, hu, ru⟩ := rv.get hx
    obtain ⟨f0, f1, f2, f3, f4, f5⟩ := hf it (by simp)
    refine wpAny_pyNext_tuple_item st (show s.heap.IsTuple a its.toArray from p) (x := u) (by simpa using hu) fun h' st' sb => ?_
    have I1 : Inv X pins σ H { s with heap := h' } := I.turned (t' := s.toks) (fun b o hb e => (sb.2 b hb).trans e) f0 f1 f3 f4 f5
    obtain ⟨o, e, c, d⟩ := id st'
    exact ⟨u, rfl, go_of (s := { s with heap := h' }) e c d (by decide) ⟨x, H, I1, ru, ⟨rfl, fun ys hy => by rw [I.tuple_inj hy hq]; exact hx⟩, st', fun b hb => (hf b hb).1⟩⟩
  done := by
    intro X hP hw hK hc i pins s σ H E I hf st hg
    subst hP hw hK
    obtain ⟨xs, hq, hx⟩ := hg
    obtain ⟨its, rv, p, hz⟩ := I.tuple hq
    obtain ⟨f0, f1, f2, f3, f4, f5⟩ := hf it (by simp)
    have hl := rv.length
    exact wpAny_pyNext_tuple_end (I.ok.hd hc) st (show s.heap.IsTuple a its.toArray from p) (by simp; omega) fun h' eb => ⟨rfl, I.turned (t' := s.toks) (fun b o hb e => eb b o hb e) f0 f1 f3 f4 f5⟩
  self := fun _ _ _ _ _ st h => wpAny_pyIter_tupleiter st h
theorem turn_range {P : Program} {w : World} {K : PySem.W.Frag} {tg : Expr} (it : Addr) (lo : Int) (n : Nat) : Turn P w K tg (Itr lo n) [it] it (fun i h => IsRangeIter h it (lo + (i : Nat) * 1) ((n : Int) - (i : Nat)) 1) where
  mem := by simp
  obj := fun i h st b hb => by
    have e : b = it := by simpa using hb
    subst e
    exact ⟨_, st, fun v z => by
      have z' : Data.fields _ = Data.cell v := z
      cases z'⟩
  keep := fun i h h' st k => k it (by simp) _ st
  item := by
    intro X hP hw hK hc i pins s σ H E I hf st hg
    subst hP hw hK
    obtain ⟨f0, f1, f2, f3, f4, f5⟩ := hf it (by simp)
    have W := Walks.range (prog := X.prog) (w := X.w) (I.ok.hd hc) it lo 1 n
    refine W.item i s _ _ hg st fun v h' tk hv st' kk => ?_
    obtain ⟨t, rfl⟩ := hv
    have I1 : Inv X pins σ H { s with heap := h', toks := tk } := I.turned (fun b o hb e => kk b o (by simpa using hb) e) f0 f1 f3 f4 f5
    refine ⟨_, rfl, go_of (s := { s with heap := h', toks := tk }) (n := "range_iterator") st' rfl rfl (by decide) ⟨.int (lo + i), H, I1, ⟨t, ?_⟩, ⟨rfl, rfl⟩, st', fun b hb => (hf b hb).1⟩⟩
    rw [Int.mul_one]
  done := by
    intro X hP hw hK hc i pins s σ H E I hf st hg
    subst hP hw hK
    obtain ⟨f0, f1, f2, f3, f4, f5⟩ := hf it (by simp)
    exact wpAny_pyNext_range_end (I.ok.hd hc) st (by have : n ≤ i := hg; omega) fun h' eb => ⟨rfl, I.turned (t' := s.toks) (fun b o hb e => eb b o hb e) f0 f1 f3 f4 f5⟩
  self := fun _ _ _ _ _ st h => wpAny_pyIter_rangeiter st h
end L2
namespace L2
open PySem PySem.Spec PyProof.Rows
section
variable {X : Cx} {tg : Expr}
theorem range_it {pins : List (Addr × Obj)} {σ : St} {H : Hp} {s : Shared} {R : It → Hp → Prop} {E : Value → Shared → Prop} {lo hi : Int} {t u v : Tok} {tk : Nat} (I : Inv X pins σ H s) (h1 : -(2 ^ 62) ≤ lo) (h2 : lo < 2 ^ 62) (h3 : -(2 ^ 62) ≤ hi) (h4 : hi < 2 ^ 62)
    (q : R (Itr lo (hi - lo).toNat) H) : wpAny (model X.prog X.w) X.A (pyIter (.ref s.heap.objs.size)) (PIE X pins σ tg R) E { s with heap := s.heap.push { cls := .type "range", data := .fields #[.int lo t, .int hi u, .int 1 v] }, toks := tk } := by
  refine wpAny_pyIter_range (IsRange.new ..) (small_one h1 h2 h3 h4) ?_
  have I1 : Inv X pins σ H { s with heap := s.heap.push { cls := .type "range", data := .fields #[.int lo t, .int hi u, .int 1 v] }, toks := tk } := I.kept fun b o e => Heap.get?_push_of_some _ e
  refine ⟨(s.heap.push { cls := .type "range", data := .fields #[.int lo t, .int hi u, .int 1 v] }).objs.size, [(s.heap.push { cls := .type "range", data := .fields #[.int lo t, .int hi u, .int 1 v] }).objs.size], _, _, H, rfl,
    I1.kept (t' := tk) fun b o e => Heap.get?_push_of_some _ e, turn_range _ lo (hi - lo).toNat, ?_, fun b hb => ?_, q⟩
  · have e1 : lo + ((0 : Nat) : Int) * 1 = lo := by simp
    have e2 : (((hi - lo).toNat : Nat) : Int) - ((0 : Nat) : Int) = Builtin.Range.rangeSize lo hi 1 := by rw [rangeSize_one]; split <;> omega
    show IsRangeIter _ _ (lo + ((0 : Nat) : Int) * 1) ((((hi - lo).toNat : Nat) : Int) - ((0 : Nat) : Int)) 1
    rw [e1, e2]
    exact Heap.get?_push_size _ rfl
  · have e : b = (s.heap.push { cls := .type "range", data := .fields #[.int lo t, .int hi u, .int 1 v] }).objs.size := by simpa using hb
    subst e
    exact I1.fpOk (Nat.le_refl _) (I1.hok.fresh (Nat.le_refl _))
noncomputable def iRng1 (ta : TA) : TI := fun σ H R => ta σ H fun vs H1 => ∃ j : Int, vs = [.int j] ∧ -(2 ^ 62) ≤ j ∧ j < 2 ^ 62 ∧ R (Itr 0 j.toNat) H1
theorem pi_range1 {a : Expr} {ta : TA} {p pos : Pos} (hg : Gl X "range") (hm : X.mg "range" = none) (ha : PA X [a] ta) (hs : starEach [a] X.env = [(false, eval a X.env)] := by rfl) : PI X tg (.Call (.Name "range" p) [a] [] pos) (iRng1 ta) := by
  intro pins s σ H R I h
  refine Call_ (ld_blt I hg hm boot_range (PyProof.Rows.callWith_type1 (thn (ha pos pins s σ H _ I h) fun us s1 hpt9 => ?_) hs rfl))
  obtain ⟨vs, H1, I1, r1, q1⟩ := hpt9
  obtain ⟨j, e, q1, q2, q⟩ := q1
  subst e
  cases r1 with
  | cons r rr =>
    cases rr
    obtain ⟨t, rfl⟩ := r
    exact call_range_1 (range_it I1 (by omega) (by omega) q1 q2 (by simpa using q))
noncomputable def tFor (wi : TI) (g : TG) (tb : TS) : TS := fun D σ H => wi σ H fun J H1 => ∃ W : Nat → Nat → St → Hp → Prop, (∃ m, W 0 m σ H1) ∧ ∀ i m σ H, W i m σ H →
  (J.stop i H ∧ D.nx σ H) ∨ (J.go i H ∧ ∃ N : St → Hp → Prop, (∀ σ' H', N σ' H' → ∃ m', m' < m ∧ W (i + 1) m' σ' H') ∧ ∀ x H', J.yld i H x H' → g x σ H' fun σ2 H2 => tb { D with nx := N, ct := N, bk := D.nx } σ2 H2)
noncomputable def pinsAt (fp : List Addr) (h : Heap) : List (Addr × Obj) := fp.filterMap fun b => (h.get? b).map fun o => (b, o)
theorem mem_pinsAt {fp : List Addr} {h : Heap} {b : Addr} {o : Obj} (hb : b ∈ fp) (e : h.get? b = some o) : (b, o) ∈ pinsAt fp h := List.mem_filterMap.mpr ⟨b, hb, by rw [e]; rfl⟩
theorem of_pinsAt {fp : List Addr} {h : Heap} {p : Addr × Obj} (hp : p ∈ pinsAt fp h) : p.1 ∈ fp ∧ h.get? p.1 = some p.2 := by
  obtain ⟨b, hb, e⟩ := List.mem_filterMap.mp hp
  cases q : h.get? b with
  | none => rw [q] at e; cases e
  | some o =>
    rw [q] at e
    have e' : (b, o) = p := Option.some.inj e
    subst e'
    exact ⟨hb, q⟩
theorem Inv.pinned {pins : List (Addr × Obj)} {σ : St} {H : Hp} {s : Shared} {fp : List Addr} (I : Inv X pins σ H s) (hf : ∀ b ∈ fp, FpOk X pins H b) (ho : ∀ b ∈ fp, ∃ o, s.heap.get? b = some o ∧ ∀ v, o.data ≠ .cell v) : Inv X (pins ++ pinsAt fp s.heap) σ H s :=
  I.pins_of fun p hp => (List.mem_append.mp hp).elim (fun z => I.pin p (List.mem_append_right _ z)) fun z => by
    obtain ⟨hb, e⟩ := of_pinsAt z
    obtain ⟨f0, f1, f2, _⟩ := hf p.1 hb
    obtain ⟨o, e', d⟩ := ho p.1 hb
    rw [e] at e'; cases e'
    exact ⟨e, f0, f1, f2, d⟩
theorem Inv.unpinned {pins pl : List (Addr × Obj)} {σ : St} {H : Hp} {s : Shared} (I : Inv X (pins ++ pl) σ H s) : Inv X pins σ H s := I.pins_of fun p hp => I.pin p (List.mem_append_right _ (List.mem_append_left _ hp))
theorem ps_for {iter : Expr} {body : List Stmt} {wi : TI} {g : TG} {tb : TS} {pos : Pos} (hp : PassesOwn (model X.prog X.w) X.A X.env X.xe) (hc : X.calm = true) (hi : PI X tg iter wi) (hg : PG X tg g) (hb : PSs X body tb)
    (hs : ∀ x, foldedSetIterable iter X.env x = pure x := by intro _; rfl) : PS X (.For tg iter body [] pos) (tFor wi g tb) := by
  intro pins s σ H D I h
  refine wpAny_For (thn (hi pins s σ H _ I h) fun v s1 h1 => thn h1 fun itv s2 h2 => ?_) hs
  obtain ⟨it, fp, tn, J, H2, e, I2, T, st2, f2, W, ⟨m0, w0⟩, turn⟩ := h2
  subst e
  -- what stays true of the iterator's objects through the loop
  have stat : ∀ {H' : Hp}, (∀ b ∈ fp, H' b = none) → ∀ b ∈ fp, FpOk X pins H' b := fun hn b hb => ⟨hn b hb, (f2 b hb).2⟩
  refine codeAny_forLoop_any (fun n s' => ∃ i σ' H', Inv X pins σ' H' s' ∧ tn i s'.heap ∧ (∀ b ∈ fp, H' b = none) ∧ W i n σ' H') ?_ m0 ⟨0, σ, H2, I2, st2, fun b hb => (f2 b hb).1, w0⟩
  rintro n s3 ⟨i, σ3, H3, I3, st3, fr3, w3⟩
  rcases turn i n σ3 H3 w3 with ⟨stop, qn⟩ | ⟨go, N, hN, step⟩
  · refine wpAny_passesOwn hp (thn (T.done X rfl rfl rfl hc i pins s3 σ3 H3 X.xe I3 (stat fr3) st3 stop) fun r s4 ⟨hr, I4⟩ => ?_)
    subst hr
    exact wpAny_execs_nil ⟨σ3, H3, I4, qn⟩
  · refine wpAny_passesOwn hp (thn (T.item X rfl rfl rfl hc i pins s3 σ3 H3 X.xe I3 (stat fr3) st3 go) fun r s4 ⟨u, hr, h4⟩ => ?_)
    subst hr
    refine wpAny_passesOwn hp (thn h4 fun _ s5 hpt9 => ?_)
    obtain ⟨x, H5, I5, r5, y5, st5, fr5⟩ := hpt9
    have I5' := I5.pinned (stat fr5) (T.obj _ _ st5)
    refine wpAny_passesOwn hp (thn (hg _ s5 σ3 H5 x u _ I5' r5 (step x H5 y5)) fun _ s6 hpt9 => ?_)
    obtain ⟨σ6, H6, I6, q6⟩ := hpt9
    refine wpAny_passesOwn hp (thn (hb _ s6 σ6 H6 _ I6 q6) fun f s7 q7 => ?_)
    have again : ∀ {σ7 : St} {H7 : Hp}, Inv X (pins ++ pinsAt fp s5.heap) σ7 H7 s7 → N σ7 H7 → ∃ m, m < n ∧ ∃ i σ' H', Inv X pins σ' H' s7 ∧ tn i s7.heap ∧ (∀ b ∈ fp, H' b = none) ∧ W i m σ' H' := fun {σ7 H7} I7 n7 => by
      obtain ⟨m', hm, w7⟩ := hN σ7 H7 n7
      refine ⟨m', hm, i + 1, σ7, H7, I7.unpinned, T.keep _ _ _ st5 fun b hb o e => (I7.pin (b, o) (List.mem_append_right _ (List.mem_append_right _ (mem_pinsAt hb e)))).1, fun b hb => ?_, w7⟩
      obtain ⟨o, e, d⟩ := T.obj _ _ st5 b hb
      exact (I7.pin (b, o) (List.mem_append_right _ (List.mem_append_right _ (mem_pinsAt hb e)))).2.1
    cases f with
    | next => obtain ⟨σ7, H7, I7, n7⟩ := q7; exact again I7 n7
    | cont => obtain ⟨σ7, H7, I7, n7⟩ := q7; exact again I7 n7
    | brk => obtain ⟨σ7, H7, I7, q7⟩ := q7; exact ⟨σ7, H7, I7.unpinned, q7⟩
    | ret v => obtain ⟨x7, σ7, H7, I7, r7, q7⟩ := q7; exact ⟨x7, σ7, H7, I7.unpinned, r7, q7⟩
end
end L2
namespace L2
open PySem PySem.Spec PyProof.Rows
noncomputable abbrev R2 := V → V → Hp → VK → Prop
noncomputable def OpR (X : Cx) (f : Value → Value → Sem Value) (r : R2) : Prop :=
  ∀ (pins : List (Addr × Obj)) (s : Shared) (σ : St) (H : Hp) (x y : V) (v u : Value) (Q : VK), Inv X pins σ H s → RelV x v → RelV y u → r x y H Q →
    wpAny (model X.prog X.w) X.A (f v u) (EP X pins σ Q) X.xe s
noncomputable def UnR (X : Cx) (f : Value → Sem Value) (r : V → Hp → VK → Prop) : Prop :=
  ∀ (pins : List (Addr × Obj)) (s : Shared) (σ : St) (H : Hp) (x : V) (v : Value) (Q : VK), Inv X pins σ H s → RelV x v → r x H Q →
    wpAny (model X.prog X.w) X.A (f v) (EP X pins σ Q) X.xe s
noncomputable def CallR (X : Cx) (f : Value) (r : List V → Hp → VK → Prop) : Prop :=
  ∀ (pins : List (Addr × Obj)) (s : Shared) (σ : St) (H : Hp) (xs : List V) (us : List Value) (Q : VK), Inv X pins σ H s → Vals xs us → r xs H Q →
    wpAny (model X.prog X.w) X.A (call f us) (EP X pins σ Q) X.xe s
noncomputable def TruR (X : Cx) (r : V → Hp → (Bool → Hp → Prop) → Prop) : Prop :=
  ∀ (pins : List (Addr × Obj)) (s : Shared) (σ : St) (H : Hp) (x : V) (v : Value) (Q : Bool → Hp → Prop), Inv X pins σ H s → RelV x v → r x H Q →
    wpAny (model X.prog X.w) X.A (truthy v) (TP X pins σ Q) X.xe s
noncomputable def tOp (r : R2) (ta tb : TE) : TE := fun σ H Q => ta σ H fun x H1 => tb σ H1 fun y H2 => r x y H2 Q
noncomputable def tUn (r : V → Hp → VK → Prop) (ta : TE) : TE := fun σ H Q => ta σ H fun x H1 => r x H1 Q
noncomputable def rI (C : Int → Int → Prop) (g : Int → Int → V) : R2 := fun x y H Q => ∃ i j, x = .int i ∧ y = .int j ∧ C i j ∧ Q (g i j) H
noncomputable def rI0 (g : Int → Int → V) : R2 := fun x y H Q => ∃ i j, x = .int i ∧ y = .int j ∧ Q (g i j) H
noncomputable def rU (g : Int → V) : V → Hp → VK → Prop := fun x H Q => ∃ i, x = .int i ∧ Q (g i) H
section
variable {X : Cx} {a b c : Expr} {ta tb tc : TE} {pos : Pos}
theorem binT (ha : PE X a ta) (hb : PE X b tb) {pins : List (Addr × Obj)} {s : Shared} {σ : St} {H : Hp} {R : V → V → Hp → Prop} (I : Inv X pins σ H s)
    (h : ta σ H fun x H1 => tb σ H1 fun y H2 => R x y H2) {Q : Value → Shared → Prop} {f : Value → Value → Sem Value}
    (hf : ∀ v u s2 x y H2, Inv X pins σ H2 s2 → RelV x v → RelV y u → R x y H2 → wpAny (model X.prog X.w) X.A (f v u) Q X.xe s2) :
    wpAny (model X.prog X.w) X.A (eval a X.env) (fun v s₁ => wpAny (model X.prog X.w) X.A (eval b X.env) (fun u s₂ => wpAny (model X.prog X.w) X.A (f v u) Q X.xe s₂) X.xe s₁) X.xe s := by
  refine thn (ha pins s σ H _ I h) fun v s1 hpt9 => ?_
  obtain ⟨x, H1, I1, r1, q1⟩ := hpt9
  refine thn (hb pins s1 σ H1 _ I1 q1) fun u s2 hpt9 => ?_
  obtain ⟨y, H2, I2, r2, q2⟩ := hpt9
  exact hf v u s2 x y H2 I2 r1 r2 q2
theorem pe_op {op : Operator} {r : R2} (ho : OpR X (binaryOp op) r) (ha : PE X a ta) (hb : PE X b tb) : PE X (.BinOp a op b pos) (tOp r ta tb) := by
  intro pins s σ H Q I h
  exact wpAny_BinOp (binT ha hb I h fun v u s2 x y H2 I2 rx ry q => ho pins s2 σ H2 x y v u Q I2 rx ry q)
theorem pe_un {op : UnaryOp} {r : V → Hp → VK → Prop} (ho : UnR X (unaryOp op) r) (ha : PE X a ta) : PE X (.UnaryOp op a pos) (tUn r ta) := by
  intro pins s σ H Q I h
  exact UnaryOp_ (thn (ha pins s σ H _ I h) fun v s1 ⟨x, H1, I1, r1, q1⟩ => ho pins s1 σ H1 x v Q I1 r1 q1)
theorem opI {f : Value → Value → Sem Value} {C : Int → Int → Prop} {g : Int → Int → Int}
    (rule : ∀ (i j : Int) (t u : Tok) (s : Shared) (Q : Value → Shared → Prop) (E : Value → Shared → Prop), C i j → Q (.int (g i j) s.toks) { s with toks := s.toks + 1 } → wpAny (model X.prog X.w) X.A (f (.int i t) (.int j u)) Q E s) :
    OpR X f (rI C fun i j => .int (g i j)) := by
  intro pins s σ H x y v u Q I rx ry h
  obtain ⟨i, j, rfl, rfl, hc, q⟩ := h
  obtain ⟨t, rfl⟩ := rx
  obtain ⟨t', rfl⟩ := ry
  exact rule i j t t' s _ _ hc ⟨.int (g i j), H, I.tok _, ⟨_, rfl⟩, q⟩
theorem opI0 {f : Value → Value → Sem Value} {g : Int → Int → Int}
    (rule : ∀ (i j : Int) (t u : Tok) (s : Shared) (Q : Value → Shared → Prop) (E : Value → Shared → Prop), Q (.int (g i j) s.toks) { s with toks := s.toks + 1 } → wpAny (model X.prog X.w) X.A (f (.int i t) (.int j u)) Q E s) :
    OpR X f (rI0 fun i j => .int (g i j)) := by
  intro pins s σ H x y v u Q I rx ry h
  obtain ⟨i, j, rfl, rfl, q⟩ := h
  obtain ⟨t, rfl⟩ := rx
  obtain ⟨t', rfl⟩ := ry
  exact rule i j t t' s _ _ ⟨.int (g i j), H, I.tok _, ⟨_, rfl⟩, q⟩
theorem opB0 {f : Value → Value → Sem Value} {g : Int → Int → Bool}
    (rule : ∀ (i j : Int) (t u : Tok) (s : Shared) (Q : Value → Shared → Prop) (E : Value → Shared → Prop), Q (.bool (g i j)) s → wpAny (model X.prog X.w) X.A (f (.int i t) (.int j u)) Q E s) :
    OpR X f (rI0 fun i j => .bl (g i j)) := by
  intro pins s σ H x y v u Q I rx ry h
  obtain ⟨i, j, rfl, rfl, q⟩ := h
  obtain ⟨t, rfl⟩ := rx
  obtain ⟨t', rfl⟩ := ry
  exact rule i j t t' s _ _ ⟨.bl (g i j), H, I, rfl, q⟩
noncomputable def CDiv (i j : Int) : Prop := 0 < j ∧ j < 1073741824
noncomputable def CPow (i j : Int) : Prop := 0 ≤ j ∧ j ≤ 1000000 ∧ i.natAbs < 2 ^ 64
noncomputable def CMul (i j : Int) : Prop := (-(2 ^ 64) < i ∧ i < 2 ^ 64) ∨ (-(2 ^ 64) < j ∧ j < 2 ^ 64)
theorem CMul.ok {i j : Int} (h : CMul i j) : IntMulOk i j := by
  rcases h with ⟨h1, h2⟩ | ⟨h1, h2⟩
  · exact .of_left (intBits_le_64 h1 h2)
  · exact .of_right (intBits_le_64 h1 h2)
theorem op_add : OpR X (binaryOp .Add) (rI0 fun i j => .int (i + j)) := opI0 fun _ _ _ _ _ _ _ q => add_int q
theorem op_sub : OpR X (binaryOp .Sub) (rI0 fun i j => .int (i - j)) := opI0 fun _ _ _ _ _ _ _ q => sub_int q
theorem op_mul : OpR X (binaryOp .Mult) (rI CMul fun i j => .int (i * j)) := opI fun _ _ _ _ _ _ _ hc q => mul_int q hc.ok
theorem op_fdiv : OpR X (binaryOp .FloorDiv) (rI CDiv fun i j => .int (i / j)) := opI fun i j _ _ _ _ _ hc q => by
  have h1 : (0 : Int) < j := hc.1
  have h2 : j < 1073741824 := hc.2
  exact floordiv_int (by omega) (by rw [Int.fdiv_eq_ediv_of_nonneg i (by omega)]; exact q) (.inl (PyProof.noPylong_small (by omega)))
theorem op_mod : OpR X (binaryOp .Mod) (rI (fun _ j => 0 < j) fun i j => .int (i % j)) := opI fun i j _ _ _ _ _ hc q => by
  have h1 : (0 : Int) < j := hc
  exact mod_int' (by omega) (by rw [Int.fmod_eq_emod_of_nonneg i (by omega)]; exact q)
theorem op_pow : OpR X (binaryOp .Pow) (rI CPow fun i j => .int (i ^ j.toNat)) := opI fun _ _ _ _ _ _ _ hc q => pow_int_small hc.1 hc.2.1 hc.2.2 q
theorem unI {f : Value → Sem Value} {g : Int → Int}
    (rule : ∀ (i : Int) (t : Tok) (s : Shared) (Q : Value → Shared → Prop) (E : Value → Shared → Prop), Q (.int (g i) s.toks) { s with toks := s.toks + 1 } → wpAny (model X.prog X.w) X.A (f (.int i t)) Q E s) :
    UnR X f (rU fun i => .int (g i)) := by
  intro pins s σ H x v Q I rx h
  obtain ⟨i, rfl, q⟩ := h
  obtain ⟨t, rfl⟩ := rx
  exact rule i t s _ _ ⟨.int (g i), H, I.tok _, ⟨_, rfl⟩, q⟩
theorem un_neg : UnR X (unaryOp .USub) (rU fun i => .int (-i)) := unI fun _ _ _ _ _ q => neg_int q
end
section
variable {X : Cx} {a b c : Expr} {ta tb tc : TE} {pos : Pos}
theorem fin_bl {pins : List (Addr × Obj)} {σ : St} {H : Hp} {s : Shared} {Q : VK} {k k' : Bool} (I : Inv X pins σ H s) (q : Q (.bl k) H) (e : k = k') : EP X pins σ Q (.bool k') s := by
  subst e
  exact ⟨.bl k, H, I, rfl, q⟩
theorem op_lt : OpR X (compareOp .Lt) (rI0 fun i j => .bl (decide (i < j))) := opB0 fun _ _ _ _ _ _ _ q => lt_int q
theorem op_le : OpR X (compareOp .LtE) (rI0 fun i j => .bl (decide (i ≤ j))) := opB0 fun _ _ _ _ _ _ _ q => le_int q
theorem op_gt : OpR X (compareOp .Gt) (rI0 fun i j => .bl (decide (j < i))) := opB0 fun _ _ _ _ _ _ _ q => gt_int q
theorem op_in_str : OpR X (compareOp .In) (fun x y H Q => ∃ i j, x = .str i ∧ y = .str j ∧ Q (.bl (!(Builtin.Str.occurrences j i 0 j.length 1).isEmpty)) H) := by
  intro pins s σ H x y v u Q I rx ry h
  obtain ⟨i, j, rfl, rfl, q⟩ := h
  obtain ⟨t, rfl⟩ := rx
  obtain ⟨t', rfl⟩ := ry
  exact in_str (fin_bl I q rfl)
theorem OpR.or {f : Value → Value → Sem Value} {r r' : R2} (h : OpR X f r) (h' : OpR X f r') : OpR X f (fun x y H Q => r x y H Q ∨ r' x y H Q) := by
  intro pins s σ H x y v u Q I rx ry q
  rcases q with q | q
  · exact h pins s σ H x y v u Q I rx ry q
  · exact h' pins s σ H x y v u Q I rx ry q
theorem nomark (b : Expr) {op : CmpOp} (h : op ≠ .In := by decide) (h2 : op ≠ .NotIn := by decide) : behindInMarks op b = false := by
  have e1 : (op == CmpOp.In) = false := by cases op <;> first | rfl | exact absurd rfl h
  have e2 : (op == CmpOp.NotIn) = false := by cases op <;> first | rfl | exact absurd rfl h2
  cases b <;> simp [behindInMarks, e1, e2]
theorem pe_cmpR {op : CmpOp} {r : R2} (ho : OpR X (compareOp op) r) (ha : PE X a ta) (hb : PE X b tb) (hm : behindInMarks op b = false) : PE X (.Compare a [op] [b] pos) (tOp r ta tb) := by
  intro pins s σ H Q I h
  exact wpAny_Compare1 (binT ha hb I h fun v u s2 x y H2 I2 rx ry q => ho pins s2 σ H2 x y v u Q I2 rx ry q) hm
noncomputable def tTest (t : TE) : TT := fun σ H Q => t σ H fun x H' => ∃ k, x = .bl k ∧ Q k H'
theorem pt_cmpR {op : CmpOp} {r : R2} (ho : OpR X (compareOp op) r) (ha : PE X a ta) (hb : PE X b tb) (hm : behindInMarks op b = false) : PT X (.Compare a [op] [b] pos) (tTest (tOp r ta tb)) := by
  intro pins s σ H Q I h
  refine wpAny_isTrue_Compare1 (thn (ha pins s σ H _ I h) fun v s1 ⟨x, H1, I1, r1, q1⟩ => thn (hb pins s1 σ H1 _ I1 q1) fun u s2 ⟨y, H2, I2, r2, q2⟩ =>
    thn (ho pins s2 σ H2 x y v u _ I2 r1 r2 q2) fun c s3 ⟨z, H3, I3, r3, k, e, q3⟩ => ?_) hm
  subst e
  cases r3
  exact wpAny_truthy_bool ⟨H3, I3, q3⟩
noncomputable def TruV (K : PySem.W.Frag) (x : V) (H : Hp) (k : Bool) : Prop :=
  match x with
  | .non => k = false
  | .bl b => k = b
  | .int i => k = (i != 0)
  | .str y => y.length ≤ sizeLine ∧ k = ((y.length : Int) != 0)
  | .byt y => y.size ≤ sizeLine ∧ k = ((y.size : Int) != 0)
  | .ref p => (∃ xs, SqL K H p xs ∧ k = !xs.isEmpty) ∨ (∃ xs, SqT K H p xs ∧ k = !xs.isEmpty) ∨ ∃ kvs, H p = some (.dK kvs) ∧ k = !kvs.isEmpty
  | _ => False
theorem isEmpty_kv {κ : Type} {kvs : List (κ × V)} {vs : List (κ × Value)} (r : KV kvs vs) : (!vs.isEmpty) = !kvs.isEmpty := by
  cases r <;> rfl
theorem isEmpty_of {xs : List V} {its : List Value} (r : Vals xs its) : (!its.toArray.isEmpty) = !xs.isEmpty := by
  cases r <;> simp
theorem line63 : (sizeLine : Nat) < 2 ^ 63 := by rw [sizeLine_eq]; decide
theorem tru_ok : TruR X (fun x H Q => ∃ k, TruV X.K x H k ∧ Q k H) := by
  intro pins s σ H x v Q I rx h
  obtain ⟨k, e, q⟩ := h
  have hl := line63
  have hs : sizeLine = 16777216 := sizeLine_eq
  cases x with
  | non =>
    cases rx
    have e' : k = false := e
    subst e'
    exact truthy_none ⟨H, I, q⟩
  | bl b =>
    cases rx
    have e' : k = b := e
    subst e'
    exact wpAny_truthy_bool ⟨H, I, q⟩
  | int i =>
    obtain ⟨t, rfl⟩ := rx
    have e' : k = (i != 0) := e
    subst e'
    exact PySem.P.truthy_int ⟨H, I, q⟩
  | str y =>
    obtain ⟨t, rfl⟩ := rx
    obtain ⟨hy, e'⟩ : y.length ≤ sizeLine ∧ k = ((y.length : Int) != 0) := e
    subst e'
    exact PySem.P.truthy_str (by omega) ⟨H, I.tok _, q⟩
  | byt y =>
    obtain ⟨t, rfl⟩ := rx
    obtain ⟨hy, e'⟩ : y.size ≤ sizeLine ∧ k = ((y.size : Int) != 0) := e
    subst e'
    exact PySem.W.truthy_bytes (by omega) ⟨H, I.tok _, q⟩
  | ref p =>
    cases rx
    have e' : (∃ xs, SqL X.K H p xs ∧ k = !xs.isEmpty) ∨ (∃ xs, SqT X.K H p xs ∧ k = !xs.isEmpty) ∨ ∃ kvs, H p = some (.dK kvs) ∧ k = !kvs.isEmpty := e
    rcases e' with ⟨xs, hx, e'⟩ | ⟨xs, hx, e'⟩ | ⟨kvs, hx, e'⟩
    · subst e'
      obtain ⟨its, r, pl, hz⟩ := I.list hx
      have hlen := r.length
      exact wpAny_truthy_list pl.isList (by simp only [List.size_toArray]; omega) ⟨H, I.tok _, by rw [isEmpty_of r]; exact q⟩
    · subst e'
      obtain ⟨its, r, pl, hz⟩ := I.tuple hx
      have hlen := r.length
      exact truthy_tuple pl (by simp only [List.size_toArray]; omega) ⟨H, I.tok _, by rw [isEmpty_of r]; exact q⟩
    · subst e'
      obtain ⟨hz, hS, vs, r, m⟩ : kvs.length ≤ sizeLine ∧ (p == sysModules) = false ∧ ∃ vs, KV kvs vs ∧ s.heap.DictOf (mixKind X.prog X.w) p vs := I.hok p _ hx
      have hlen : kvs.length = vs.length := Paired.length r
      exact wpAny_truthy_dict hS m (by omega) ⟨H, I.tok _, by rw [isEmpty_kv r]; exact q⟩
  | _ => exact (show False from e).elim
theorem pt_truth (ha : PE X a ta) (he : ∀ whole, isTrue a X.env whole = (do let v ← whole; standAt a.pos; holding [v] (truthy v))) :
    PT X a (fun σ H Q => ta σ H fun x H' => ∃ k, TruV X.K x H' k ∧ Q k H') := by
  intro pins s σ H Q I h
  exact isTrue_plain (thn (ha pins s σ H _ I h) fun v s1 ⟨x, H1, I1, r1, q1⟩ => tru_ok pins s1 σ H1 x v Q I1 r1 q1) (he _)
theorem op_add_str : OpR X (binaryOp .Add) (fun x y H Q => ∃ i j, x = .str i ∧ y = .str j ∧ i.length + j.length ≤ sizeLine ∧ Q (.str (i ++ j)) H) := by
  intro pins s σ H x y v u Q I rx ry h
  obtain ⟨i, j, rfl, rfl, hz, q⟩ := h
  obtain ⟨t, rfl⟩ := rx
  obtain ⟨t', rfl⟩ := ry
  exact add_str (fun t' tk => ⟨.str (i ++ j), H, I.tok _, ⟨_, rfl⟩, q⟩) hz
theorem vals1 {x : V} {us : List Value} (r : Vals [x] us) : ∃ u, us = [u] ∧ RelV x u := by
  cases r with
  | cons r1 r2 => cases r2; exact ⟨_, rfl, r1⟩
theorem vals2 {x y : V} {us : List Value} (r : Vals [x, y] us) : ∃ u w', us = [u, w'] ∧ RelV x u ∧ RelV y w' := by
  cases r with
  | cons r1 r2 =>
    cases r2 with
    | cons r3 r4 => cases r4; exact ⟨_, _, rfl, r1, r3⟩
theorem call_abs : CallR X (.builtin "abs") (fun xs H Q => ∃ i, xs = [.int i] ∧ Q (.int (if i < 0 then -i else i)) H) := by
  intro pins s σ H xs us Q I r h
  obtain ⟨i, rfl, q⟩ := h
  obtain ⟨u, rfl, t, rfl⟩ := vals1 r
  exact call_abs_int fun u tk => ⟨.int (if i < 0 then -i else i), H, I.tok _, ⟨_, rfl⟩, q⟩
theorem call_max2 (hc : X.calm = true) : CallR X (.builtin "max") (fun xs H Q => ∃ i j, xs = [.int i, .int j] ∧ Q (.int (if j > i then j else i)) H) := by
  intro pins s σ H xs us Q I r h
  obtain ⟨i, j, rfl, q⟩ := h
  obtain ⟨u, w', rfl, ⟨t, rfl⟩, ⟨t', rfl⟩⟩ := vals2 r
  refine max_two_ints (I.ok.hd hc) fun h' tk k => ⟨_, H, I.kept k, ?_, q⟩
  by_cases hj : j > i
  · rw [if_pos hj, if_pos hj]; exact ⟨_, rfl⟩
  · rw [if_neg hj, if_neg hj]; exact ⟨_, rfl⟩
theorem call_min2 (hc : X.calm = true) : CallR X (.builtin "min") (fun xs H Q => ∃ i j, xs = [.int i, .int j] ∧ Q (.int (if j < i then j else i)) H) := by
  intro pins s σ H xs us Q I r h
  obtain ⟨i, j, rfl, q⟩ := h
  obtain ⟨u, w', rfl, ⟨t, rfl⟩, ⟨t', rfl⟩⟩ := vals2 r
  refine min_two_ints (I.ok.hd hc) fun h' tk k => ⟨_, H, I.kept k, ?_, q⟩
  by_cases hj : j < i
  · rw [if_pos hj, if_pos hj]; exact ⟨_, rfl⟩
  · rw [if_neg hj, if_neg hj]; exact ⟨_, rfl⟩
theorem call_str_int : CallR X (.type "str") (fun xs H Q => ∃ i, xs = [.int i] ∧ i.natAbs.log2 < 1920 ∧ Q (.str (toString i)) H) := by
  intro pins s σ H xs us Q I r h
  obtain ⟨i, rfl, hz, q⟩ := h
  obtain ⟨u, rfl, t, rfl⟩ := vals1 r
  exact PySem.P.str_of_int hz ⟨.str _, H, I.tok _, ⟨_, rfl⟩, q⟩
noncomputable def LenV (K : PySem.W.Frag) (x : V) (H : Hp) (n : Nat) : Prop :=
  match x with
  | .str y => y.length ≤ sizeLine ∧ n = y.length
  | .byt y => y.size ≤ sizeLine ∧ n = y.size
  | .ref p => (∃ xs, SqL K H p xs ∧ n = xs.length) ∨ ∃ xs, SqT K H p xs ∧ n = xs.length
  | _ => False
theorem call_len : CallR X (.builtin "len") (fun xs H Q => ∃ x n, xs = [x] ∧ LenV X.K x H n ∧ Q (.int n) H) := by
  intro pins s σ H xs us Q I r h
  obtain ⟨x, n, rfl, e, q⟩ := h
  obtain ⟨u, rfl, rx⟩ := vals1 r
  have hl := line63
  have hs : sizeLine = 16777216 := sizeLine_eq
  cases x with
  | str y =>
    obtain ⟨t, rfl⟩ := rx
    obtain ⟨hy, e'⟩ : y.length ≤ sizeLine ∧ n = y.length := e
    subst e'
    exact len_str (by omega) ⟨.int _, H, I.tok _, ⟨_, rfl⟩, q⟩
  | byt y =>
    obtain ⟨t, rfl⟩ := rx
    obtain ⟨hy, e'⟩ : y.size ≤ sizeLine ∧ n = y.size := e
    subst e'
    exact PySem.W.len_bytes (by omega) ⟨.int _, H, I.tok _, ⟨_, rfl⟩, q⟩
  | ref p =>
    cases rx
    have e' : (∃ xs, SqL X.K H p xs ∧ n = xs.length) ∨ ∃ xs, SqT X.K H p xs ∧ n = xs.length := e
    rcases e' with ⟨xs, hx, e'⟩ | ⟨xs, hx, e'⟩
    · subst e'
      obtain ⟨its, r', pl, hz⟩ := I.list hx
      have hlen := r'.length
      exact Calls.call_len_list pl.isList (by simp only [List.size_toArray]; omega) ⟨.int xs.length, H, I.tok _, ⟨_, by simp only [List.size_toArray]; rw [hlen]⟩, q⟩
    · subst e'
      obtain ⟨its, r', pl, hz⟩ := I.tuple hx
      have hlen := r'.length
      exact len_tuple pl (by simp only [List.size_toArray]; omega) ⟨.int xs.length, H, I.tok _, ⟨_, by simp only [List.size_toArray]; rw [hlen]⟩, q⟩
  | _ => exact (show False from e).elim
end
end L2
namespace L2
open PySem PySem.Spec PyProof.Rows
structure ObjM (h : Heap) (x dx C : Addr) (mA : Str → Option Value) : Prop where
  obj : h.get? x = some (PySem.W.instObj C dx)
  ns : h.Ns1 dx mA
  ne : dx ≠ x
theorem lookIn_ns {h : Heap} {dx : Addr} {mA : Str → Option Value} (n : h.Ns1 dx mA) : ∃ od, h.get? dx = some od ∧ ∀ name, PySem.W.lookIn name od = some (mA name) := by
  obtain ⟨o, es, ep, ho, hd, hk, _, hm⟩ := n
  refine ⟨o, ho, fun name => ?_⟩
  have e := hm name
  unfold nsFind findBy at e
  rw [← Array.find?_toList] at e
  unfold PySem.W.lookIn
  rw [hd]
  dsimp only
  split
  · rename_i y q
    rw [q] at e
    exact congrArg some e
  · rename_i q
    rw [q] at e
    have a : es.toList.any (·.refKey) = false := by
      rw [List.any_eq_false]
      intro y hy
      obtain ⟨z, t, hkey⟩ := hk y (Array.mem_toList_iff.mp hy)
      simp [DictEntry.refKey, hkey]
    have a' : ¬ es.toList.any (·.refKey) = true := by rw [a]; exact Bool.false_ne_true
    rw [if_neg a']
    exact congrArg some e
theorem ObjM.look {h : Heap} {x dx C : Addr} {mA : Str → Option Value} (I : ObjM h x dx C mA) : ∃ od, PySem.W.InstAt h x (PySem.W.instObj C dx) C (some od) ∧ ∀ name, PySem.W.lookIn name od = some (mA name) :=
  let ⟨od, ho, hl⟩ := lookIn_ns I.ns
  ⟨od, ⟨I.obj, rfl, rfl, ho⟩, hl⟩
section
variable {prog : Program} {w : World} {A : Around} {E : Value → Shared → Prop} {s : Shared} {K : PySem.W.Frag} {x dx C f : Addr} {mA : Str → Option Value} {name : Str} {v : Value}
end
section
variable {P : Program} {w : World} {H H' : Hp} {h h' : Heap} {a C dx : Addr} {fs fs' : List (Str × V)}
theorem ins_get (hok : HOk P w H h) (e : H a = some (.ins C dx fs)) : ∃ mA, ObjM h a dx C mA ∧ (∀ f, RelO (fs.lookup f) (mA f)) ∧ PySem.Within mA (fs.map (·.1)) ∧ fs.length ≤ 1000 ∧ H dx = some (.own a) := by
  obtain ⟨d, z, ne, ob, mA, n, r, q⟩ := (show ObjOk P w H h a (.ins C dx fs) from hok a _ e)
  exact ⟨mA, ⟨ob, n, ne⟩, r, q, z, d⟩
end
structure Cls (K : PySem.W.Frag) (C : Addr) : Prop where
  pg : PySem.W.plainGet K C Str.empty = true
  hd : PySem.W.hasDictIn K C = true
  po : PySem.W.plainOver K C = true
  sa : PySem.W.findIn K (.ref C) "__setattr__" = some (some (.builtin "object.__setattr__"))
theorem Cls.get {K : PySem.W.Frag} {C : Addr} (c : Cls K C) (f : Str) : PySem.W.plainGet K C f = true := c.pg
structure Con (K : PySem.W.Frag) (C : Addr) (f : Str) (v : V) (u : Value) : Prop where
  at_ : PySem.W.findIn K (.ref C) f = some (some u)
  rel : RelV v u
  get : PySem.W.specialIn K u "__get__" = some none
  cp : PySem.W.copiedNames.contains f = false
structure Meth (K : PySem.W.Frag) (C : Addr) (m : Str) (f : Addr) : Prop where
  at_ : PySem.W.findIn K (.ref C) m = some (some (.ref f))
  fn : PySem.W.isFn K (.ref f) = true
  kp : PySem.W.keepIn K (.ref f) = true
section
variable {X : Cx} {pins : List (Addr × Obj)} {σ : St} {H : Hp} {s : Shared} {a C dx : Addr} {fs : List (Str × V)} {f : Str} {v : V} {A : Around} {E : Value → Shared → Prop}
end
section
variable {X : Cx} {o e value : Expr} {f : Str} {pos pos' tpos : Pos} {ta tv : TE}
end
section
variable {X : Cx} {pins : List (Addr × Obj)} {σ : St} {H : Hp} {s : Shared} {A : Around} {E : Value → Shared → Prop} {Q : Value → Shared → Prop} {c : Value} {b : Bool}
inductive TyOf (K : PySem.W.Frag) (H : Hp) : V → Value → Prop where
  | non : TyOf K H .non (.type "NoneType")
  | bl (x : Bool) : TyOf K H (.bl x) (.type "bool")
  | int (i : Int) : TyOf K H (.int i) (.type "int")
  | str (x : Str) : TyOf K H (.str x) (.type "str")
  | flt (x : UInt64) : TyOf K H (.flt x) (.type "float")
  | lst {a : Addr} {xs : List V} (e : H a = some (.lst xs)) : TyOf K H (.ref a) (.type "list")
  | frz {a : Addr} {o : Obj} {xs : List V} (e : H a = some (.frz o (.lst xs))) : TyOf K H (.ref a) (.type "list")
  | tup {a : Addr} {xs : List V} (e : H a = some (.tup xs)) : TyOf K H (.ref a) (.type "tuple")
  | dK {a : Addr} {kvs : List (Key × V)} (e : H a = some (.dK kvs)) : TyOf K H (.ref a) (.type "dict")
  | dT {a : Addr} {kvs : List (List Key × V)} (e : H a = some (.dT kvs)) : TyOf K H (.ref a) (.type "dict")
  | ins {a C dx : Addr} {fs : List (Str × V)} (e : H a = some (.ins C dx fs)) (cl : Cls K C) (ha : PySem.W.findIn K (.ref C) "__class__" = some (some (.builtin "object.__class__")))
      (hn : PySem.W.specialIn K (.builtin "object.__class__") "__get__" = some (some (.builtin "getset_descriptor.__get__"))) (htk : PySem.W.takesIn K (.builtin "object.__class__") = some true)
      (hm : PySem.W.mroIn K C (.type "object") = some true) : TyOf K H (.ref a) (.ref C)
theorem isinst_ok {x : V} {u t : Value} (I : Inv X pins σ H s) (rx : RelV x u) (ty : TyOf X.K H x t) (e : PySem.W.kitOne X.K t c = some b) (h : ∀ tk, Q (.bool b) { s with toks := tk }) :
    wpAny (model X.prog X.w) A (call (.builtin "isinstance") [u, c]) Q E s := by
  cases ty with
  | non => cases (show u = Value.none from rx); exact PySem.W.kia_one PySem.W.kitx_none I.kIn True.intro e (fun z => nomatch z) h
  | bl y => cases (show u = Value.bool y from rx); exact PySem.W.kia_one PySem.W.kitx_bool I.kIn True.intro e (fun z => nomatch z) h
  | int i => obtain ⟨t, q⟩ := (show ∃ t, u = Value.int i t from rx); cases q; exact PySem.W.kia_one PySem.W.kitx_int I.kIn True.intro e (fun z => nomatch z) h
  | str y => obtain ⟨t, q⟩ := (show ∃ t, u = Value.str y t from rx); cases q; exact PySem.W.kia_one PySem.W.kitx_str I.kIn True.intro e (fun z => nomatch z) h
  | flt y => obtain ⟨t, q⟩ := (show ∃ t, u = Value.float y t from rx); cases q; exact PySem.W.kia_one PySem.W.kitx_float I.kIn True.intro e (fun z => nomatch z) h
  | @lst a xs ea =>
    cases (show u = Value.ref a from rx)
    obtain ⟨_, _, n, _, h1⟩ := (show ObjOk X.prog X.w H s.heap a (.lst xs) from I.hok a _ ea)
    exact PySem.W.kia_one PySem.W.kitx_list I.kIn ⟨_, h1, rfl⟩ e (fun z => nomatch z) h
  | @frz a ob xs ea =>
    cases (show u = Value.ref a from rx)
    obtain ⟨_, _, _, n, _, h1⟩ := (show ObjOk X.prog X.w H s.heap a (.frz ob (.lst xs)) from I.hok a _ ea)
    exact PySem.W.kia_one PySem.W.kitx_list I.kIn ⟨_, h1, rfl⟩ e (fun z => nomatch z) h
  | @tup a xs ea =>
    cases (show u = Value.ref a from rx)
    obtain ⟨_, _, _, p⟩ := (show ObjOk X.prog X.w H s.heap a (.tup xs) from I.hok a _ ea)
    obtain ⟨o, h1, h2, _⟩ := p
    exact PySem.W.kia_one PySem.W.kitx_tuple I.kIn ⟨o, h1, h2⟩ e (fun z => nomatch z) h
  | @dK a kvs ea =>
    cases (show u = Value.ref a from rx)
    obtain ⟨_, _, vs, _, p⟩ := (show ObjOk X.prog X.w H s.heap a (.dK kvs) from I.hok a _ ea)
    obtain ⟨o, es, ep, h1, h2, _⟩ := p
    exact PySem.W.kia_one PySem.W.kitx_dict I.kIn ⟨o, h1, h2.1⟩ e (fun z => nomatch z) h
  | @dT a kvs ea =>
    cases (show u = Value.ref a from rx)
    obtain ⟨_, _, xs, _, o, es, ep, h1, h2, _⟩ := (show ObjOk X.prog X.w H s.heap a (.dT kvs) from I.hok a _ ea)
    exact PySem.W.kia_one PySem.W.kitx_dict I.kIn ⟨o, h1, h2.1⟩ e (fun z => nomatch z) h
  | @ins a C dx fs ea cl ha hn htk hm =>
    cases (show u = Value.ref a from rx)
    obtain ⟨mA, O, _⟩ := ins_get I.hok ea
    obtain ⟨od, J, _⟩ := O.look
    exact PySem.W.kia_one (PySem.W.kitx_own (cl.get _) cl.hd ha hn htk hm) I.kIn J e (fun z => nomatch z) h
end
end L2
namespace L2
open PySem PySem.Spec PyProof.Rows
structure Room (k : Nat) (A : Around) : Prop where
  hd : A.handled = none
  dp : A.depth + 3 * k + 5 < recursionLimit
  un : A.units + 16 * k + 200 < cLine
theorem Room.mono {j k : Nat} {A : Around} (r : Room k A) (h : j ≤ k) : Room j A := ⟨r.hd, by have := r.dp; omega, by have := r.un; omega⟩
theorem Room.deeper {k : Nat} {A : Around} (r : Room (k + 1) A) (env : Env) : Room k (A.deeper env) :=
  ⟨r.hd, by have := r.dp; show A.depth + 1 + 3 * k + 5 < _; omega, by have := r.un; show A.units + 3 + 16 * k + 200 < _; omega⟩
theorem Room.depth {k : Nat} {A : Around} (r : Room k A) : A.depth < recursionLimit := by have := r.dp; omega
theorem Room.units {k : Nat} {A : Around} (r : Room k A) : A.units + 64 < cLine := by have := r.un; omega
noncomputable def tNil : TA := fun _ H Q => Q [] H
noncomputable def tCons (ta : TE) (tr : TA) : TA := fun σ H Q => ta σ H fun x H1 => tr σ H1 fun xs H2 => Q (x :: xs) H2
section
variable {X : Cx} {e : Expr} {es : List Expr} {te : TE} {t : TA} {pos : Pos}
theorem pa_nil : PA X [] tNil := fun _ _ _ _ H Q I h => Calls.spliced_nil ⟨[], H, I, .nil, h⟩
theorem pa_cons (ha : PE X e te) (hr : PA X es t) (hs : starEach (e :: es) X.env = (false, eval e X.env) :: starEach es X.env := by rfl) : PA X (e :: es) (tCons te t) := by
  intro pos pins s σ H Q I h
  rw [hs]
  show wpAny _ _ (spliced ((false, eval e X.env) :: backTo pos (starEach es X.env))) _ _ s
  refine Calls.spliced_cons (thn (ha pins s σ H _ I h) fun u s1 hpt9 => ?_)
  obtain ⟨x, H1, I1, r1, q1⟩ := hpt9
  exact thn (hr pos pins s1 σ H1 _ I1 q1) fun us s2 ⟨xs, H2, I2, r2, q2⟩ => ⟨x :: xs, H2, I2, .cons r1 r2, q2⟩
noncomputable def tTup (t : TA) : TE := fun σ H Q => t σ H fun xs H1 => xs.length ≤ sizeLine ∧ ∀ p, H1 p = none → Q (.ref p) (upd H1 p (.tup xs))
noncomputable def tLst (t : TA) : TE := fun σ H Q => t σ H fun xs H1 => xs.length ≤ sizeLine ∧ ∀ p, H1 p = none → Q (.ref p) (upd H1 p (.lst xs))
theorem pe_tup {x1} (h : PA X es t) : PE X (.Tuple es x1 pos) (tTup t) := by
  intro pins s σ H Q I hq
  refine wpAny_Tuple_spliced (thn (h pos pins s σ H _ I hq) fun us s1 ⟨xs, H1, I1, r, z, q⟩ => ⟨by rw [← r.length]; exact z, ?_⟩)
  have hf : H1 s1.heap.objs.size = none := I1.hok.fresh (Nat.le_refl _)
  refine ⟨.ref s1.heap.objs.size, upd H1 s1.heap.objs.size (.tup xs), I1.laid (t' := s1.toks) (fun b u e => Heap.get?_push_of_some _ e) (Nat.le_refl _) ?_, rfl, q _ hf⟩
  exact ⟨z, us, r, ⟨_, Heap.get?_push_size _ rfl, rfl, _, rfl⟩⟩
theorem pe_lst (h : PA X es t) : PE X (.List es pos) (tLst t) := by
  intro pins s σ H Q I hq
  refine wpAny_List_spliced (thn (h pos pins s σ H _ I hq) fun us s1 ⟨xs, H1, I1, r, z, q⟩ => ⟨by rw [← r.length]; exact z, ?_⟩)
  have hf : H1 s1.heap.objs.size = none := I1.hok.fresh (Nat.le_refl _)
  refine ⟨.ref s1.heap.objs.size, upd H1 s1.heap.objs.size (.lst xs), I1.laid (t' := s1.toks) (fun b u e => Heap.get?_push_of_some _ e) (Nat.le_refl _) ?_, rfl, q _ hf⟩
  exact ⟨z, us, 0, r, Heap.get?_push_size _ rfl⟩
end
noncomputable abbrev Sp := List V → Hp → VK → XK → Prop
noncomputable abbrev CXT := List Env → Hp → Shared → XK → Value → Shared → Prop
structure Env0 (P : Program) (w : World) (K : PySem.W.Frag) (mg : Str → Option Value) (base : Heap) (A : Around) (outer : List Env) (s : Shared) (H : Hp) : Prop where
  frames : A.frames = some outer
  mod : Mod K mg base
  bs : ∀ b o, base.get? b = some o → s.heap.get? b = some o ∧ H b = none
  bsz : base.objs.size ≤ s.heap.objs.size
  funs : s.heap.FunFrames base outer
  frf : ∀ b ∈ frs outer, H b = none
  hok : HOk P w H s.heap
  bare : AllBare s.gens
noncomputable def CE (outer : List Env) (P : Program) (w : World) (H : Hp) (s : Shared) (Q : VK) (u : Value) (s' : Shared) : Prop :=
  ∃ v H', s'.os = s.os ∧ AllBare s'.gens ∧ Un (frs outer) [] H H' s.heap s'.heap ∧ HOk P w H' s'.heap ∧ RelV v u ∧ Q v H'
noncomputable def CR (CX : CXT) (outer : List Env) (P : Program) (w : World) (H : Hp) (s : Shared) (Q : VK) (E : XK) (r : Result) (s' : Shared) : Prop :=
  match r with
  | .ok (.ret u) => CE outer P w H s Q u s'
  | .ok _ => False
  | .error e => CX outer H s E e s'
structure FnOk (P : Program) (w : World) (K : PySem.W.Frag) (mg : Str → Option Value) (base : Heap) (CX : CXT) (k : Nat) (f : Addr) (fd : FuncData) (ps : List Str) (sp : Sp) : Prop where
  len : ∀ vs H Q E, sp vs H Q E → vs.length = ps.length
  run : ∀ (A : Around) (outer : List Env) (s : Shared) (H : Hp) (args : Args) (us : List Value) (vs : List V) (Q : VK) (E : XK), Room k A → Env0 P w K mg base A outer s H → BindsTo s fd args (ps.zip us) → Vals vs us → sp vs H Q E →
    codeAny (model P w) A (.call (.ref f) args) (CR CX outer P w H s Q E) s
section
variable {X : Cx} {pins : List (Addr × Obj)} {σ : St} {H : Hp} {s s' : Shared}
theorem Inv.env0 (I : Inv X pins σ H s) : Env0 X.prog X.w X.K X.mg X.base X.A X.stack s H :=
  ⟨I.ok.frames, I.ok.mod, I.bs, Nat.le_trans I.ok.bsz I.sz, I.stack, I.stkFree, I.hok, I.bare⟩
theorem Inv.after {Q : VK} {u : Value} (I : Inv X pins σ H s) (h : CE X.stack X.prog X.w H s Q u s') : EP X pins σ Q u s' := by
  obtain ⟨v, H', os, bare, un, hok, r, q⟩ := h
  obtain ⟨hh, g, d, t, os'⟩ := s'
  obtain rfl : os' = s.os := os
  exact ⟨v, H', I.call (h' := hh) (g' := g) (d' := d) (t' := t) (ch := []) un hok bare (fun b z => absurd z (by simp)), r, q⟩
end
noncomputable def tCall (sp : Sp) (dvs : List V) (E : XK) (t : TA) : TE := fun σ H Q => t σ H fun vs H1 => sp (vs ++ dvs) H1 Q E
noncomputable def Binds (K : PySem.W.Frag) (fd : FuncData) (ps : List Str) (ds : List Value) : Prop :=
  ∀ (s : Shared) (us : List Value), K.In s.heap → (us ++ ds).length = ps.length → BindsTo s fd ⟨us, []⟩ (ps.zip (us ++ ds))
theorem Binds.all {K : PySem.W.Frag} {fd : FuncData} {ps : List Str} (h : ∀ us : List Value, us.length = ps.length → bindArgs fd ⟨us, []⟩ = pure (ps.zip us)) : Binds K fd ps [] := fun s us _ hl => by
  rw [List.append_nil] at hl ⊢
  exact .of_eq (h us hl)
noncomputable def Passes (CX : CXT) (X : Cx) (E : XK) : Prop := ∀ (pins : List (Addr × Obj)) (σ : St) (H : Hp) (s : Shared) (e : Value) (s' : Shared), Inv X pins σ H s → CX X.stack H s E e s' → X.xe e s'
section
variable {X : Cx} {CX : CXT} {k : Nat} {f C : Addr} {fd : FuncData} {ps : List Str} {sp : Sp} {dvs : List V} {ds : List Value} {E : XK} {x m : Str} {p pos apos : Pos} {e o : Expr} {es : List Expr} {ta : TE} {t : TA}
theorem run_fn {pins : List (Addr × Obj)} {σ : St} {H : Hp} {s : Shared} {Q : VK} {us : List Value} {vs : List V} (F : FnOk X.prog X.w X.K X.mg X.base CX k f fd ps sp) (hr : Room k X.A) (hb : Binds X.K fd ps ds) (hd : Vals dvs ds) (hx : Passes CX X E)
    (I : Inv X pins σ H s) (r : Vals vs us) (h : sp (vs ++ dvs) H Q E) : wpAny (model X.prog X.w) X.A (call (.ref f) us) (EP X pins σ Q) X.xe s := by
  have r2 : Vals (vs ++ dvs) (us ++ ds) := r.append hd
  have hl : (us ++ ds).length = ps.length := by rw [← r2.length]; exact F.len _ _ _ _ h
  refine wpAny_call (codeAny_mono (F.run X.A X.stack s H ⟨us, []⟩ (us ++ ds) (vs ++ dvs) Q E hr I.env0 (hb s us I.kIn hl) r2 h) fun r s' hq => ?_)
  cases r with
  | error e => exact hx pins σ H s e s' I hq
  | ok fl =>
    cases fl with
    | ret u => exact I.after hq
    | next => exact False.elim hq
    | brk => exact False.elim hq
    | cont => exact False.elim hq
theorem pe_call (F : FnOk X.prog X.w X.K X.mg X.base CX k f fd ps sp) (hr : Room k X.A) (hg : Gl X x) (hm : X.mg x = some (.ref f)) (hk : PySem.W.keepIn X.K (.ref f) = true) (hb : Binds X.K fd ps ds) (hd : Vals dvs ds) (hx : Passes CX X E)
    (ha : PA X (e :: es) t) (hdb : (x == ("__debug__" : Str)) = false := by decide) (he : starEach (e :: es) X.env = (false, eval e X.env) :: starEach es X.env := by rfl) (hpl : (backTo pos (starEach es X.env)).any (·.1) = false := by rfl) :
    PE X (.Call (.Name x p) (e :: es) [] pos) (tCall sp dvs E t) := by
  intro pins s σ H Q I h
  refine wpAny_Call_Name_kw (ld_glob I hg hm ?_ hdb)
  refine PySem.W.callWith_K (h₀ := X.base) I.ok.mod.kin hk (thn (ha pos pins s σ H _ I h) fun us s1 ⟨vs, H1, I1, r, q⟩ => ⟨I1.kIn, ?_⟩) he hpl
  exact run_fn F hr hb hd hx I1 r q
structure Mk (K : PySem.W.Frag) (C f : Addr) : Prop where
  makes : PySem.W.makesIn K C = true
  init : PySem.W.findIn K (.ref C) "__init__" = some (some (.ref f))
  fn : PySem.W.isFn K (.ref f) = true
  kp : PySem.W.keepIn K (.ref C) = true
end
section
variable {X : Cx} {CX : CXT} {k : Nat} {f C : Addr} {fd : FuncData} {ps ks : List Str} {sp : Sp} {E : XK} {x m : Str} {p pos apos kpos : Pos} {e o : Expr} {es : List Expr} {kws : List Keyword} {te ta : TE} {t tk : TA} {nm : Option Str}
structure KBinds (K : PySem.W.Frag) (fd : FuncData) (ps ks : List Str) (g : List Value → List Value → List Value) (gV : List V → List V → List V) : Prop where
  to : ∀ (s : Shared) (us ws : List Value), K.In s.heap → (g us ws).length = ps.length → BindsTo s fd ⟨us, ks.zip ws⟩ (ps.zip (g us ws))
  rel : ∀ {vs : List V} {us : List Value} {zs : List V} {ws : List Value}, Vals vs us → Vals zs ws → Vals (gV vs zs) (g us ws)
variable {g : List Value → List Value → List Value} {gV : List V → List V → List V}
end
structure FnScope (N P : List Str) (sc : Scope) : Prop where
  kind : sc.kind = .function
  co : sc.isCoroutine = false
  gen : sc.isGenerator = false
  nd : N.Nodup
  pre : N.take P.length = P
  par : ∀ x ∈ P, sc.names.lookup x = some .local ∨ sc.names.lookup x = some .cell
  nofree : ∀ y ∈ sc.names, y.2 ≠ .free
theorem bindL_out {kindOf : Str → Option NameKind} {x : Str} : ∀ {binds : List (Str × Value)} {m : Str → Option Value}, (∀ v, (x, v) ∉ binds) → bindL kindOf binds m x = m x
  | [], _, _ => rfl
  | (n, v) :: r, m, h => by
    unfold bindL
    rw [bindL_out fun w hw => h w (List.mem_cons_of_mem _ hw)]
    split
    · have : x ≠ n := by rintro rfl; exact h v List.mem_cons_self
      simp [this]
    · rfl
theorem bindC_out {kindOf : Str → Option NameKind} {x : Str} : ∀ {binds : List (Str × Value)} {m : Str → Option Value}, (∀ v, (x, v) ∉ binds) → bindC kindOf binds m x = m x
  | [], _, _ => rfl
  | (n, v) :: r, m, h => by
    unfold bindC
    rw [bindC_out fun w hw => h w (List.mem_cons_of_mem _ hw)]
    split
    · rfl
    · have : x ≠ n := by rintro rfl; exact h v List.mem_cons_self
      simp [this]
theorem bindL_get {kindOf : Str → Option NameKind} {x : Str} {v : Value} : ∀ {P : List Str} {vs : List Value} {i : Nat} {m : Str → Option Value}, P.Nodup → P[i]? = some x → vs[i]? = some v → kindOf x = some .local →
    bindL kindOf (P.zip vs) m x = some v
  | [], _, _, _, _, h, _, _ => by simp at h
  | _ :: _, [], _, _, _, _, h, _ => by simp at h
  | p :: P, w :: vs, 0, m, nd, h1, h2, hk => by
    simp at h1 h2; subst h1; subst h2
    show bindL kindOf ((p, w) :: P.zip vs) m p = _
    unfold bindL
    rw [bindL_out fun v hv => (List.nodup_cons.mp nd).1 (List.of_mem_zip hv).1, if_pos hk]
    simp
  | p :: P, w :: vs, i + 1, m, nd, h1, h2, hk => by
    show bindL kindOf ((p, w) :: P.zip vs) m x = _
    unfold bindL
    exact bindL_get (i := i) (List.nodup_cons.mp nd).2 (by simpa using h1) (by simpa using h2) hk
theorem bindC_get {kindOf : Str → Option NameKind} {x : Str} {v : Value} : ∀ {P : List Str} {vs : List Value} {i : Nat} {m : Str → Option Value}, P.Nodup → P[i]? = some x → vs[i]? = some v → kindOf x ≠ some .local →
    bindC kindOf (P.zip vs) m x = some v
  | [], _, _, _, _, h, _, _ => by simp at h
  | _ :: _, [], _, _, _, _, h, _ => by simp at h
  | p :: P, w :: vs, 0, m, nd, h1, h2, hk => by
    simp at h1 h2; subst h1; subst h2
    show bindC kindOf ((p, w) :: P.zip vs) m p = _
    unfold bindC
    rw [bindC_out fun v hv => (List.nodup_cons.mp nd).1 (List.of_mem_zip hv).1, if_neg hk]
    simp
  | p :: P, w :: vs, i + 1, m, nd, h1, h2, hk => by
    show bindC kindOf ((p, w) :: P.zip vs) m x = _
    unfold bindC
    exact bindC_get (i := i) (List.nodup_cons.mp nd).2 (by simpa using h1) (by simpa using h2) hk
noncomputable def start (N : List Str) (vs : List V) : St := vs.map some ++ List.replicate (N.length - vs.length) none
noncomputable def cxOf (CX : CXT) (P : Program) (w : World) (K : PySem.W.Frag) (mg : Str → Option Value) (base : Heap) (N : List Str) (qual : Str) (scope : Scope) (f : Addr) (cd : Value) (A : Around) (outer : List Env) (s : Shared) (H : Hp) (E : XK) : Cx where
  prog := P
  w := w
  K := K
  mg := mg
  base := base
  A := A.deeper (envOfC qual scope s.heap.objs.size f cd)
  N := N
  s₀ := s
  H₀ := H
  env := envOfC qual scope s.heap.objs.size f cd
  outer := outer
  stack := envOfC qual scope s.heap.objs.size f cd :: outer
  ex := []
  calm := true
  fn := fun _ => true
  pn := []
  xe := fun e s' => wpAny (model P w) (A.deeper (envOfC qual scope s.heap.objs.size f cd)) (leaving (envOfC qual scope s.heap.objs.size f cd) e) (fun _ s'' => CX outer H s E e s'') (fun e' s'' => CX outer H s E e' s'') s'
theorem cell_has {sc : Scope} {n : Nat} {x : Str} (h : sc.names.lookup x = some .cell) : ∃ c, (cellsFrom n sc.names []).lookup x = some c := by
  have q := PySem.W.cellsFrom_some sc.names n [] (.inl h)
  exact Option.isSome_iff_exists.mp q
theorem inv_start {CX : CXT} {P : Program} {w : World} {K : PySem.W.Frag} {mg : Str → Option Value} {base : Heap} {N ps : List Str} {qual : Str} {scope : Scope} {f : Addr} {cd : Value} {A : Around} {outer : List Env} {s s1 : Shared} {H : Hp} {E : XK} {us : List Value} {vs : List V}
    (S : FnScope N ps scope) (hd : A.handled = none) (e0 : Env0 P w K mg base A outer s H) (hl : vs.length = ps.length) (r : Vals vs us)
    (x : InCallC s s.heap.objs.size (bindL (envOfC qual scope s.heap.objs.size f cd).kindOf (ps.zip us) fun _ => none) (cellsFrom (s.heap.objs.size + 1) scope.names []) (bindC (envOfC qual scope s.heap.objs.size f cd).kindOf (ps.zip us) fun _ => none) s1) :
    Inv (cxOf CX P w K mg base N qual scope f cd A outer s H E) [] (start N vs) H s1 := by
  have hpl : ps.length ≤ N.length := by have := congrArg List.length S.pre; rw [List.length_take] at this; omega
  obtain ⟨h1, tk, rfl, hk⟩ := x.done
  have noA : ∀ b : Addr, b ∉ (cxOf CX P w K mg base N qual scope f cd A outer s H E).ex := fun b z => absurd (show b ∈ ([] : List Addr) from z) (by simp)
  refine ⟨⟨e0.mod, S.kind, rfl, rfl, Nat.le_refl _, fun y z c h1 h2 => ?_, fun y hy => ?_, fun y c _ h => ?_, fun _ => hd, Around.frames_deeper e0.frames, .inr ⟨rfl, rfl⟩, fun b z => absurd z (noA b), e0.bs, e0.bsz, fun b _ _ => noA b, fun b z => absurd z (noA b), e0.funs, e0.frf⟩,
    rfl, e0.bare, Un.kept hk, ⟨_, x.toInCall.ns, fun i y v h1 h2 h3 => ?_⟩, fun y c h => ⟨_, x.cell y c h⟩, e0.hok.fresh (Nat.le_refl _), fun y c h => ?_, fun p hp => absurd (show p ∈ ([] : List (Addr × Obj)) from hp) (by simp), e0.hok.kept hk, ?_⟩
  · exact name_of_addr x.apart (PySem.mem_of_lookup h1) (PySem.mem_of_lookup h2)
  · have hy : scope.names.lookup y = some .cell ∨ scope.names.lookup y = some .free := hy
    rcases hy with hy | hy
    · exact cell_has hy
    · exact absurd rfl (S.nofree _ (PySem.mem_of_lookup hy))
  · exact Nat.le_of_lt (x.above y c (PySem.mem_of_lookup h))
  · have hi : i < vs.length := by
      unfold start at h2
      by_cases hi : i < vs.length
      · exact hi
      · rw [List.getElem?_append_right (by simpa using hi)] at h2
        rw [List.getElem?_replicate] at h2
        split at h2 <;> cases h2
    have ha : vs[i]? = some v := by
      unfold start at h2
      rw [List.getElem?_append_left (by simpa using hi), List.getElem?_map] at h2
      cases e : vs[i]? with
      | none => rw [e] at h2; cases h2
      | some a => rw [e] at h2; cases h2; rfl
    obtain ⟨u, hu, rv⟩ := r.get ha
    have hp : ps[i]? = some y := by
      rw [← S.pre, List.getElem?_take_of_lt (by omega)]; exact h1
    have ndP : ps.Nodup := by rw [← S.pre]; exact S.nd.sublist (List.take_sublist _ _)
    refine ⟨u, rv, ?_⟩
    rcases S.par y (List.mem_of_getElem? hp) with k | k
    · exact .inl ⟨k, bindL_get ndP hp hu k⟩
    · obtain ⟨c, e⟩ := cell_has (n := s.heap.objs.size + 1) k
      refine .inr ⟨.inl k, c, e, ?_⟩
      have q := x.cell y c e
      rw [bindC_get ndP hp hu (by show scope.names.lookup y ≠ _; rw [k]; decide)] at q
      exact q
  · exact e0.hok.fresh (Nat.le_of_lt (x.above y c (PySem.mem_of_lookup h)))
  · unfold start
    show _ = N.length
    rw [List.length_append, List.length_map, List.length_replicate]
    omega
theorem fn_of {CX : CXT} {P : Program} {w : World} {K : PySem.W.Frag} {mg : Str → Option Value} {base : Heap} {k : Nat} {f : Addr} {name qual : Str} {params : Arguments} {body : List Stmt} {scope : Scope} {dV kV doc pm cdv ct oc : Value} {an od : Option Addr}
    {osl : Array (Option Value)} {N ps : List Str} {sp : Sp} (lk : K.lookup f = some ⟨oc, od, .func (PySem.W.fnOf name qual params body scope dV kV doc pm an cdv ct), osl⟩) (hcd : PySem.W.codeIn K cdv qual = true) (S : FnScope N ps scope)
    (len : ∀ vs H Q E, sp vs H Q E → vs.length = ps.length)
    (hbody : ∀ (A : Around) (outer : List Env) (s : Shared) (H : Hp) (vs : List V) (Q : VK) (E : XK), Room k (A.deeper (envOfC qual scope s.heap.objs.size f cdv)) → sp vs H Q E →
      ∃ t, PSs (cxOf CX P w K mg base N qual scope f cdv A outer s H E) body t ∧ t { nx := fun _ H' => Q .non H', rt := Q } (start N vs) H) :
    FnOk P w K mg base CX (k + 1) f (PySem.W.fnOf name qual params body scope dV kV doc pm an cdv ct) ps sp := by
  refine ⟨len, fun A outer s H args us vs Q E hr e0 hb r hsp => ?_⟩
  have hl := len _ _ _ _ hsp
  have KX : K.In s.heap := e0.mod.kin.keeps fun b o e => (e0.bs b o e).1
  have lim : s.heap.NoLimit := e0.mod.nolimit.keeps fun b o e => (e0.bs b o e).1
  have hkind : ∀ y ∈ ps.zip us, scope.names.lookup y.1 = some .local ∨ (scope.names.lookup y.1 = some .cell ∧ ((cellsFrom (s.heap.objs.size + 1) scope.names []).lookup y.1).isSome = true) := fun hpt0 hy => by
    obtain ⟨n, v⟩ := hpt0
    rcases S.par n (List.of_mem_zip hy).1 with q | q
    · exact .inl q
    · exact .inr ⟨q, PySem.W.cellsFrom_some _ _ _ (.inl q)⟩
  refine codeAny_call_function hr.depth (KX _ _ lk) rfl S.co S.gen rfl (PySem.W.codeRec_of KX hcd) (hb _ _ _ _ ?_)
  refine wpAny_newFunctionEnv_cells S.kind hkind fun env he s1 x => ?_
  subst he
  refine ⟨lim.keeps x.toInCall.keep, codeAny_func ?_⟩
  obtain ⟨t, ht, hq⟩ := hbody A outer s H vs Q E (hr.deeper _) hsp
  have I : Inv (cxOf CX P w K mg base N qual scope f cdv A outer s H E) [] (start N vs) H s1 := inv_start S hr.hd e0 hl r x
  refine wpAny_mono (ht [] s1 (start N vs) H _ I hq) (fun fl s' hs => ?_) fun e s' hs => hs
  have fin : ∀ {σ' : St} {H' : Hp} {v : V} {u : Value}, Inv (cxOf CX P w K mg base N qual scope f cdv A outer s H E) [] σ' H' s' → RelV v u → Q v H' → CE outer P w H s Q u s' :=
    fun {σ' H' v u} J rv q => ⟨v, H', J.os, J.bare, J.base, J.hok, rv, q⟩
  cases fl with
  | ret u =>
    obtain ⟨v, σ', H', J, rv, q⟩ := hs
    exact fin J rv q
  | next =>
    obtain ⟨σ', H', J, q⟩ := hs
    exact fin (v := V.non) (u := Value.none) J rfl q
  | brk =>
    obtain ⟨_, _, _, q⟩ := hs
    exact False.elim q
  | cont =>
    obtain ⟨_, _, _, q⟩ := hs
    exact False.elim q
end L2
namespace L2
open PySem PySem.Spec PyProof.Rows
section
variable {X : Cx} {x : Str} {p pos : Pos} {e : Expr} {es : List Expr} {t : TA} {id T : String} {r : List V → Hp → VK → Prop}
noncomputable def tCB (r : List V → Hp → VK → Prop) (t : TA) : TE := fun σ H Q => t σ H fun vs H1 => r vs H1 Q
theorem pe_callB (hc : CallR X (.builtin id) r) (hg : Gl X x) (hm : X.mg x = none) (hv : bootBuiltins x = some (.builtin id)) (ha : PA X (e :: es) t) (hn : x ≠ "__name__" := by decide) (hdb : (x == ("__debug__" : Str)) = false := by decide)
    (he : starEach (e :: es) X.env = (false, eval e X.env) :: starEach es X.env := by rfl) (hpl : (backTo pos (starEach es X.env)).any (·.1) = false := by rfl) : PE X (.Call (.Name x p) (e :: es) [] pos) (tCB r t) := by
  intro pins s σ H Q I h
  refine wpAny_Call_Name_kw (ld_blt I hg hm hv ?_ hn hdb)
  exact PyProof.Rows.callWith_builtin1 (thn (ha pos pins s σ H _ I h) fun us s1 ⟨vs, H1, I1, r1, q1⟩ => hc pins s1 σ H1 vs us Q I1 r1 q1) he hpl
theorem pe_callTy (hc : CallR X (.type T) r) (hg : Gl X x) (hm : X.mg x = none) (hv : bootBuiltins x = some (.type T)) (ha : PA X (e :: es) t) (hn : x ≠ "__name__" := by decide) (hdb : (x == ("__debug__" : Str)) = false := by decide)
    (he : starEach (e :: es) X.env = (false, eval e X.env) :: starEach es X.env := by rfl) (hpl : (backTo pos (starEach es X.env)).any (·.1) = false := by rfl) : PE X (.Call (.Name x p) (e :: es) [] pos) (tCB r t) := by
  intro pins s σ H Q I h
  refine wpAny_Call_Name_kw (ld_blt I hg hm hv ?_ hn hdb)
  exact PyProof.Rows.callWith_type1 (thn (ha pos pins s σ H _ I h) fun us s1 ⟨vs, H1, I1, r1, q1⟩ => hc pins s1 σ H1 vs us Q I1 r1 q1) he hpl
end
end L2
namespace HT
open PySem PyProof.Rows
noncomputable def lexLt : List Int → List Int → Bool
  | [], [] => false
  | [], _ :: _ => true
  | _ :: _, [] => false
  | x :: xs, y :: ys => if x = y then lexLt xs ys else decide (x < y)
theorem lexLt_cons (x y : Int) (xs ys : List Int) : lexLt (x :: xs) (y :: ys) = if x = y then lexLt xs ys else decide (x < y) := rfl
section
open PySem.SeqAt
open PySem.AutoSeq1 (wpAny_loadPart')
open PySem.MeetsSeq PySem.MeetsSeq2 PySem.MeetsSeq3
end
section
variable {prog : Program} {w : World} {A : Around} {E : Value → Shared → Prop} {s : Shared}
theorem cat_tup {t b : Addr} {vs ws : List Value} {Q : Value → Shared → Prop} (ht : IsTup s.heap t vs.toArray) (hb : IsTup s.heap b ws.toArray) (hv : vs ≠ [])
    (h1 : ws = [] → Q (.ref t) s) (h2 : ws ≠ [] → Q (.ref s.heap.objs.size) { s with heap := s.heap.push { cls := .type "tuple", data := .seq (vs ++ ws).toArray } })
    (hsz : vs.length + ws.length ≤ sizeLine) : wpAny (model prog w) A (binaryOp .Add (.ref t) (.ref b)) Q E s := by
  obtain ⟨⟨cls, dd, data, sl⟩, ho, hc, n, hd⟩ := id ht
  obtain ⟨⟨cls2, dd2, data2, sl2⟩, ho2, hc2, n2, hd2⟩ := id hb
  simp only at hc hd hc2 hd2
  subst hc hd hc2 hd2
  have e : vs.toArray ++ ws.toArray = (vs ++ ws).toArray := by simp
  by_cases hw : ws = []
  · exact concat_meets ⟨_, ho, rfl⟩ ⟨_, ho2, rfl⟩ noFill_tuple_add seq_tuple_add PySem.F.slot_tuple_add PySem.F.entry_tuple_add (PySem.F.args_tuple_add_2 _ _)
      (tuple_addW1 t b vs.toArray ws.toArray n n2 dd dd2 sl sl2 (by simpa using hv) (by simp [hw])) ⟨ho, ho2, h1 hw⟩
  · refine concat_meets ⟨_, ho, rfl⟩ ⟨_, ho2, rfl⟩ noFill_tuple_add seq_tuple_add PySem.F.slot_tuple_add PySem.F.entry_tuple_add (PySem.F.args_tuple_add_2 _ _)
      (tuple_addW2 t b vs.toArray ws.toArray n n2 dd dd2 sl sl2 (by simpa using hv) (by simpa using hw) (by rw [List.size_toArray, List.size_toArray]; exact hsz)) ⟨ho, ho2, ?_⟩
    rw [e]
    exact h2 hw
noncomputable def sIx (n d : Nat) : Option Int → Nat
  | none => d
  | some v => if v < 0 then (v + (n : Int)).toNat else min v.toNat n
end
end HT
namespace L2
open PySem PySem.Spec PyProof.Rows
noncomputable abbrev TO := St → Hp → (Option Int → Hp → Prop) → Prop
noncomputable def PO (X : Cx) (e : Option Expr) (t : TO) : Prop :=
  ∀ (pins : List (Addr × Obj)) (s : Shared) (σ : St) (H : Hp) (Q : Option Int → Hp → Prop), Inv X pins σ H s → t σ H Q →
    wpAny (model X.prog X.w) X.A (evalPart e X.env) (fun u s' => ∃ o H', Inv X pins σ H' s' ∧ IsPart u o ∧ Q o H') X.xe s
noncomputable def tNoPart : TO := fun _ H Q => Q none H
noncomputable def tPart (t : TE) : TO := fun σ H Q => t σ H fun x H1 => ∃ i, x = .int i ∧ Q (some i) H1
theorem intsAre_of {ns : List Int} : ∀ {us : List Value}, Vals (ns.map V.int) us → IntsAre us ns := by
  induction ns with
  | nil => intro us r; rw [List.map_nil] at r; cases r; exact .nil
  | cons n ns ih =>
    intro us r
    rw [List.map_cons] at r
    cases r with
    | cons r1 r2 =>
      obtain ⟨t, e⟩ := r1
      subst e
      exact .cons n t (ih r2)
section
variable {X : Cx} {e : Expr} {te : TE} {lo hi : Option Expr} {tl th : TO} {pos p2 : Pos}
theorem po_none : PO X none tNoPart := by
  intro pins s σ H Q I h
  rw [evalPart_none]
  exact wpAny_pure ⟨none, H, I, .none, h⟩
theorem po_some (h : PE X e te) : PO X (some e) (tPart te) := by
  intro pins s σ H Q I hw
  rw [evalPart_some]
  refine thn (h pins s σ H _ I hw) fun u s1 hpt9 => ?_
  obtain ⟨x, H1, I1, r1, q1⟩ := hpt9
  obtain ⟨i, rfl, q⟩ := q1
  obtain ⟨t, rfl⟩ := r1
  exact ⟨some i, H1, I1, .int i t, q⟩
noncomputable def SlR (X : Cx) (r : V → Option Int → Option Int → Hp → VK → Prop) : Prop :=
  ∀ (pins : List (Addr × Obj)) (s : Shared) (σ : St) (H : Hp) (x : V) (v vl vu : Value) (lo hi : Option Int) (sl : Addr) (Q : VK), Inv X pins σ H s → RelV x v → s.heap.IsSliceOf sl vl vu .none → IsPart vl lo → IsPart vu hi → r x lo hi H Q →
    ∃ T id, typeLookup (.type T) "__getitem__" = pure (some (.builtin id)) ∧ s.TypeIs v T ∧ wpAny (model X.prog X.w) X.A (getItem v (.ref sl)) (EP X pins σ Q) X.xe s
noncomputable def tSl (r : V → Option Int → Option Int → Hp → VK → Prop) (te : TE) (tl th : TO) : TE := fun σ H Q => te σ H fun x H1 => tl σ H1 fun l H2 => th σ H2 fun u H3 => r x l u H3 Q
theorem pe_slice {r : V → Option Int → Option Int → Hp → VK → Prop} (hr : SlR X r) (he : PE X e te) (hl : PO X lo tl) (hu : PO X hi th) : PE X (.Subscript e (.Slice lo hi none p2) pos) (tSl r te tl th) := by
  intro pins s σ H Q I h
  refine Subscript_ (thn (he pins s σ H _ I h) fun v s1 hpt9 => ?_)
  obtain ⟨x, H1, I1, r1, q1⟩ := hpt9
  refine wpAny_Slice (thn (hl pins s1 σ H1 _ I1 q1) fun vl s2 ⟨l, H2, I2, pl, q2⟩ => thn (hu pins s2 σ H2 _ I2 q2) fun vu s3 hpt9 => ?_)
  obtain ⟨u, H3, I3, pu, q3⟩ := hpt9
  rw [evalPart_none]
  refine wpAny_pure ?_
  have I4 : Inv X pins σ H3 { s3 with heap := s3.heap.push { cls := .type "slice", data := .fields #[vl, vu, .none] } } := I3.kept (t' := s3.toks) fun b ob q => Heap.get?_push_of_some _ q
  obtain ⟨T, id, hT, ht, hg⟩ := hr pins { s3 with heap := s3.heap.push { cls := .type "slice", data := .fields #[vl, vu, .none] } } σ H3 x v vl vu l u s3.heap.objs.size Q I4 r1 (Heap.IsSliceOf.new ..) pl pu q3
  show wpAny (model X.prog X.w) X.A (subscriptTail e (.Slice lo hi none p2) v (.ref s3.heap.objs.size)) (EP X pins σ Q) X.xe { s3 with heap := s3.heap.push { cls := .type "slice", data := .fields #[vl, vu, .none] } }
  exact tail_any (ops := [.ref s3.heap.objs.size, v]) ht hT hg (by with_unfolding_all rfl)
theorem Vals.nil_iff {xs : List V} {us : List Value} (r : Vals xs us) : us = [] ↔ xs = [] := by
  cases r with
  | nil => simp
  | cons _ _ => simp
end
end L2
namespace L2
open PySem PySem.Spec PyProof.Rows
noncomputable def ixN (n : Nat) (i : Int) : Option Nat := if 0 ≤ i then (if i < n then some i.toNat else none) else if -(n : Int) ≤ i then some (i + n).toNat else none
noncomputable def atI {α : Type} (xs : List α) (i : Int) : Option α := (ixN xs.length i).bind fun j => xs[j]?
theorem ixN_seq {n : Nat} {i : Int} {j : Nat} (h : ixN n i = some j) : seqIndex? i n = some j ∧ j < n ∧ -(n : Int) ≤ i ∧ i < n := by
  unfold ixN at h
  by_cases h0 : 0 ≤ i
  · rw [if_pos h0] at h
    by_cases h1 : i < n
    · rw [if_pos h1] at h
      have e : i.toNat = j := Option.some.inj h
      exact ⟨by rw [seqIndex_of h0 h1, e], by omega, by omega, h1⟩
    · rw [if_neg h1] at h; cases h
  · rw [if_neg h0] at h
    by_cases h1 : -(n : Int) ≤ i
    · rw [if_pos h1] at h
      have e : (i + n).toNat = j := Option.some.inj h
      exact ⟨by rw [seqIndex_neg (by omega) h1, e], by omega, h1, by omega⟩
    · rw [if_neg h1] at h; cases h
theorem atI_get {α : Type} {xs : List α} {i : Int} {v : α} (h : atI xs i = some v) : ∃ j, seqIndex? i xs.length = some j ∧ xs[j]? = some v ∧ j < xs.length ∧ -(xs.length : Int) ≤ i ∧ i < xs.length := by
  unfold atI at h
  cases e : ixN xs.length i with
  | none => rw [e] at h; cases h
  | some j =>
    rw [e] at h
    obtain ⟨h1, h2, h3, h4⟩ := ixN_seq e
    exact ⟨j, h1, h, h2, h3, h4⟩
noncomputable def PlainIx (b : Expr) : Prop := ∀ o i, subscripted b false o i = operate [o, i] (getItem o i)
noncomputable def IxR (X : Cx) (r : R2) : Prop :=
  ∀ (value slice : Expr) (pins : List (Addr × Obj)) (s : Shared) (σ : St) (H : Hp) (x y : V) (v u : Value) (Q : VK), Inv X pins σ H s → RelV x v → RelV y u → r x y H Q →
    subscripted slice false v u = operate [v, u] (getItem v u) → wpAny (model X.prog X.w) X.A (subscriptTail value slice v u) (EP X pins σ Q) X.xe s
noncomputable def MtR (X : Cx) (id : String) (r : V → List V → Hp → VK → Prop) : Prop :=
  ∀ (pins : List (Addr × Obj)) (s : Shared) (σ : St) (H : Hp) (x : V) (xs : List V) (v : Value) (us : List Value) (Q : VK), Inv X pins σ H s → RelV x v → Vals xs us → r x xs H Q →
    wpAny (model X.prog X.w) X.A (call (.builtin id) (v :: us)) (EP X pins σ Q) X.xe s
section
variable {X : Cx} {a b : Expr} {ta tb : TE} {pos : Pos}
theorem IxR.or {r r' : R2} (h : IxR X r) (h' : IxR X r') : IxR X (fun x y H Q => r x y H Q ∨ r' x y H Q) := by
  intro value slice pins s σ H x y v u Q I rx ry q hs
  rcases q with q | q
  · exact h value slice pins s σ H x y v u Q I rx ry q hs
  · exact h' value slice pins s σ H x y v u Q I rx ry q hs
theorem pe_ix {r : R2} (hr : IxR X r) (ha : PE X a ta) (hb : PE X b tb) (hs : PlainIx b) : PE X (.Subscript a b pos) (tOp r ta tb) := by
  intro pins s σ H Q I h
  exact Subscript_ (binT ha hb I h fun v u s2 x y H2 I2 rx ry q => hr a b pins s2 σ H2 x y v u Q I2 rx ry q (hs _ _))
noncomputable def rIxL (K : PySem.W.Frag) : R2 := fun x y H Q => ∃ p xs i v, x = .ref p ∧ y = .int i ∧ SqL K H p xs ∧ atI xs i = some v ∧ Q v H
noncomputable def rIxT (K : PySem.W.Frag) : R2 := fun x y H Q => ∃ p xs i v, x = .ref p ∧ y = .int i ∧ SqT K H p xs ∧ atI xs i = some v ∧ Q v H
noncomputable def rIxS : R2 := fun x y H Q => ∃ z i c, x = .str z ∧ y = .int i ∧ z.length ≤ sizeLine ∧ atI z.cps.toList i = some c ∧ Q (.str ⟨#[c]⟩) H
theorem ix_list : IxR X (rIxL X.K) := by
  intro value slice pins s σ H x y v u Q I rx ry h hs
  obtain ⟨p, xs, i, z, rfl, rfl, hq, he, q⟩ := h
  cases rx
  obtain ⟨t, rfl⟩ := ry
  obtain ⟨its, r, pl, hz⟩ := I.list hq
  obtain ⟨j, h1, h2, h3, h4, h5⟩ := atI_get he
  obtain ⟨w, ew, rw'⟩ := r.get h2
  have hl := r.length
  have hn := line63
  have fin : EP X pins σ Q w s := ⟨z, H, I, rw', q⟩
  by_cases h0 : 0 ≤ i
  · have hj : i.toNat = j := by
      rw [seqIndex_of h0 h5] at h1
      exact Option.some.inj h1
    exact item_listR pl.isList h0 (by omega) (by rw [hj]; simpa using ew) fin hs
  · have hj : (i + (its.toArray.size : Int)).toNat = j := by
      rw [seqIndex_neg (by omega) h4] at h1
      rw [List.size_toArray, ← hl]
      exact Option.some.inj h1
    exact subscriptTail_builtinR (x := w) pl.isList.typeIs slot_list_getitem.lookup
      (wpAny_getItem_list_neg (Q := fun r s' => r = w ∧ EP X pins σ Q r s') pl.isList (by omega) (by rw [List.size_toArray] <;> omega) (by omega) (by rw [hj]; simpa using ew) ⟨rfl, fin⟩) hs
theorem ix_tup : IxR X (rIxT X.K) := by
  intro value slice pins s σ H x y v u Q I rx ry h hs
  obtain ⟨p, xs, i, z, rfl, rfl, hq, he, q⟩ := h
  cases rx
  obtain ⟨t, rfl⟩ := ry
  obtain ⟨its, r, pl, hz⟩ := I.tuple hq
  obtain ⟨j, h1, h2, h3, h4, h5⟩ := atI_get he
  obtain ⟨w, ew, rw'⟩ := r.get h2
  have hl := r.length
  have hn := line63
  have fin : EP X pins σ Q w s := ⟨z, H, I, rw', q⟩
  exact subscriptTail_builtinR (x := w) pl.typeIs slot_tuple_getitem.lookup
    (getItem_tuple (j := j) (Q := fun r s' => r = w ∧ EP X pins σ Q r s') pl (by omega) (by omega) (by rw [List.size_toArray, ← hl]; exact h1) (by simpa using ew) ⟨rfl, fin⟩) hs
theorem ix_str : IxR X rIxS := by
  intro value slice pins s σ H x y v u Q I rx ry h hs
  obtain ⟨z, i, c, rfl, rfl, hz, he, q⟩ := h
  obtain ⟨t, rfl⟩ := rx
  obtain ⟨t', rfl⟩ := ry
  obtain ⟨j, h1, h2, h3, h4, h5⟩ := atI_get he
  have hl : z.cps.toList.length = z.length := by simp [Str.length]
  rw [hl] at h1 h4 h5
  have hn := line63
  exact tail_any (typeIs_str s z t) slot_str_getitem.lookup (getItem_str (c := c) (by
    have e1 : decide (i < -(2 ^ 63 : Int)) = false := decide_eq_false (by omega)
    have e2 : decide (i ≥ 2 ^ 63) = false := decide_eq_false (by omega)
    rw [e1, e2, Bool.or_false]) (by rw [h1]; simpa using h2) ⟨.str ⟨#[c]⟩, H, I.tok _, ⟨_, rfl⟩, q⟩) hs
noncomputable def rIx (K : PySem.W.Frag) : R2 := fun x y H Q => rIxL K x y H Q ∨ rIxT K x y H Q ∨ rIxS x y H Q
theorem ix_seq : IxR X (rIx X.K) := ix_list.or (ix_tup.or ix_str)
theorem mapSeq_set (its : List Value) (n j : Nat) (u : Value) : Obj.mapSeq (·.setIfInBounds j u) { cls := .type "list", data := .seq its.toArray n } = { cls := .type "list", data := .seq (its.set j u).toArray n } := by
  simp [Obj.mapSeq]
theorem Inv.lst {pins : List (Addr × Obj)} {σ : St} {H : Hp} {s : Shared} {p : Addr} {xs : List V} (I : Inv X pins σ H s) (h : H p = some (.lst xs)) :
    ∃ (its : List Value) (n : Nat), Vals xs its ∧ s.heap.get? p = some { cls := .type "list", data := .seq its.toArray n } ∧ xs.length ≤ sizeLine := by
  obtain ⟨z, its, n, r, e⟩ := I.hok p _ h
  exact ⟨its, n, r, e, z⟩
theorem Inv.lstUpd {pins : List (Addr × Obj)} {σ : St} {H : Hp} {s : Shared} {p : Addr} {xs ys : List V} {its its' : List Value} {n n' : Nat} {f : Obj → Obj} (I : Inv X pins σ H s) (h : H p = some (.lst xs))
    (ho : s.heap.get? p = some { cls := .type "list", data := .seq its.toArray n }) (hf : f { cls := .type "list", data := .seq its.toArray n } = { cls := .type "list", data := .seq its'.toArray n' }) (r : Vals ys its') (hz : ys.length ≤ sizeLine) (t : Nat) :
    Inv X pins σ (upd H p (.lst ys)) { s with heap := s.heap.update p f, toks := t } := by
  have e : (s.heap.update p f).get? p = some { cls := .type "list", data := .seq its'.toArray n' } := by
    rw [Heap.get?_update_self f ho (by rw [hf] <;> rfl), hf]
  refine I.write (x := p) (e := p) (by rw [h]; trivial) (.inl rfl) (fun b u hb q => (Heap.get?_update_other _ _ (Ne.symm hb)).trans q) ⟨_, e⟩ ?_
  exact ⟨hz, its', n', r, e⟩
noncomputable def rSetL : V → V → V → Hp → (Hp → Prop) → Prop := fun o i v H Q => ∃ p xs k j, o = .ref p ∧ i = .int k ∧ H p = some (.lst xs) ∧ ixN xs.length k = some j ∧ Q (upd H p (.lst (xs.set j v)))
theorem set_list : PSet X rSetL := by
  intro pins s σ H o i v ov iv u Q I ro ri rv h
  obtain ⟨p, xs, k, j, rfl, rfl, hp, hj, q⟩ := h
  cases ro
  obtain ⟨t, rfl⟩ := ri
  obtain ⟨its, n, r, ho, hz⟩ := I.lst hp
  obtain ⟨h1, h2, h3, h4⟩ := ixN_seq hj
  have hl := r.length
  have hn := line63
  have I' : Inv X pins σ (upd H p (.lst (xs.set j v))) { s with heap := s.heap.update p (Obj.mapSeq (·.setIfInBounds j u)) } :=
    I.lstUpd hp ho (mapSeq_set its n j u) (r.set rv j) (by rw [List.length_set]; exact hz) s.toks
  by_cases h0 : 0 ≤ k
  · have hk : k.toNat = j := by
      rw [seqIndex_of h0 h4] at h1
      exact Option.some.inj h1
    exact PySem.W.ki_setAt ho h0 (by omega) (by rw [List.size_toArray, ← hl]; exact h4) (by rw [hk]; exact ⟨_, I', q⟩)
  · have hk : (k + (its.toArray.size : Int)).toNat = j := by
      rw [seqIndex_neg (by omega) h3] at h1
      rw [List.size_toArray, ← hl]
      exact Option.some.inj h1
    exact PySem.W.ki_setBack ho (by omega) (by rw [List.size_toArray, ← hl]; exact h3) (by omega) (by rw [hk]; exact ⟨_, I', q⟩)
theorem CallR.or {f : Value} {r r' : List V → Hp → VK → Prop} (h : CallR X f r) (h' : CallR X f r') : CallR X f (fun xs H Q => r xs H Q ∨ r' xs H Q) := by
  intro pins s σ H xs us Q I rs q
  rcases q with q | q
  · exact h pins s σ H xs us Q I rs q
  · exact h' pins s σ H xs us Q I rs q
theorem call_tuple_of : CallR X (.type "tuple") (fun xs H Q => ∃ p ys, xs = [.ref p] ∧ ((SqL X.K H p ys ∧ ∀ l, H l = none → Q (.ref l) (upd H l (.tup ys))) ∨ (SqT X.K H p ys ∧ Q (.ref p) H))) := by
  intro pins s σ H xs us Q I r h
  obtain ⟨p, ys, rfl, h⟩ := h
  obtain ⟨u, rfl, rx⟩ := vals1 r
  cases rx
  rcases h with ⟨hq, q⟩ | ⟨hq, q⟩
  · obtain ⟨its, r', pl, hz⟩ := I.list hq
    have hlen := r'.length
    refine call_tuple_list pl.isList (fun h' kp => ?_) (by simp only [List.size_toArray] <;> omega)
    have I1 : Inv X pins σ H { s with heap := h' } := I.kept (t' := s.toks) kp
    have I2 : Inv X pins σ (upd H h'.objs.size (.tup ys)) { s with heap := h'.push { cls := .type "tuple", data := .seq its.toArray } } :=
      I1.laid (t' := s.toks) (fun b o e => Heap.get?_push_of_some _ e) (Nat.le_refl _) (show ObjOk X.prog X.w _ _ _ (.tup ys) from ⟨hz, its, r', IsTup.new _ _⟩)
    exact ⟨.ref h'.objs.size, _, I2, rfl, q _ (I1.hok.fresh (Nat.le_refl _))⟩
  · obtain ⟨its, r', pl, hz⟩ := I.tuple hq
    exact call_tuple_same pl ⟨.ref p, H, I, rfl, q⟩
noncomputable def tyV (K : PySem.W.Frag) (T : String) (x : V) (H : Hp) : Prop := match x with
  | .str _ => T = "str"
  | .int _ => T = "int"
  | .ref p => (T = "list" ∧ ∃ xs, SqL K H p xs) ∨ (T = "tuple" ∧ ∃ o, K.lookup p = some o ∧ o.cls = .type "tuple" ∧ o.dict = none) ∨
      (T = "dict" ∧ ((∃ kvs, H p = some (.dK kvs)) ∨ ∃ kvs, H p = some (.dT kvs))) ∨ (T = "set" ∧ ∃ S n, H p = some (.set S n))
  | _ => False
theorem tyV_is {pins : List (Addr × Obj)} {σ : St} {H : Hp} {s : Shared} {T : String} {x : V} {v : Value} (I : Inv X pins σ H s) (r : RelV x v) (ty : tyV X.K T x H) :
    s.TypeIs v T ∧ ∀ a, v = .ref a → ∃ ob, s.heap.get? a = some ob ∧ ob.dict = none := by
  cases x with
  | str z =>
    obtain ⟨t, rfl⟩ := r
    cases (show T = "str" from ty)
    exact ⟨typeIs_str s z t, fun _ e => nomatch e⟩
  | int i =>
    obtain ⟨t, rfl⟩ := r
    cases (show T = "int" from ty)
    exact ⟨typeIs_int s i t, fun _ e => nomatch e⟩
  | ref p =>
    cases r
    rcases ty with ⟨rfl, xs, hq⟩ | ⟨rfl, o, hk, hc, hd⟩ | ⟨rfl, hk⟩ | ⟨rfl, S, n, hk⟩
    · obtain ⟨its, _, pl, _⟩ := I.list hq
      refine ⟨pl.isList.typeIs, fun a e => ?_⟩
      cases e
      obtain ⟨o, n, e, c, hd, _⟩ := pl
      exact ⟨o, e, hd⟩
    · refine ⟨⟨o, I.kIn p o hk, hc⟩, fun a e => ?_⟩
      cases e
      exact ⟨o, I.kIn _ o hk, hd⟩
    · have z : ∃ o, s.heap.get? p = some o ∧ o.ExactDict := by
        rcases hk with ⟨kvs, hk⟩ | ⟨kvs, hk⟩
        · obtain ⟨_, _, _, _, o, _, _, e, ex, _⟩ := I.hok p _ hk
          exact ⟨o, e, ex⟩
        · obtain ⟨_, _, _, _, o, _, _, e, ex, _⟩ := I.hok p _ hk
          exact ⟨o, e, ex⟩
      obtain ⟨o, e, ex⟩ := z
      refine ⟨⟨o, e, ex.1⟩, fun a e2 => ?_⟩
      cases e2
      exact ⟨o, e, ex.2.1⟩
    · obtain ⟨o, _, _, _, e, ex, _⟩ := I.hok p _ hk
      refine ⟨⟨o, e, ex.1⟩, fun a e2 => ?_⟩
      cases e2
      exact ⟨o, e, ex.2.1⟩
  | _ => exact False.elim ty
noncomputable def tBM (K : PySem.W.Frag) (T : String) (r : V → List V → Hp → VK → Prop) (to : TE) (t : TA) : TE := fun σ H Q => to σ H fun x H1 => tyV K T x H1 ∧ t σ H1 fun xs H2 => r x xs H2 Q
variable {o e : Expr} {es : List Expr} {to : TE} {t : TA} {name : Str} {apos cpos : Pos} {T id : String} {r : V → List V → Hp → VK → Prop}
theorem pe_bm (pa : PlainAttrs T) (slot : Slot T name id) (hty : typeOf (.builtin id) = pure (.type "method_descriptor")) (hm : MtR X id r) (ho : PE X o to) (ha : PA X (e :: es) t)
    (hbase : attributeBase o name X.env (eval o X.env) = eval o X.env := by rfl)
    (hfew : ((backTo cpos (starEach (e :: es) X.env)).all (fun x => !x.1) && (backToKw cpos (keywordEach [] X.env)).all (fun x => x.1.isSome)
      && decide ((e :: es).length + ([] : List Keyword).length + (if ([] : List Keyword).isEmpty then 0 else 1) < 30)) = true := by rfl)
    (hline : (apos.endLine == cpos.line) = true := by rfl) (hs : starEach (e :: es) X.env = (false, eval e X.env) :: starEach es X.env := by rfl) (hplain : (backTo cpos (starEach es X.env)).any (·.1) = false := by rfl) :
    PE X (.Call (.Attribute o name apos) (e :: es) [] cpos) (tBM X.K T r to t) := by
  intro pins s σ H Q I h
  refine wpAny_Call_method_late hbase hfew hline rfl (thn (ho pins s σ H _ I h) fun v s1 hpt9 => ?_)
  obtain ⟨x, H1, I1, r1, ty, q1⟩ := hpt9
  obtain ⟨h1, h2⟩ := tyV_is I1 r1 ty
  refine ⟨T, id, pa, slot, hty, h1, h2, ?_⟩
  have hA := ha cpos pins s1 σ H1 _ I1 q1
  rw [hs] at hA ⊢
  refine Calls.callWith_builtin (by show (false || (backTo cpos (starEach es X.env)).any (·.1)) = false; rw [hplain] <;> rfl) (Calls.evalArgs_plain ?_)
  exact thn hA fun us s2 ⟨vs, H2, I2, r2, q2⟩ => hm pins s2 σ H2 x vs v us Q I2 r1 r2 q2
end
end L2
namespace L2
open PySem PySem.Spec PyProof.Rows
noncomputable def MtM (X : Cx) (id : String) (r : V → List V → Hp → VK → Prop) : Prop :=
  ∀ (pins : List (Addr × Obj)) (s : Shared) (σ : St) (H : Hp) (x : V) (xs : List V) (v : Value) (us : List Value) (Q : VK), Inv X pins σ H s → RelV x v → Vals xs us → r x xs H Q →
    wpAny (model X.prog X.w) X.A (call (.builtin id) (v :: us)) (EP X pins σ Q) X.xe s
theorem Vals.one {x : V} {us : List Value} (h : Vals [x] us) : ∃ u, us = [u] ∧ RelV x u := by
  cases h with
  | cons r t => cases t; exact ⟨_, rfl, r⟩
theorem Vals.two {x y : V} {us : List Value} (h : Vals [x, y] us) : ∃ u v, us = [u, v] ∧ RelV x u ∧ RelV y v := by
  cases h with
  | cons r t =>
    cases t with
    | cons q t => cases t; exact ⟨_, _, rfl, r, q⟩
section
variable {X : Cx} {pins : List (Addr × Obj)} {σ : St} {H : Hp} {s : Shared} {l b : Addr} {xs ys zs : List V}
theorem Inv.lset {its its' : List Value} {n : Nat} {f : Array Value → Array Value} {t' : Nat} (I : Inv X pins σ H s) (hH : H l = some (.lst xs))
    (e : s.heap.get? l = some { cls := .type "list", data := .seq its.toArray n }) (hf : f its.toArray = its'.toArray) (hv : Vals ys its') (hz : ys.length ≤ sizeLine) :
    Inv X pins σ (upd H l (.lst ys)) { s with heap := s.heap.update l (Obj.mapSeq f), toks := t' } := by
  have q := PySem.IsL.update e f
  rw [hf] at q
  refine I.write (x := l) (e := l) (by rw [hH]; exact trivial) (.inl rfl) (fun b' u hb hu => (Heap.get?_update_other s.heap (Obj.mapSeq f) (Ne.symm hb)).trans hu) ⟨_, q⟩ ?_
  exact ⟨hz, its', _, hv, q⟩
theorem Inv.lnew {its : List Value} {t' : Nat} (I : Inv X pins σ H s) (hv : Vals ys its) (hz : ys.length ≤ sizeLine) :
    Inv X pins σ (upd H s.heap.objs.size (.lst ys)) { s with heap := s.heap.push { cls := .type "list", data := .seq its.toArray }, toks := t' } :=
  I.laid (fun _ _ q => Heap.get?_push_of_some _ q) (Nat.le_refl _) ⟨hz, its, 0, hv, Heap.get?_push_size _ rfl⟩
theorem Inv.fresh (I : Inv X pins σ H s) : H s.heap.objs.size = none := I.hok.fresh (Nat.le_refl _)
theorem Inv.lstM (I : Inv X pins σ H s) (hH : H l = some (.lst xs)) : xs.length ≤ sizeLine ∧ ∃ (its : List Value) (n : Nat), Vals xs its ∧ xs.length = its.length ∧ s.heap.get? l = some { cls := .type "list", data := .seq its.toArray n } := by
  obtain ⟨z, its, n, r, e⟩ := I.hok l _ hH
  exact ⟨z, its, n, r, r.length, e⟩
theorem notLongL {n : Nat} (h : n ≤ sizeLine) : Builtin.List.listTooLong n = false := by
  unfold Builtin.List.listTooLong
  exact decide_eq_false (by omega)
end
section
variable {X : Cx}
noncomputable def rAppend : V → List V → Hp → VK → Prop := fun x vs H Q => ∃ l xs y, x = .ref l ∧ vs = [y] ∧ H l = some (.lst xs) ∧ xs.length < sizeLine ∧ Q .non (upd H l (.lst (xs ++ [y])))
theorem mt_append : MtM X "list.append" rAppend := by
  intro pins s σ H x vs v us Q I rx rv h
  obtain ⟨l, xs, y, rfl, rfl, hH, hz, q⟩ := h
  cases rx
  obtain ⟨u, rfl, ru⟩ := rv.one
  obtain ⟨z, its, n, r, hl, e⟩ := I.lstM hH
  refine call_meets F.slot_list_append ⟨_, e, rfl⟩ F.entry_list_append (F.args_list_append_2 _ _) (PySem.list_append l its.toArray n u (by rw [List.size_toArray]; omega)) ⟨e, ?_⟩
  refine ⟨.non, _, I.lset (its' := its ++ [u]) hH e (by simp) (r.append (.cons ru .nil)) ?_, rfl, q⟩
  rw [List.length_append, List.length_singleton]
  omega
end
section
variable {prog : Program} {w : World} {A : Around} {E : Value → Shared → Prop} {s : Shared}
end
section
variable {X : Cx}
end
end L2
namespace Att
open PySem PySem.W PySem.Calls PyProof.Rows
theorem ints_of_wellAll {P : Params} {h : Heap} : ∀ (ns : List Int) (vs : List Value), WellAll P h vs (ns.map WData.int) → IntsAre vs ns := by
  intro ns
  induction ns with
  | nil =>
    intro vs w
    rw [List.map_nil] at w
    cases w
    exact .nil
  | cons n ns ih =>
    intro vs w
    rw [List.map_cons] at w
    cases w with
    | cons a b =>
      cases a
      exact .cons _ _ (ih _ b)
theorem script_of {l : OpenLaw} {n : Nat} (hn : l.most = some n) {P : Params} {h : Heap} {args : List WData} {vals : List Value}
    (hpre : l.row.toRowW.claim.pre args = true) (hwl : WellAll P h vals args) :
    ∃ a vs ns, vals = [Value.ref a] ∧ args = [WData.list (ns.map WData.int)] ∧ h.get? a = some { cls := .type "list", data := .seq vs.toArray } ∧ IntsAre vs ns ∧ ns.length ≤ n := by
  have hsh : WShape.hasAll [] args [.list .int] = true := (pre_splitW hpre).1
  have hc : l.pre.holds [] { args := args } = true := (pre_splitW hpre).2
  obtain ⟨d, r, rfl, h1, h2⟩ := hasAllW_cons hsh
  obtain rfl := hasAllW_nil h2
  obtain ⟨xs, rfl, h3⟩ := hasW_list h1
  obtain ⟨ns, rfl⟩ := items_int h3
  have hlen : ns.length ≤ n := by
    unfold OpenLaw.pre at hc
    have h4 : (WTm.not (.lt (.lit (.int (n : Int))) (.len (.arg 0)))).holds [] { args := [.list (ns.map .int)] } = true := by
      have h4 := (holds_andW hc).1
      rw [hn] at h4
      exact h4
    have h5 := condW_of h4 (w_not (w_lt w_lit (w_len_list (w_arg rfl))))
    rw [List.length_map] at h5
    refine Nat.le_of_not_lt fun q => ?_
    have q' : (n : Int) < ((ns.length : Nat) : Int) := by omega
    first
      | (rw [decide_eq_true q'] at h5; exact absurd h5 (by decide))
      | (simp at h5; omega)
  cases hwl with
  | cons w1 w2 =>
    cases w2
    cases w1 with
    | list ho hall => exact ⟨_, _, ns, rfl, rfl, ho, ints_of_wellAll ns _ hall, hlen⟩
theorem post_true (l : OpenLaw) (args : List WData) : l.row.toRowW.claim.post args (.bool true) args = true :=
  postW_of (r := l.row.toRowW) (X := (true == true))
    (show WShape.has [] (.bool true) .bool = true by first | rfl | decide | simp [WShape.has, WShape.arms, WShape.armsAll])
    (show (WTm.eq .res (.lit (.bool true))).value [] { args := args, res := some (.bool true), after := args } = some (.bool (true == true)) from w_eq_bool (w_res rfl) w_lit) rfl
theorem attach_call {l : OpenLaw} {n : Nat} {q : Program} {loose : List Str} {XP : (Str → Option Value) → Heap → Prop} {YP : World → Heap → Prop} {d : DefRec}
    (hn : l.most = some n) (hdf : d.params.defaults = [])
    (call : ∀ (w : World) (s₀ s₁ : Shared) (mg mb : Str → Option Value) (fa : Addr) (o : Obj) (pm cd doc : Value) (a : Addr) (vs : List Value) (ns : List Int),
      Ground q loose [] XP w s₀ mg mb s₁.heap → YP w s₁.heap →
      s₁.heap.get? fa = some o → o.data = .func (docDef d.name d.params d.body d.scope pm cd doc) → s₁.heap.CodeRec cd d.name → mg d.name = some (.ref fa) →
      s₁.heap.get? a = some { cls := .type "list", data := .seq vs.toArray } → IntsAre vs ns → ns.length ≤ n → s₁.gens = #[] →
      codeAny (model l.prog w) callerA (.call (.ref fa) ⟨[.ref a], []⟩) (fun r s' => r = .ok (.ret (.bool true)) ∧ OldK s₁.heap s'.heap ∧ s'.os = s₁.os ∧ AllBare s'.gens) s₁) :
    WalkO q loose XP YP l.row.toRowW d [] (fun f vs => PySem.call f vs) := by
  intro w s₀ s₁ mg mb G Y fa o pm cd doc dV kV ho hd hcd hD hmg hg args vals as hpre hlay hrd hwl hlo
  obtain rfl : dV = .none := Dflts.none hD hdf
  obtain rfl : kV = .none := Dflts.noKw hD
  obtain ⟨a, vs, ns, rfl, rfl, hobj, hints, hlen⟩ := script_of hn hpre hwl
  refine enter_call (codeAny_mono (call w s₀ s₁ mg mb fa o pm cd doc a vs ns G Y ho (fd_plain hd) hcd hmg hobj hints hlen hg) fun r s' hq => ?_)
  obtain ⟨rfl, h2, h3, h4⟩ := hq
  exact ⟨.inl ⟨.bool true, .bool true, [], rfl, fun _ => rfl, .bool true, post_true l _, fun _ => ⟨List.Pairwise.nil, fun _ hm => (nomatch hm)⟩⟩, h2, h3, h4⟩
section
variable {prog : Program} {w : World} {A : Around} {E : Value → Shared → Prop} {s : Shared} {K : Frag}
end
end Att
namespace L2
open PySem PySem.Spec PyProof.Rows
theorem vals_ints : ∀ {vs : List Value} {ns : List Int}, IntsAre vs ns → Vals (ns.map V.int) vs
  | _, _, .nil => .nil
  | _, _, .cons n t h => .cons ⟨t, rfl⟩ (vals_ints h)
noncomputable def Only (H : Hp) : Prop := ∀ b, H b = none ∨ ∃ o xs, H b = some (.frz o (.lst xs))
theorem law_call {P : Program} {w : World} {K : PySem.W.Frag} {mg mb : Str → Option Value} {CX : CXT} {k : Nat} {fa a : Addr} {fd : FuncData} {x : Str} {sp : Sp} {s₁ : Shared} {vs : List Value} {ns : List Int}
    (KX : K.In s₁.heap) (hns : s₁.heap.Ns mainGlobals mg) (hb : s₁.heap.Ns builtinsNs mb) (hbb : ∀ x : Str, x ≠ "__name__" → mb x = bootBuiltins x) (hlim : s₁.heap.NoLimit) (hg : s₁.gens = #[])
    (ha : s₁.heap.get? a = some { cls := .type "list", data := .seq vs.toArray }) (hi : IntsAre vs ns) (hl : ns.length ≤ sizeLine) (hr : Room k callerA)
    (F : ∀ base : Heap, K.In base → base.Ns mainGlobals mg → FnOk P w K mg base CX k fa fd [x] sp) (hbind : ∀ (s : Shared) (u : Value), BindsTo s fd ⟨[u], []⟩ [(x, u)])
    (hsp : ∀ H : Hp, Only H → SqL K H a (ns.map V.int) → sp [.ref a] H (fun v _ => v = .bl true) fun _ _ _ => False)
    (hCX : ∀ H e s', CX [] H s₁ (fun _ _ _ => False) e s' → False) :
    codeAny (model P w) callerA (.call (.ref fa) ⟨[.ref a], []⟩) (fun r s' => r = .ok (.ret (.bool true)) ∧ OldK s₁.heap s'.heap ∧ s'.os = s₁.os ∧ AllBare s'.gens) s₁ := by
  have rv := vals_ints hi
  have lenV := hi.length
  -- from an abstract heap in which nothing but the script may be tracked
  have core : ∀ H : Hp, Only H → SqL K H a (ns.map V.int) → HOk P w H s₁.heap → (∀ b, H b ≠ none → b = a) → (H a ≠ none → K.lookup a = none) →
      codeAny (model P w) callerA (.call (.ref fa) ⟨[.ref a], []⟩) (fun r s' => r = .ok (.ret (.bool true)) ∧ OldK s₁.heap s'.heap ∧ s'.os = s₁.os ∧ AllBare s'.gens) s₁ := by
    intro H hO hS hok hA hK
    have base_of : ∀ {b : Addr} {o : Obj}, s₁.heap.get? b = some o → H b = none → (hidT s₁.heap H).get? b = some o := fun e n => hidT_get e n
    have noA : ∀ {b : Addr} {o : Obj} {es : Array DictEntry} {ep : Nat}, s₁.heap.get? b = some o → o.data = .dict es ep → H b = none := fun {b o es ep} e d => by
      cases q : H b with
      | none => rfl
      | some u =>
        have e' : b = a := hA b (by rw [q]; simp)
        subst e'
        rw [ha] at e; cases e
        have d' : Data.seq vs.toArray _ = Data.dict es ep := d
        cases d'
    have nsK : ∀ {b : Addr} {m : Str → Option Value}, s₁.heap.Ns b m → (hidT s₁.heap H).Ns b m := fun {b m} ⟨o, es, ep, e, d, r⟩ => ⟨o, es, ep, base_of e (noA e d), d, r⟩
    have hKb : K.In (hidT s₁.heap H) := fun b o e => base_of (KX b o e) (by
      cases q : H b with
      | none => rfl
      | some u =>
        have e' : b = a := hA b (by rw [q]; simp)
        subst e'
        rw [hK (by rw [q]; simp)] at e; cases e)
    have hM : Mod K mg (hidT s₁.heap H) := ⟨hKb, nsK hns, ⟨mb, nsK hb, hbb⟩, let ⟨mc, h1, h2⟩ := hlim; ⟨mc, nsK h1, h2⟩⟩
    have e0 : Env0 P w K mg (hidT s₁.heap H) callerA [] s₁ H := ⟨rfl, hM, fun b o e => of_hidT e, Nat.le_of_eq (hidT_size _ _), trivial, fun b hb => absurd (show b ∈ ([] : List Addr) from hb) (by simp), hok, .of_eq hg⟩
    refine codeAny_mono ((F _ hKb (nsK hns)).run callerA [] s₁ H ⟨[.ref a], []⟩ [.ref a] [.ref a] _ _ hr e0 (hbind s₁ (.ref a)) (.cons rfl .nil) (hsp H hO hS)) fun r s' h => ?_
    cases r with
    | error e => exact (hCX H e s' h).elim
    | ok fl =>
      cases fl with
      | next => exact False.elim h
      | brk => exact False.elim h
      | cont => exact False.elim h
      | ret u =>
        obtain ⟨v, H', os, bare, un, hok', r', q⟩ := h
        have q' : v = .bl true := q
        subst q'
        obtain rfl : u = Value.bool true := r'
        refine ⟨rfl, OldK.of_keep fun b o e => ?_, os, bare⟩
        cases q : H b with
        | none => exact un.keep b o e q (by intro z; exact absurd (show b ∈ ([] : List Addr) from z) (by simp)) (by simp)
        | some u =>
          rcases hO b with z | ⟨ob, xs, z⟩
          · rw [q] at z; cases z
          · have z2 := un.frzs b ob _ z
            obtain ⟨e1, _⟩ := hok b _ z
            obtain ⟨e2, _⟩ := hok' b _ z2
            rw [e] at e1; cases e1
            exact e2
  cases hk : K.lookup a with
  | some o =>
    -- the script is one of the module's own objects
    have e := KX a o hk
    rw [ha] at e
    cases e
    refine core (fun _ => none) (fun _ => .inl rfl) (.inr ⟨_, vs.toArray, _, hk, rfl, rfl, rfl, by rw [List.size_toArray, lenV]; exact hl, by simpa using rv⟩) (fun b u z => by have z' : (none : Option HO) = some u := z; cases z') (fun b z => absurd rfl z) fun z => absurd rfl z
  | none =>
    refine core (fun b => if b = a then some (.frz { cls := .type "list", data := .seq vs.toArray } (.lst (ns.map V.int))) else none) (fun b => ?_) (.inl (.inr ⟨{ cls := .type "list", data := .seq vs.toArray }, if_pos rfl⟩)) (fun b u z => ?_) (fun b z => ?_) fun _ => hk
    · by_cases hb : b = a
      · exact .inr ⟨_, _, if_pos hb⟩
      · exact .inl (if_neg hb)
    · by_cases hb : b = a
      · have z' := (if_pos hb).symm.trans z
        cases z'
        subst hb
        exact ⟨ha, by rw [List.length_map]; exact hl, vs, _, rv, ha⟩
      · have z' := (if_neg hb).symm.trans z
        cases z'
    · by_cases hb : b = a
      · exact hb
      · exact absurd (if_neg hb) z
end L2
namespace L2
open PySem PySem.Spec PyProof.Rows
theorem walk_of {l : PySem.W.OpenLaw} {n k : Nat} {q : Program} {loose : List Str} {XP : (Str → Option Value) → Heap → Prop} {YP : World → Heap → Prop} {d : DefRec} {K : Params → PySem.W.Frag} {CX : World → CXT} {sp : World → Sp} {x : Str}
    (hn : l.most = some n) (hn2 : n ≤ sizeLine) (hdf : d.params.defaults = []) (hr : Room k callerA)
    (hY : ∀ (w : World) (h : Heap), YP w h → (K w.params).In h)
    (F : ∀ (w : World) (mg : Str → Option Value) (fa : Addr) (h : Heap), (K w.params).In h → h.Ns mainGlobals mg → mg d.name = some (.ref fa) →
      ∃ fd : FuncData, (∀ (s : Shared) (u : Value), BindsTo s fd ⟨[u], []⟩ [(x, u)]) ∧
        ∀ base : Heap, (K w.params).In base → base.Ns mainGlobals mg → FnOk l.prog w (K w.params) mg base (CX w) k fa fd [x] (sp w))
    (hsp : ∀ (w : World) (H : Hp) (a : Addr) (ns : List Int), ns.length ≤ n → Only H → SqL (K w.params) H a (ns.map V.int) → sp w [.ref a] H (fun v _ => v = .bl true) fun _ _ _ => False)
    (hCX : ∀ (w : World) (H : Hp) (s : Shared) (e : Value) (s' : Shared), CX w [] H s (fun _ _ _ => False) e s' → False) :
    PySem.W.WalkO q loose XP YP l.row.toRowW d [] (fun f vs => PySem.call f vs) := by
  refine Att.attach_call hn hdf fun w s₀ s₁ mg mb fa o pm cd doc a vs ns G Y ho hd hcd hmg hobj hints hlen hg => ?_
  have KX := hY w _ Y
  obtain ⟨fd, hb, hF⟩ := F w mg fa _ KX G.T.g hmg
  exact law_call KX G.T.g G.T.b G.T.builtins G.T.nolimit hg hobj hints (Nat.le_trans hlen hn2) hr hF hb (fun H hO hS => hsp w H a ns hlen hO hS) fun H e s' => hCX w H s₁ e s'
end L2
namespace L2
open PySem PySem.Spec PyProof.Rows
noncomputable def defArgs (s : Stmt) : Arguments := match s with
  | .FunctionDef _ a _ _ _ _ _ _ _ _ => a
  | _ => { posonlyargs := [], args := [], vararg := none, kwonlyargs := [], kw_defaults := [], kwarg := none, defaults := [] }
noncomputable def defBody (s : Stmt) : List Stmt := match s with
  | .FunctionDef _ _ b _ _ _ _ _ _ _ => b
  | _ => []
noncomputable def defScope (s : Stmt) : Scope := match s with
  | .FunctionDef _ _ _ _ _ _ sc _ _ _ => sc
  | _ => { kind := .function, names := [], isGenerator := false, isCoroutine := false }
noncomputable abbrev CX0 : CXT := fun _ _ _ _ _ _ => False
noncomputable abbrev E0 : XK := fun _ _ _ => False
theorem pass0 {X : Cx} : Passes CX0 X E0 := fun _ _ _ _ _ _ _ h => h.elim
structure Fun (K : PySem.W.Frag) (x qual : Str) (st : Stmt) (f : Addr) (fd : FuncData) : Prop where
  ex : ∃ (oc : Value) (od : Option Addr) (kV doc pm : Value) (an : Option Addr) (cdv ct : Value) (osl : Array (Option Value)),
    fd = PySem.W.fnOf x qual (defArgs st) (defBody st) (defScope st) .none kV doc pm an cdv ct ∧ K.lookup f = some ⟨oc, od, .func fd, osl⟩ ∧ PySem.W.codeIn K cdv qual = true
  kp : PySem.W.keepIn K (.ref f) = true
section
variable {P : Program} {w : World} {K : PySem.W.Frag} {mg : Str → Option Value} {base : Heap}
theorem Fun.ok {x qual : Str} {st : Stmt} {f : Addr} {fd : FuncData} {N ps : List Str} {k : Nat} {sp : Sp} (F : Fun K x qual st f fd) (S : FnScope N ps (defScope st)) (len : ∀ vs H Q E, sp vs H Q E → vs.length = ps.length)
    (hbody : ∀ (cdv : Value) (A : Around) (outer : List Env) (s : Shared) (H : Hp) (vs : List V) (Q : VK) (E : XK), Room k (A.deeper (envOfC qual (defScope st) s.heap.objs.size f cdv)) → sp vs H Q E →
      ∃ t, PSs (cxOf CX0 P w K mg base N qual (defScope st) f cdv A outer s H E).nox (defBody st) t ∧ t { nx := fun _ H' => Q .non H', rt := Q } (start N vs) H) : FnOk P w K mg base CX0 (k + 1) f fd ps sp := by
  obtain ⟨oc, od, kV, doc, pm, an, cdv, ct, osl, rfl, lk, hcd⟩ := F.ex
  refine fn_of lk hcd S len fun A outer s H vs Q E hr hsp => ?_
  obtain ⟨t, h, q⟩ := hbody cdv A outer s H vs Q E hr hsp
  exact ⟨t, h.nox, q⟩
theorem Fun.binds {x qual : Str} {st : Stmt} {f : Addr} {fd : FuncData} {ps : List Str} (F : Fun K x qual st f fd)
    (h : ∀ (kV doc pm : Value) (an : Option Addr) (cdv ct : Value) (us : List Value), us.length = ps.length → bindArgs (PySem.W.fnOf x qual (defArgs st) (defBody st) (defScope st) .none kV doc pm an cdv ct) ⟨us, []⟩ = pure (ps.zip us)) : Binds K fd ps [] := by
  obtain ⟨oc, od, kV, doc, pm, an, cdv, ct, osl, rfl, lk, hcd⟩ := F.ex
  exact .all (h kV doc pm an cdv ct)
theorem fun_mk {x qual : Str} {st : Stmt} {f : Addr} {oc : Value} {od an : Option Addr} {osl : Array (Option Value)} {kV doc pm cdv ct : Value} (l : K.lookup f = some ⟨oc, od, .func (PySem.W.fnOf x qual (defArgs st) (defBody st) (defScope st) .none kV doc pm an cdv ct), osl⟩)
    (c : PySem.W.codeIn K cdv qual = true) (k : PySem.W.keepIn K (.ref f) = true) : Fun K x qual st f (PySem.W.fnOf x qual (defArgs st) (defBody st) (defScope st) .none kV doc pm an cdv ct) := ⟨⟨oc, od, kV, doc, pm, an, cdv, ct, osl, rfl, l, c⟩, k⟩
end
section
variable {X : Cx}
theorem pv (i : Nat) {x : Str} {pos : Pos} (hN : X.N[i]? = some x := by rfl) (hv : Vis X.env.scope x := by first | exact Or.inl rfl | exact Or.inr (Or.inl rfl) | exact Or.inr (Or.inr rfl)) (hd : (x == ("__debug__" : Str)) = false := by decide)
    (hcd : (x == ("__classdict__" : Str)) = false := by decide) : PE X (.Name x pos) (tVar i) := pe_var hN hv hd hcd
end
theorem iteF {A B : Prop} (h : B) : if false = true then A else B := by
  rw [if_neg Bool.false_ne_true]
  exact h
theorem iteT {A B : Prop} (h : A) : if true = true then A else B := by
  rw [if_pos rfl]
  exact h
noncomputable def Same (H H' : Hp) : Prop := ∀ b o, H b = some o → H' b = some o
theorem Same.refl (H : Hp) : Same H H := fun _ _ h => h
theorem Same.trans {H H1 H2 : Hp} (a : Same H H1) (b : Same H1 H2) : Same H H2 := fun c o h => b c o (a c o h)
theorem Same.free {H H' : Hp} (e : Same H H') {l : Addr} (h : H' l = Option.none) : H l = Option.none := by
  cases q : H l with
  | none => rfl
  | some o =>
    rw [e l o q] at h
    cases h
end L2
set_option linter.all false
set_option maxHeartbeats 4000000
set_option maxRecDepth 100000
namespace L2
open PySem PySem.Spec PyProof.Rows
structure CmpOk (XN : List Str) (sc scope : Scope) (N : List Str) (js : List (Option Nat)) : Prop where
  kind : scope.kind = .function
  cell : ∀ y ∈ scope.names, y.2 ≠ .cell
  free : ∀ y ∈ scope.names, y.2 = .free → sc.names.lookup y.1 = some .cell ∨ sc.names.lookup y.1 = some .free
  loc : ∀ y ∈ scope.names, y.2 = .local → scope.names.lookup y.1 = some .local
  len : js.length = N.length
  ix : ((N.zip js).all fun p => match p.2 with | none => true | some j => decide (XN[j]? = some p.1) && decide (scope.names.lookup p.1 = some .free)) = true
noncomputable def clOf (env : Env) : List (Str × NameKind) → List (Str × Addr) → List (Str × Addr)
  | [], cs => cs
  | (n, k) :: r, cs => clOf env r (if k = .free then (match env.cells.lookup n with | some c => (n, c) :: cs | none => cs) else cs)
theorem clOf_sub {env : Env} : ∀ {names : List (Str × NameKind)} {cs : List (Str × Addr)}, (∀ n c, cs.lookup n = some c → env.cells.lookup n = some c) → ∀ n c, (clOf env names cs).lookup n = some c → env.cells.lookup n = some c
  | [], _, h => h
  | (m, k) :: r, cs, h => by
    unfold clOf
    refine clOf_sub ?_
    split
    · cases e : env.cells.lookup m with
      | none => exact h
      | some d =>
        intro n c hn
        dsimp only at hn
        rw [List.lookup_cons] at hn
        cases q : n == m with
        | true =>
          rw [q] at hn
          have e1 : n = m := by simpa using q
          cases hn
          rw [e1]; exact e
        | false => rw [q] at hn; exact h n c hn
    · exact h
theorem clOf_has {env : Env} : ∀ {names : List (Str × NameKind)} {cs : List (Str × Addr)} {n : Str}, ((n, NameKind.free) ∈ names ∧ (∃ c, env.cells.lookup n = some c)) ∨ (∃ c, cs.lookup n = some c) → ∃ c, (clOf env names cs).lookup n = some c
  | [], _, _, h => h.elim (fun z => by cases z.1) id
  | (m, k) :: r, cs, n, h => by
    unfold clOf
    refine clOf_has ?_
    rcases h with ⟨hm, c, hc⟩ | ⟨c, hc⟩
    · rcases List.mem_cons.mp hm with e | hm
      · cases e
        right
        rw [if_pos rfl, hc]
        exact ⟨c, by rw [List.lookup_cons]; simp⟩
      · exact .inl ⟨hm, c, hc⟩
    · right
      split
      · cases e : env.cells.lookup m with
        | none => exact ⟨c, hc⟩
        | some d =>
          dsimp only
          rw [List.lookup_cons]
          cases q : n == m with
          | true => exact ⟨d, rfl⟩
          | false => exact ⟨c, hc⟩
      · exact ⟨c, hc⟩
theorem closure_is {env : Env} {scope : Scope} (h : ∀ y ∈ scope.names, y.2 = .free → ∃ c, env.cells.lookup y.1 = some c) : closureFor scope env = pure (clOf env scope.names []) := by
  have key : ∀ (names : List (Str × NameKind)) (cs : List (Str × Addr)), (∀ y ∈ names, y.2 = .free → ∃ c, env.cells.lookup y.1 = some c) →
      (forIn names cs (fun (x : Str × NameKind) r => if (x.2 == NameKind.free) = true then (do let a ← cellOf env x.1; pure (ForInStep.yield ((x.1, a) :: r))) else pure (ForInStep.yield r)) : Sem (List (Str × Addr))) = pure (clOf env names cs) := by
    intro names
    induction names with
    | nil => intro cs _; rfl
    | cons y r ih =>
      intro cs hy
      obtain ⟨n, k⟩ := y
      rw [List.forIn_cons]
      unfold clOf
      by_cases hk : k = .free
      · subst hk
        obtain ⟨c, hc⟩ := hy _ List.mem_cons_self rfl
        have e1 : cellOf env n = pure c := by unfold cellOf; rw [hc]
        rw [if_pos (by rfl)]
        rw [if_pos rfl, hc]
        show ((cellOf env n >>= fun a => pure (ForInStep.yield ((n, a) :: cs))) >>= _) = _
        rw [e1]
        exact ih _ fun z hz => hy z (List.mem_cons_of_mem _ hz)
      · have hb : (k == NameKind.free) = false := by simpa using hk
        rw [if_neg (by rw [hb]; decide), if_neg hk]
        exact ih _ fun z hz => hy z (List.mem_cons_of_mem _ hz)
  have k := key scope.names [] h
  unfold closureFor
  show (forIn scope.names ([] : List (Str × Addr)) _ >>= fun cs => pure cs) = _
  refine Eq.trans (congrArg (fun t => t >>= fun cs => pure cs) (Eq.trans ?_ k)) rfl
  congr 1
theorem relab_free {env : Env} : ∀ {names : List (Str × NameKind)} {x : Str}, names.lookup x = some .free →
    (names.map fun (n, k) => if (k == NameKind.free && env.scope.kind == .function && env.kindOf n == some .cell) then (n, NameKind.cell) else (n, k)).lookup x = some .cell ∨
    (names.map fun (n, k) => if (k == NameKind.free && env.scope.kind == .function && env.kindOf n == some .cell) then (n, NameKind.cell) else (n, k)).lookup x = some .free
  | [], _, h => by simp at h
  | (n, k) :: r, x, h => by
    have ih := @relab_free env r x
    rw [List.map_cons]
    dsimp only
    cases q : x == n with
    | true =>
      rw [List.lookup_cons, q] at h
      cases h
      split
      · left; rw [List.lookup_cons, q]
      · right; rw [List.lookup_cons, q]
    | false =>
      rw [List.lookup_cons, q] at h
      split
      · rw [List.lookup_cons, q]; exact ih h
      · rw [List.lookup_cons, q]; exact ih h
theorem relab_back {env : Env} : ∀ {names : List (Str × NameKind)} {x : Str} {j : NameKind}, (∀ y ∈ names, y.2 ≠ .cell) → (j = .cell ∨ j = .free) →
    (names.map fun (n, k) => if (k == NameKind.free && env.scope.kind == .function && env.kindOf n == some .cell) then (n, NameKind.cell) else (n, k)).lookup x = some j → (x, NameKind.free) ∈ names
  | [], _, _, _, _, h => by simp at h
  | (n, k) :: r, x, j, hc, hj, h => by
    have ih := @relab_back env r x j (fun y hy => hc y (List.mem_cons_of_mem _ hy)) hj
    rw [List.map_cons] at h
    dsimp only at h
    cases q : x == n with
    | true =>
      have e : x = n := by simpa using q
      subst e
      split at h
      · rename_i g
        have : k = .free := by
          simp only [Bool.and_eq_true, beq_iff_eq] at g
          exact g.1.1
        subst this
        exact List.mem_cons_self
      · rw [List.lookup_cons, q] at h
        cases h
        rcases hj with z | z
        · exact absurd z (hc _ List.mem_cons_self)
        · rw [z]; exact List.mem_cons_self
    | false =>
      refine List.mem_cons_of_mem _ (ih ?_)
      split at h
      · rw [List.lookup_cons, q] at h; exact h
      · rw [List.lookup_cons, q] at h; exact h
noncomputable def inn (js : List (Option Nat)) (σ : St) : St := js.map fun o => match o with | none => none | some j => (σ[j]?).join
structure CxZ where
  cl : List (Str × Addr)
  C : Addr
  s : Shared
  H : Hp
  fp : List Addr
  pins : List (Addr × Obj)
noncomputable def cxC (X : Cx) (N : List Str) (scope : Scope) (z : CxZ) : Cx where
  prog := X.prog
  w := X.w
  K := X.K
  mg := X.mg
  base := X.base
  A := X.A
  N := N
  s₀ := z.s
  H₀ := z.H
  env := compEnvC scope z.cl z.C X.env
  outer := X.stack
  stack := X.stack
  ex := z.fp
  fn := fun _ => false
  calm := X.calm
  pn := X.pn ++ z.pins
  xe := fun _ _ => False
section
variable {X : Cx} {pins : List (Addr × Obj)} {σ : St} {H : Hp} {s : Shared} {XN N : List Str} {sc scope : Scope} {js : List (Option Nat)}
theorem inv_comp {h1 : Heap} {m : Str → Option Value} {tk : Nat} {fp : List Addr} (ck : CmpOk XN sc scope N js) (hXN : X.N = XN) (hsc : X.env.scope = sc) (I : Inv X pins σ H s) (hf : ∀ b ∈ fp, FpOk X pins H b)
    (hfo : ∀ b ∈ fp, b < s.heap.objs.size) (hn : h1.Ns s.heap.objs.size m) (hk : ∀ b o, s.heap.get? b = some o → h1.get? b = some o) :
    Inv (cxC X N scope ⟨clOf X.env scope.names [], s.heap.objs.size, s, H, fp, pins⟩) [] (inn js σ) H { s with heap := h1, toks := tk } := by
  subst hXN hsc
  have sub : ∀ n c, (clOf X.env scope.names []).lookup n = some c → X.env.cells.lookup n = some c := clOf_sub fun n c h => by simp at h
  have clt : ∀ n c, (clOf X.env scope.names []).lookup n = some c → c < s.heap.objs.size := fun n c h => by
    obtain ⟨v, q⟩ := I.cell n c (sub n c h)
    exact q.lt
  have has : ∀ x, (x, NameKind.free) ∈ scope.names → ∃ c, (clOf X.env scope.names []).lookup x = some c := fun x hx =>
    clOf_has (.inl ⟨hx, I.ok.has x (ck.free _ hx rfl)⟩)
  refine ⟨⟨I.ok.mod, ck.kind, I.ok.glob, I.ok.blt, Nat.le_refl _, fun x y c h1 h2 => I.ok.inj x y c (sub x c h1) (sub y c h2), fun x hx => ?has, fun x c hx => ?cab, I.ok.hd, I.ok.frames, .inl rfl, fun b hb => ?exf, I.bs, ?bsz, fun b o e hb => ?noex, fun b hb => ?exfs, I.stack, I.stkFree⟩,
    rfl, I.bare, Un.kept hk, ⟨m, hn, fun i x v h1 h2 h3 => ?loc⟩, fun x c h => ?cell, I.hok.fresh (Nat.le_refl _), fun x c h => I.freeC x c (sub x c h), fun p hp => ?pin, I.hok.kept hk, ?len⟩
  case has =>
    rcases hx with hx | hx
    · exact has x (relab_back ck.cell (.inl rfl) hx)
    · exact has x (relab_back ck.cell (.inr rfl) hx)
  case cab => cases hx
  case exf =>
    obtain ⟨f0, f1, f2, f3, f4, f5⟩ := hf b hb
    exact ⟨Nat.ne_of_lt (hfo b hb), fun x c e => f4 x c (sub x c e)⟩
  case bsz => exact Nat.le_trans I.ok.bsz I.sz
  case noex =>
    obtain ⟨f0, f1, f2, f3, f4, f5⟩ := hf b hb
    rcases f3 with f3 | f3
    · exact I.ok.noex b o e f3
    · exact absurd (Nat.lt_of_lt_of_le (Heap.lt_size e) (Nat.le_trans I.ok.bsz f3)) (Nat.lt_irrefl _)
  case exfs =>
    obtain ⟨f0, f1, f2, f3, f4, f5⟩ := hf b hb
    intro z
    rcases List.mem_cons.mp (I.stkSub b z) with e | e
    · exact f1 e
    · exact f2 e
  case loc =>
    have hl : N.length = js.length := ck.len.symm
    have hi : i < js.length := by
      have := (List.getElem?_eq_some_iff.mp h1).1
      have e : (cxC X N scope ⟨clOf X.env scope.names [], s.heap.objs.size, s, H, fp, pins⟩).N = N := rfl
      rw [e] at this
      omega
    have hN : N[i]? = some x := h1
    have hj : js[i]? = some js[i] := List.getElem?_eq_getElem hi
    unfold inn at h2
    rw [List.getElem?_map, hj] at h2
    cases q : js[i] with
    | none => rw [q] at h2; cases h2
    | some j =>
      rw [q] at h2 hj
      have h2' : (σ[j]?).join = some v := Option.some.inj h2
      have hσ : σ[j]? = some (some v) := by
        cases e : σ[j]? with
        | none => rw [e] at h2'; cases h2'
        | some o => rw [e] at h2'; exact congrArg some h2'
      have hm : (x, some j) ∈ N.zip js := by
        refine List.mem_of_getElem? (i := i) ?_
        rw [List.getElem?_zip_eq_some]
        exact ⟨hN, hj⟩
      have hc := List.all_eq_true.mp ck.ix _ hm
      simp only [Bool.and_eq_true, decide_eq_true_eq] at hc
      obtain ⟨c1, c2⟩ := hc
      have hfr : (x, NameKind.free) ∈ scope.names := PySem.mem_of_lookup c2
      have hvis : X.env.scope.names.lookup x = some .cell ∨ X.env.scope.names.lookup x = some .free := ck.free _ hfr rfl
      obtain ⟨m0, hn0, hl0⟩ := I.loc
      obtain ⟨u, r, l⟩ := hl0 j x v c1 hσ (hvis.elim (fun z => .inr (.inl z)) fun z => .inr (.inr z))
      refine ⟨u, r, .inr ⟨?_, ?_⟩⟩
      · exact relab_free c2
      · rcases l with ⟨k1, _⟩ | ⟨_, c, k1, k2⟩
        · have k1' : X.env.scope.names.lookup x = some .local := k1
          rcases hvis with z | z
          · rw [z] at k1'; cases k1'
          · rw [z] at k1'; cases k1'
        · obtain ⟨c', hc'⟩ := has x hfr
          have e := sub x c' hc'
          rw [k1] at e
          cases e
          obtain ⟨oc, ho, hd⟩ := k2
          exact ⟨c, hc', oc, hk _ _ ho, hd⟩
  case cell =>
    obtain ⟨v, oc, ho, hd⟩ := I.cell x c (sub x c h)
    exact ⟨v, oc, hk _ _ ho, hd⟩
  case pin =>
    have hp' : p ∈ X.pn ++ pins := by simpa [cxC] using hp
    obtain ⟨p1, p2, p3, p4, p5⟩ := I.pin p hp'
    refine ⟨hk _ _ p1, p2, Nat.ne_of_lt (Heap.lt_size p1), fun z => ?_, p5⟩
    rcases List.mem_cons.mp (I.stkSub _ z) with e | e
    · exact p3 e
    · exact p4 e
  case len =>
    show (inn js σ).length = N.length
    unfold inn
    rw [List.length_map]
    exact ck.len
noncomputable abbrev TIf := St → Hp → (Bool → Hp → Prop) → Prop
noncomputable def PIf (X : Cx) (ifs : List Expr) (t : TIf) : Prop :=
  ∀ (pins : List (Addr × Obj)) (s : Shared) (σ : St) (H : Hp) (Q : Bool → Hp → Prop), Inv X pins σ H s → t σ H Q →
    wpAny (model X.prog X.w) X.A (forIn ifs true fun c r => if r = true then do let ok ← isTrue c X.env (eval c X.env); pure (ForInStep.yield ok) else pure (ForInStep.yield r)) (TP X pins σ Q) X.xe s
noncomputable def fNone : TIf := fun _ H Q => Q true H
theorem pif_nil : PIf X [] fNone := fun _ _ _ H _ I h => wpAny_tests_nil ⟨H, I, h⟩
theorem pif_one {c : Expr} {t : TT} (h : PT X c t) : PIf X [c] t := fun pins s σ H Q I q => wpAny_tests_one (h pins s σ H Q I q)
noncomputable def Lev (σ σ' : St) : Prop := σ.length = σ'.length ∧ ∀ (i : Nat) (v : V), σ[i]? = some (some v) → σ'[i]? = some (some v)
theorem Lev.refl (σ : St) : Lev σ σ := ⟨rfl, fun _ _ h => h⟩
noncomputable def Sets (js : List (Option Nat)) (g : TG) : Prop := ∀ (σ0 : St) (v : V) (σ : St) (H : Hp) (Q : St → Hp → Prop), Lev (inn js σ0) σ → g v σ H Q → g v σ H fun σ' H' => Lev (inn js σ0) σ' ∧ Q σ' H'
noncomputable def Setss (js : List (Option Nat)) (g : TGs) : Prop := ∀ (σ0 : St) (vs : List V) (σ : St) (H : Hp) (Q : St → Hp → Prop), Lev (inn js σ0) σ → g vs σ H Q → g vs σ H fun σ' H' => Lev (inn js σ0) σ' ∧ Q σ' H'
theorem st_name {i : Nat} (h : js[i]? = some none := by rfl) : Sets js (gName i) := fun σ0 v σ H Q l q => by
  refine ⟨⟨?_, fun j u e => ?_⟩, q⟩
  · rw [List.length_set]; exact l.1
  · by_cases hij : i = j
    · subst hij
      unfold inn at e
      rw [List.getElem?_map, h] at e
      cases e
    · rw [List.getElem?_set_ne hij]
      exact l.2 j u e
theorem sts_nil : Setss js gNil := fun σ0 vs σ H Q l q => ⟨q.1, l, q.2⟩
theorem sts_cons {t : TG} {u : TGs} (h : Sets js t) (k : Setss js u) (mono : ∀ v σ H (Q Q' : St → Hp → Prop), (∀ a b, Q a b → Q' a b) → t v σ H Q → t v σ H Q') : Setss js (gCons t u) := fun σ0 vs σ H Q l q => by
  obtain ⟨v, r, e, q⟩ := q
  exact ⟨v, r, e, mono _ _ _ _ _ (fun σ' H' z => k σ0 r σ' H' Q z.1 z.2) (h σ0 v σ H _ l q)⟩
theorem gName_mono {i : Nat} : ∀ v σ H (Q Q' : St → Hp → Prop), (∀ a b, Q a b → Q' a b) → gName i v σ H Q → gName i v σ H Q' := fun _ _ _ _ _ h q => h _ _ q
theorem st_tup {K : PySem.W.Frag} {n : Nat} {t : TGs} (h : Setss js t) : Sets js (gTup K n t) := fun σ0 v σ H Q l q => by
  obtain ⟨a, xs, e, hq, hl, q⟩ := q
  exact ⟨a, xs, e, hq, hl, h σ0 xs σ H Q l q⟩
noncomputable def tComp (js : List (Option Nat)) (wi : TI) (g : TG) (tt : TIf) (te : TE) : TE := fun σ H Q => wi σ H fun J H1 => ∀ D, H1 D = none → ∃ W : Nat → Nat → Hp → Prop, (∃ m, W 0 m (upd H1 D (.lst []))) ∧ ∀ i m H, W i m H →
  (J.stop i H ∧ Q (.ref D) H) ∨ (J.go i H ∧ ∀ x H', J.yld i H x H' → g x (inn js σ) H' fun σ2 H2 => tt σ2 H2 fun b H3 =>
    if b = true then te σ2 H3 fun y H4 => ∃ ys, H4 D = some (.lst ys) ∧ ys.length < sizeLine ∧ ∃ m', m' < m ∧ W (i + 1) m' (upd H4 D (.lst (ys ++ [y]))) else ∃ m', m' < m ∧ W (i + 1) m' H3)
variable {tg iter elt : Expr} {ifs : List Expr} {pos : Pos} {wi : TI} {g : TG} {tt : TIf} {te : TE}
theorem comp_loop {E : Value → Shared → Prop} {R : Result → Shared → Prop} {it D : Addr} {fp : List Addr} {tn : Nat → Heap → Prop} {J : It} {z : CxZ} {W : Nat → Nat → Hp → Prop} {n : Nat}
    (hc : X.calm = true) (T : Turn X.prog X.w X.K tg J fp it tn) (hz : ∀ b ∈ fp, ∀ H', H' b = none → FpOk (cxC X N scope z) [] H' b)
    (hg : PG (cxC X N scope z) tg g) (hs : Sets js g) (ht : PIf (cxC X N scope z) ifs tt) (he : PE (cxC X N scope z) elt te)
    (turn : ∀ i m H, W i m H → (J.stop i H ∧ ∀ s', Inv (cxC X N scope z) [] (inn js σ) H s' → R (.ok .next) s') ∨ (J.go i H ∧ ∀ x H', J.yld i H x H' → g x (inn js σ) H' fun σ2 H2 => tt σ2 H2 fun b H3 =>
      if b = true then te σ2 H3 fun y H4 => ∃ ys, H4 D = some (.lst ys) ∧ ys.length < sizeLine ∧ ∃ m', m' < m ∧ W (i + 1) m' (upd H4 D (.lst (ys ++ [y]))) else ∃ m', m' < m ∧ W (i + 1) m' H3))
    {s1 : Shared} {H1 : Hp} (I1 : Inv (cxC X N scope z) [] (inn js σ) H1 s1) (t1 : tn 0 s1.heap) (f1 : ∀ b ∈ fp, H1 b = none) (w1 : W 0 n H1) :
    codeAny (model X.prog X.w) X.A (.compLoop (.ListComp elt [⟨tg, iter, ifs, 0⟩] scope pos) 0 (.ref it) (.ref D) (compEnvC scope z.cl z.C X.env)) R s1 := by
  refine codeAny_loop (c := .compLoop (.ListComp elt [⟨tg, iter, ifs, 0⟩] scope pos) 0 (.ref it) (.ref D) (compEnvC scope z.cl z.C X.env)) rfl
    (fun k s' => ∃ i H', Inv (cxC X N scope z) [] (inn js σ) H' s' ∧ tn i s'.heap ∧ (∀ b ∈ fp, H' b = none) ∧ W i k H') ?_ n ⟨0, H1, I1, t1, f1, w1⟩
  rintro k s2 ⟨i, H2, I2, t2, f2, w2⟩
  show wpAny (model X.prog X.w) X.A ((compTurn (.ListComp elt [⟨tg, iter, ifs, 0⟩] scope pos) 0 (.ref it) (.ref D) (compEnvC scope z.cl z.C X.env)).onRaise fun x => do noteFrame x (compEnvC scope z.cl z.C X.env); theTreesLotGoes x) _ _ s2
  refine wpAny_noted ?_
  rw [compTurn_list]
  refine wpAny_bind (wpAny_standAt ?_)
  rcases turn i k H2 w2 with ⟨stop, fin⟩ | ⟨go, step⟩
  · refine wpAny_bind (thn (T.done (cxC X N scope z) rfl rfl rfl hc i [] s2 (inn js σ) H2 _ I2 (fun b hb => hz b hb H2 (f2 b hb)) t2 stop) fun r s3 h3 => ?_)
    obtain ⟨rfl, I3⟩ := h3
    exact wpAny_pure (fin s3 I3)
  · refine wpAny_bind (thn (T.item (cxC X N scope z) rfl rfl rfl hc i [] s2 (inn js σ) H2 _ I2 (fun b hb => hz b hb H2 (f2 b hb)) t2 go) fun r s3 h3 => ?_)
    obtain ⟨u, rfl, h3⟩ := h3
    refine wpAny_bind (thn h3 fun _ s4 h4 => ?_)
    obtain ⟨x, H4, I4, r4, y4, t4, f4⟩ := h4
    have P4 := I4.pinned (fun b hb => hz b hb H4 (f4 b hb)) (T.obj _ _ t4)
    have ff : ∀ {e : Value} {s' : Shared}, (cxC X N scope z).xe e s' → False := fun h => h
    refine wpAny_bind (wpAny_mono (hg _ s4 (inn js σ) H4 x u _ P4 r4 (hs σ x (inn js σ) H4 _ (Lev.refl _) (step x H4 y4))) (fun _ s5 h5 => ?_) fun _ _ h => (ff h).elim)
    obtain ⟨σ5, H5, I5, lev, q5⟩ := h5
    refine wpAny_bind (wpAny_mono (ht _ s5 σ5 H5 _ I5 q5) (fun ok s6 h6 => ?_) fun _ _ h => (ff h).elim)
    obtain ⟨H6, I6, q6⟩ := h6
    have again : ∀ {s7 : Shared} {H7 : Hp}, Inv (cxC X N scope z) ([] ++ pinsAt fp s4.heap) σ5 H7 s7 → (∃ m', m' < k ∧ W (i + 1) m' H7) → ∃ m, m < k ∧ ∃ i H', Inv (cxC X N scope z) [] (inn js σ) H' s7 ∧ tn i s7.heap ∧ (∀ b ∈ fp, H' b = none) ∧ W i m H' := fun {s7 H7} I7 h7 => by
      obtain ⟨m', hm, w7⟩ := h7
      refine ⟨m', hm, i + 1, H7, (I7.unpinned).weak lev.1 lev.2, T.keep _ _ _ t4 fun b hb o e => (I7.pin (b, o) (List.mem_append_right _ (List.mem_append_right _ (mem_pinsAt hb e)))).1, fun b hb => ?_, w7⟩
      obtain ⟨o, e, d⟩ := T.obj _ _ t4 b hb
      exact (I7.pin (b, o) (List.mem_append_right _ (List.mem_append_right _ (mem_pinsAt hb e)))).2.1
    cases ok with
    | false =>
      rw [if_neg (by decide)] at q6
      exact wpAny_pure ⟨rfl, again I6 q6⟩
    | true =>
      rw [if_pos rfl] at q6
      refine wpAny_bind (wpAny_bind (wpAny_mono (he _ s6 σ5 H6 _ I6 q6) (fun y s7 h7 => ?_) fun _ _ h => (ff h).elim))
      obtain ⟨vy, H7, I7, r7, ys, hD, hl, q7⟩ := h7
      refine wpAny_bind (wpAny_mono (mt_append (X := cxC X N scope z) _ s7 σ5 H7 (.ref D) [vy] (.ref D) [y] (fun _ H' => ∃ m', m' < k ∧ W (i + 1) m' H') I7 rfl (.cons r7 .nil) ⟨D, ys, vy, rfl, rfl, hD, hl, q7⟩) (fun _ s8 h8 => ?_) fun _ _ h => (ff h).elim)
      obtain ⟨_, H8, I8, _, q8⟩ := h8
      exact wpAny_pure (wpAny_pure ⟨rfl, again I8 q8⟩)
theorem comp_block {E : Value → Shared → Prop} {RR : Value → Addr → Result → Shared → Prop} {Q : VK} {itv : Value} {s2 : Shared} (ck : CmpOk XN sc scope N js) (hXN : X.N = XN) (hsc : X.env.scope = sc) (hc : X.calm = true)
    (hg : ∀ z, PG (cxC X N scope z) tg g) (hs : Sets js g) (ht : ∀ z, PIf (cxC X N scope z) ifs tt) (he : ∀ z, PE (cxC X N scope z) elt te)
    (h2 : PIE X pins σ tg (fun J H1 => ∀ D, H1 D = none → ∃ W : Nat → Nat → Hp → Prop, (∃ m, W 0 m (upd H1 D (.lst []))) ∧ ∀ i m H, W i m H →
      (J.stop i H ∧ Q (.ref D) H) ∨ (J.go i H ∧ ∀ x H', J.yld i H x H' → g x (inn js σ) H' fun σ2 H2 => tt σ2 H2 fun b H3 =>
        if b = true then te σ2 H3 fun y H4 => ∃ ys, H4 D = some (.lst ys) ∧ ys.length < sizeLine ∧ ∃ m', m' < m ∧ W (i + 1) m' (upd H4 D (.lst (ys ++ [y]))) else ∃ m', m' < m ∧ W (i + 1) m' H3)) itv s2)
    (hRR : ∀ D C s' H' m o, Inv X (pins ++ [(C, o)]) σ H' s' → s'.heap.Ns C m → (X.s₀.heap.objs.size ≤ C ∧ C ≠ X.env.locals ∧ (∀ x c, X.env.cells.lookup x = some c → c ≠ C) ∧ ∀ p ∈ X.pn ++ pins, p.1 ≠ C) → H' C = none → Q (.ref D) H' → RR (.ref D) C (.ok .next) s') :
    wpAny (model X.prog X.w) X.A (newList []) (fun acc s₃ => wpAny (model X.prog X.w) X.A (newFunctionEnv scope X.env.globals (clOf X.env scope.names []) [] X.env.qual none .none (some X.env)) (fun cenv s₄ =>
      codeAny (model X.prog X.w) X.A (.compStart (.ListComp elt [⟨tg, iter, ifs, 0⟩] scope pos) 0 itv acc { cenv with scope := relabel scope X.env }) (RR acc cenv.locals) s₄) E s₃) E s2 := by
  obtain ⟨it, fp, tn, J, H2, rfl, I2, T, t2, f2, q2⟩ := h2
  have fo : ∀ b ∈ fp, b < s2.heap.objs.size := fun b hb => by
    obtain ⟨o, e, _⟩ := T.obj _ _ t2 b hb
    exact Heap.lt_size e
  have hD : H2 s2.heap.objs.size = none := I2.fresh
  obtain ⟨W, ⟨n, w0⟩, turn⟩ := q2 _ hD
  refine wpAny_newObj_type (wpAny_newFunctionEnv ck.cell (by intro y hy; simp at hy) (fun h1 hns hsb => ?_) ck.kind)
  have I3 : Inv X pins σ (upd H2 s2.heap.objs.size (.lst [])) { s2 with heap := s2.heap.push { cls := .type "list", data := .seq ([] : List Value).toArray }, toks := s2.toks } := I2.lnew (its := []) .nil (Nat.zero_le _)
  have f3 : ∀ b ∈ fp, FpOk X pins (upd H2 s2.heap.objs.size (.lst [])) b := fun b hb => by
    obtain ⟨g0, g1⟩ := f2 b hb
    exact ⟨by rw [upd_ne (Nat.ne_of_lt (fo b hb))]; exact g0, g1⟩
  have sz : (s2.heap.push { cls := .type "list", data := .seq ([] : List Value).toArray }).objs.size = s2.heap.objs.size + 1 := Heap.size_push _ _
  have kept : ∀ b o, (s2.heap.push { cls := .type "list", data := .seq ([] : List Value).toArray }).get? b = some o → h1.get? b = some o := fun b o e =>
    hsb.extBut b o (Nat.ne_of_lt (Heap.lt_size e)) (Heap.get?_push_of_some _ e)
  have I4 := inv_comp (tk := s2.toks + ([] : List (Str × Value)).length) ck hXN hsc I3 f3 (fun b hb => by show b < (s2.heap.push _).objs.size; rw [sz]; exact Nat.lt_succ_of_lt (fo b hb)) hns kept
  have t4 : tn 0 h1 := T.keep _ _ _ t2 fun b hb o e => kept b o (Heap.get?_push_of_some _ e)
  have fz : ∀ b ∈ fp, ∀ H', H' b = none → FpOk (cxC X N scope ⟨clOf X.env scope.names [], (s2.heap.push { cls := .type "list", data := .seq ([] : List Value).toArray }).objs.size, { s2 with heap := s2.heap.push { cls := .type "list", data := .seq ([] : List Value).toArray }, toks := s2.toks }, upd H2 s2.heap.objs.size (.lst []), fp, pins⟩) [] H' b := fun b hb H' hn => by
    obtain ⟨g0, g1, g2, g3, g4, g5⟩ := f3 b hb
    refine ⟨hn, (I4.ok.exf b hb).1, I4.ok.exfs b hb, .inl hb, (I4.ok.exf b hb).2, fun p hp => ?_⟩
    exact g5 p (by simpa [cxC] using hp)
  have loop := comp_loop (X := X) (σ := σ) (N := N) (scope := scope) (js := js) (iter := iter) (pos := pos) (E := E) (R := RR (.ref s2.heap.objs.size) (s2.heap.push { cls := .type "list", data := .seq ([] : List Value).toArray }).objs.size) (D := s2.heap.objs.size) (W := W) (n := n)
    hc T fz (hg _) hs (ht _) (he _) (fun i m H w => (turn i m H w).imp (fun a => ⟨a.1, fun s' Y => ?_⟩) id) I4 t4 (fun b hb => (f3 b hb).1) w0
  · exact codeAny_compStart_list loop (T.self _ 0 _ _ _ t4 loop)
  · have bb := Y.base
    have J0 : Inv X pins σ H s' := I3.call' Y.os bb Y.hok Y.bare fun b hb => by
      obtain ⟨g0, g1, g2, g3, g4, g5⟩ := f3 b hb
      exact ⟨g3, g1, g4, g5⟩
    obtain ⟨mC, nC, _⟩ := Y.loc
    obtain ⟨oC, eC, dC⟩ : ∃ o, s'.heap.get? (s2.heap.push { cls := .type "list", data := .seq ([] : List Value).toArray }).objs.size = some o ∧ ∀ v, o.data ≠ .cell v := by
      obtain ⟨o, es, ep, ho, hd, _⟩ := nC
      exact ⟨o, ho, fun v z => by rw [hd] at z; cases z⟩
    have lC : X.s₀.heap.objs.size ≤ (s2.heap.push { cls := .type "list", data := .seq ([] : List Value).toArray }).objs.size := I3.sz
    have cC : (s2.heap.push { cls := .type "list", data := .seq ([] : List Value).toArray }).objs.size ≠ X.env.locals := Nat.ne_of_gt I3.lt
    have kC : ∀ x c, X.env.cells.lookup x = some c → c ≠ (s2.heap.push { cls := .type "list", data := .seq ([] : List Value).toArray }).objs.size := fun x c e => by
      obtain ⟨v, q⟩ := I3.cell x c e
      exact Nat.ne_of_lt q.lt
    have pC : ∀ p ∈ X.pn ++ pins, p.1 ≠ (s2.heap.push { cls := .type "list", data := .seq ([] : List Value).toArray }).objs.size := fun p hp => Nat.ne_of_lt (Heap.lt_size (I3.pin p hp).1)
    have J1 : Inv X (pins ++ [((s2.heap.push { cls := .type "list", data := .seq ([] : List Value).toArray }).objs.size, oC)]) σ H s' := J0.pins_of fun p hp => by
      rcases List.mem_append.mp hp with hp | hp
      · exact J0.pin p (List.mem_append_right _ hp)
      · rw [List.mem_singleton.mp hp]
        exact ⟨eC, Y.free, cC, I3.nofs (Nat.le_refl _), dC⟩
    exact hRR _ _ s' H mC oC J1 nC ⟨lC, cC, kC, pC⟩ Y.free a.2
theorem pe_comp (ck : CmpOk XN sc scope N js) (hi : PI X tg iter wi) (hg : ∀ z, PG (cxC X N scope z) tg g) (hs : Sets js g) (ht : ∀ z, PIf (cxC X N scope z) ifs tt) (he : ∀ z, PE (cxC X N scope z) elt te)
    (hXN : X.N = XN := by rfl) (hsc : X.env.scope = sc := by rfl) (hc : X.calm = true := by rfl) (hf : ∀ x, foldedSetIterable iter X.env x = pure x := by intro _; rfl) :
    PE X (.ListComp elt [⟨tg, iter, ifs, 0⟩] scope pos) (tComp js wi g tt te) := by
  intro pins s σ H Q I h
  rw [eval_ListComp]
  have hcl : closureFor scope X.env = pure (clOf X.env scope.names []) := closure_is fun y hy hk => I.ok.has y.1 (by
    have := ck.free y hy hk
    rw [← hsc] at this
    exact this)
  refine wpAny_comprehension_free (use := none) rfl hf hcl ck.kind ck.loc (thn (hi pins s σ H _ I h) fun v s1 h1 => thn h1 fun itv s2 h2 => ?_)
  refine comp_block (RR := fun acc C => compPost (model X.prog X.w) X.A X.xe none (EP X pins σ Q) acc C) ck hXN hsc hc hg hs ht he h2 ?_
  intro D C s' H' m o J nC hC fC q
  refine ⟨m, nC, fun h' sb => ⟨.ref D, H', ?_, rfl, q⟩⟩
  have J0 : Inv X pins σ H' s' := J.unpinned
  exact J0.turned (t' := s'.toks) (it := C) (fun b o hb e => sb.extBut b o hb e) fC hC.2.1 (.inr hC.1) hC.2.2.1 hC.2.2.2
theorem ps_setC {i : Nat} {y : Str} {pos' spos : Pos} (ck : CmpOk XN sc scope N js) (hN : X.N.Nodup) (hi0 : X.N[i]? = some y) (hx : Loc X.env.scope y) (hi : PI X tg iter wi) (hg : ∀ z, PG (cxC X N scope z) tg g) (hs : Sets js g) (ht : ∀ z, PIf (cxC X N scope z) ifs tt) (he : ∀ z, PE (cxC X N scope z) elt te)
    (hsw : swapsWith (.ListComp elt [⟨tg, iter, ifs, 0⟩] scope pos) (some (.Name y pos')) spos.line X.env = pure true := by rfl)
    (hXN : X.N = XN := by rfl) (hsc : X.env.scope = sc := by rfl) (hc : X.calm = true := by rfl) (hf : ∀ x, foldedSetIterable iter X.env x = pure x := by intro _; rfl)
    (hfn : X.fn y = true ∨ X.env.scope.names.lookup y = some .local := by first | exact .inl rfl | exact .inr rfl | assumption) :
    PS X (.Assign [.Name y pos'] (.ListComp elt [⟨tg, iter, ifs, 0⟩] scope pos) spos) (tAsg (tComp js wi g tt te) (gName i)) := by
  intro pins s σ H D I h
  rw [exec_Assign_Name_used _ _ _ _ hsw]
  have hcl : closureFor scope X.env = pure (clOf X.env scope.names []) := closure_is fun y hy hk => I.ok.has y.1 (by
    have := ck.free y hy hk
    rw [← hsc] at this
    exact this)
  refine wpAny_bind (wpAny_standAt (wpAny_bind ?_))
  show wpAny (model X.prog X.w) X.A (comprehension (.ListComp elt [⟨tg, iter, ifs, 0⟩] scope pos) scope X.env _ (newList []) false (eval iter X.env) (some (assign (.Name y pos') X.env)) >>= fun _ => pure ()) _ _ s
  refine wpAny_bind (thn (wpAny_comprehension_free (use := some (assign (.Name y pos') X.env)) (Q := fun _ s' => SP X pins D .next s') rfl hf hcl ck.kind ck.loc (thn (hi pins s σ H _ I h) fun v s1 h1 => thn h1 fun itv s2 h2 => ?_)) fun _ s' q => wpAny_pure (wpAny_pure q))
  refine comp_block (RR := fun acc C => compPost (model X.prog X.w) X.A X.xe (some (assign (.Name y pos') X.env)) (fun _ s' => SP X pins D .next s') acc C) (Q := fun x H1 => gName i x σ H1 D.nx) ck hXN hsc hc hg hs ht he h2 ?_
  intro A C s' H' m o J nC hC fC q
  refine thn (pg_name hN hi0 hx hfn _ s' σ H' (.ref A) (.ref A) _ J rfl q) fun _ s3 h3 => ?_
  obtain ⟨σ3, H3, J3, q3⟩ := h3
  have pc := J3.pin (C, o) (List.mem_append_right _ (List.mem_append_right _ List.mem_cons_self))
  have oC : s'.heap.get? C = some o := (J.pin (C, o) (List.mem_append_right _ (List.mem_append_right _ List.mem_cons_self))).1
  refine ⟨m, nC.at' fun o' e => ?_, fun h' sb => ⟨σ3, H3, ?_, q3⟩⟩
  · rw [oC] at e
    cases e
    exact pc.1
  · have J0 : Inv X pins σ3 H3 s3 := J3.unpinned
    exact J0.turned (t' := s3.toks) (it := C) (fun b o hb e => sb.extBut b o hb e) pc.2.1 hC.2.1 (.inr hC.1) hC.2.2.1 hC.2.2.2
end
end L2
namespace Srt
open PySem PySem.W PyProof.Rows
section
variable {α β : Type} (lt : Nat → Nat → Bool) (n : Nat)
noncomputable def Pwp : KasT α → (α → Prop) → Prop
  | .ret a, Q => Q a
  | .ask i j k, Q => i < n ∧ j < n ∧ Pwp (k (lt i j)) Q
theorem Pwp.bind {f : α → KasT β} {Q : β → Prop} : ∀ {t : KasT α}, Pwp lt n t (fun a => Pwp lt n (f a) Q) → Pwp lt n (t.bind f) Q
  | .ret _, h => h
  | .ask _ _ _, h => ⟨h.1, h.2.1, Pwp.bind h.2.2⟩
theorem Pwp.mono {Q Q' : α → Prop} (hq : ∀ a, Q a → Q' a) : ∀ {t : KasT α}, Pwp lt n t Q → Pwp lt n t Q'
  | .ret _, h => hq _ h
  | .ask _ _ _, h => ⟨h.1, h.2.1, Pwp.mono hq h.2.2⟩
theorem Pwp.wp {cmp : Nat → Nat → (Bool → Shared → Prop) → Shared → Prop} {s : Shared} {Q : α → Shared → Prop} (hc : ∀ i j C, i < n → j < n → C (lt i j) s → cmp i j C s) :
    ∀ {t : KasT α}, Pwp lt n t (fun a => Q a s) → t.kasWp cmp Q s
  | .ret _, h => h
  | .ask i j _, h => hc i j _ h.1 h.2.1 (Pwp.wp hc h.2.2)
end
section
variable {lt : Nat → Nat → Bool} {le : Nat → Nat → Prop} {n : Nat} {p : Array Nat}
noncomputable abbrev at' (p : Array Nat) (i : Nat) : Nat := p.getD i 0
theorem at_eq {p q : Array Nat} {i j : Nat} (h : p[i]? = q[j]?) : at' p i = at' q j := by
  have e : ∀ (r : Array Nat) (k : Nat), at' r k = (r[k]?).getD 0 := fun r k => by simp [at']
  rw [e, e, h]
noncomputable def Asc (le : Nat → Nat → Prop) (p : Array Nat) (m : Nat) : Prop := ∀ i j, i ≤ j → j < m → le (at' p i) (at' p j)
noncomputable def Dsc (le : Nat → Nat → Prop) (p : Array Nat) (m : Nat) : Prop := ∀ i j, i ≤ j → j < m → le (at' p j) (at' p i)
noncomputable def Bel (n : Nat) (p : Array Nat) : Prop := ∀ k, at' p k < n
structure Ord (lt : Nat → Nat → Bool) (le : Nat → Nat → Prop) : Prop where
  tr : ∀ a b c, le a b → le b c → le a c
  rf : ∀ a, le a a
  yes : ∀ a b, lt a b = true → le a b
  no : ∀ a b, lt a b = false → le b a
theorem bel_of (hn : 0 < n) (hp : p.Perm (List.range n).toArray) : Bel n p := fun k => by
  have e : at' p k = (p[k]?).getD 0 := by simp [at']
  rw [e]
  cases h : p[k]? with
  | none => exact hn
  | some v =>
    have hm : v ∈ p := Array.mem_of_getElem? h
    have := (Array.perm_iff_toList_perm.mp hp).mem_iff.mp (Array.mem_toList_iff.mpr hm)
    simpa using this
theorem Asc.succ (o : Ord lt le) {m : Nat} (h : Asc le p m) (h1 : 1 ≤ m) (hl : le (at' p (m - 1)) (at' p m)) : Asc le p (m + 1) := fun i j hij hj => by
  by_cases e : j = m
  · subst e
    by_cases e2 : i = j
    · subst e2; exact o.rf _
    · exact o.tr _ _ _ (h i (j - 1) (by omega) (by omega)) hl
  · exact h i j hij (by omega)
theorem Dsc.succ (o : Ord lt le) {m : Nat} (h : Dsc le p m) (h1 : 1 ≤ m) (hl : le (at' p m) (at' p (m - 1))) : Dsc le p (m + 1) := fun i j hij hj => by
  by_cases e : j = m
  · subst e
    by_cases e2 : i = j
    · subst e2; exact o.rf _
    · exact o.tr _ _ _ hl (h i (j - 1) (by omega) (by omega))
  · exact h i j hij (by omega)
theorem asc_ok (o : Ord lt le) (hb : Bel n p) : ∀ (f m : Nat), 1 ≤ m → Asc le p m → Pwp lt n (kas_asc p f m) fun r => m ≤ r ∧ r ≤ m + f ∧ Asc le p r ∧ (r < m + f → le (at' p r) (at' p (r - 1)))
  | 0, m, h1, ha => ⟨Nat.le_refl _, Nat.le_refl _, ha, fun h => absurd h (Nat.lt_irrefl _)⟩
  | f + 1, m, h1, ha => by
    refine ⟨hb _, hb _, ?_⟩
    cases c : lt (at' p m) (at' p (m - 1)) with
    | true =>
      show Pwp lt n (if true = true then _ else _) _
      rw [if_pos rfl]
      exact ⟨Nat.le_refl _, by omega, ha, fun _ => o.yes _ _ c⟩
    | false =>
      show Pwp lt n (if false = true then _ else _) _
      rw [if_neg (by decide)]
      refine Pwp.mono _ _ (fun r hr => ?_) (asc_ok o hb f (m + 1) (by omega) (ha.succ o h1 (o.no _ _ c)))
      exact ⟨by omega, by omega, hr.2.2.1, fun h => hr.2.2.2 (by omega)⟩
theorem at_mirror {i j : Nat} (hj : j ≤ p.size) (k : Nat) : at' (kas_rev p i j) k = if i ≤ k ∧ k < j then at' p (i + j - 1 - k) else at' p k := by
  have e := getElem?_mirror_all (i := i) hj k
  by_cases h : i ≤ k ∧ k < j
  · rw [if_pos h] at e ⊢; exact at_eq e
  · rw [if_neg h] at e ⊢; exact at_eq e
theorem rev_perm {q : Array Nat} (i j : Nat) (h : p.Perm q) : (kas_rev p i j).Perm q := (mirror_perm _ _ _ _).trans h
theorem Dsc.rev {m q : Nat} (h : Dsc le p m) (hm : m ≤ p.size) (hq : q + 1 ≤ m) (he : ∀ k, m - (q + 1) ≤ k → k < m → le (at' p k) (at' p (m - 1)) ∧ le (at' p (m - 1)) (at' p k)) (o : Ord lt le) : Dsc le (kas_rev p (m - (q + 1)) m) m := by
  have key : ∀ k, k < m → ∃ k', k' < m ∧ at' (kas_rev p (m - (q + 1)) m) k = at' p k' ∧ le (at' p k') (at' p k) ∧ le (at' p k) (at' p k') := fun k hk => by
    rw [at_mirror hm]
    split
    · rename_i h1
      refine ⟨m - (q + 1) + m - 1 - k, by omega, rfl, ?_⟩
      obtain ⟨a1, a2⟩ := he k h1.1 hk
      obtain ⟨b1, b2⟩ := he (m - (q + 1) + m - 1 - k) (by omega) (by omega)
      exact ⟨o.tr _ _ _ b1 a2, o.tr _ _ _ a1 b2⟩
    · exact ⟨k, hk, rfl, o.rf _, o.rf _⟩
  intro i j hij hj
  obtain ⟨i', _, e1, x1, x2⟩ := key i (by omega)
  obtain ⟨j', _, e2, y1, y2⟩ := key j hj
  rw [e1, e2]
  exact o.tr _ _ _ y1 (o.tr _ _ _ (h i j hij hj) x2)
theorem Dsc.turn {m : Nat} (h : Dsc le p m) (hm : m ≤ p.size) : Asc le (kas_rev p 0 m) m := by
  intro i j hij hj
  rw [at_mirror hm, at_mirror hm, if_pos ⟨Nat.zero_le _, by omega⟩, if_pos ⟨Nat.zero_le _, hj⟩]
  exact h _ _ (by omega) (by omega)
noncomputable abbrev Eqs (le : Nat → Nat → Prop) (p : Array Nat) (m q : Nat) : Prop := ∀ k, m - (q + 1) ≤ k → k < m → le (at' p k) (at' p (m - 1)) ∧ le (at' p (m - 1)) (at' p k)
theorem eqs_zero (o : Ord lt le) (m : Nat) : Eqs le p m 0 := fun k h1 h2 => by
  have : k = m - 1 := by omega
  subst this
  exact ⟨o.rf _, o.rf _⟩
variable {z : Nat}
theorem desc_ok (o : Ord lt le) (hn : 0 < n) : ∀ (f : Nat) (p : Array Nat) (m q : Nat), p.Perm (List.range n).toArray → 1 ≤ m → m + f ≤ n → q + 1 ≤ m → Dsc le p m → Eqs le p m q →
    Pwp lt n (kas_desc f p m q) fun r => r.1.Perm (List.range n).toArray ∧ m ≤ r.2.1 ∧ r.2.1 ≤ m + f ∧ r.2.2 + 1 ≤ r.2.1 ∧ Dsc le r.1 r.2.1 ∧ Eqs le r.1 r.2.1 r.2.2
  | 0, p, m, q, hp, h1, hf, hq, hd, he => ⟨hp, Nat.le_refl _, Nat.le_refl _, hq, hd, he⟩
  | f + 1, p, m, q, hp, h1, hf, hq, hd, he => by
    have hb : Bel n p := bel_of hn hp
    have hs : p.size = n := by rw [hp.size_eq]; simp
    refine ⟨hb _, hb _, ?_⟩
    cases c : lt (at' p m) (at' p (m - 1)) with
    | true =>
      show Pwp lt n (if true = true then _ else _) _
      rw [if_pos rfl]
      have hl := o.yes _ _ c
      by_cases h0 : q > 0
      · rw [if_pos h0]
        have d1 := hd.rev (by omega) hq he o
        have e1 : at' (kas_rev p (m - (q + 1)) m) m = at' p m := by rw [at_mirror (by omega), if_neg (by omega)]
        have e2 : at' (kas_rev p (m - (q + 1)) m) (m - 1) = at' p (m - (q + 1)) := by
          rw [at_mirror (by omega), if_pos (by omega)]
          congr 1; omega
        have d2 := d1.succ o h1 (by rw [e1, e2]; exact o.tr _ _ _ hl (he _ (Nat.le_refl _) (by omega)).2)
        refine Pwp.mono _ _ (fun r hr => ?_) (desc_ok o hn f (kas_rev p (m - (q + 1)) m) (m + 1) 0 (rev_perm _ _ hp) (by omega) (by omega) (by omega) d2 (eqs_zero o _))
        exact ⟨hr.1, by omega, by omega, hr.2.2.2⟩
      · rw [if_neg h0]
        refine Pwp.mono _ _ (fun r hr => ?_) (desc_ok o hn f p (m + 1) 0 hp (by omega) (by omega) (by omega) (hd.succ o h1 hl) (eqs_zero o _))
        exact ⟨hr.1, by omega, by omega, hr.2.2.2⟩
    | false =>
      show Pwp lt n (if false = true then _ else _) _
      rw [if_neg (by decide)]
      refine ⟨hb _, hb _, ?_⟩
      have g1 := o.no _ _ c
      cases c' : lt (at' p (m - 1)) (at' p m) with
      | true =>
        show Pwp lt n (if true = true then _ else _) _
        rw [if_pos rfl]
        exact ⟨hp, Nat.le_refl _, Nat.le_add_right _ _, hq, hd, he⟩
      | false =>
        show Pwp lt n (if false = true then _ else _) _
        rw [if_neg (by decide)]
        have g2 := o.no _ _ c'
        have he' : Eqs le p (m + 1) (q + 1) := fun k h2 h3 => by
          show le (at' p k) (at' p m) ∧ le (at' p m) (at' p k)
          by_cases hk : k = m
          · subst hk; exact ⟨o.rf _, o.rf _⟩
          · obtain ⟨x1, x2⟩ := he k (by omega) (by omega)
            exact ⟨o.tr _ _ _ x1 g1, o.tr _ _ _ g2 x2⟩
        refine Pwp.mono _ _ (fun r hr => ?_) (desc_ok o hn f p (m + 1) (q + 1) hp (by omega) (by omega) (by omega) (hd.succ o h1 g2) he')
        exact ⟨hr.1, by omega, by omega, hr.2.2.2⟩
noncomputable abbrev Cnt (le : Nat → Nat → Prop) (n : Nat) (r : Nat × Array Nat) : Prop := r.2.Perm (List.range n).toArray ∧ 1 ≤ r.1 ∧ r.1 ≤ n ∧ Asc le r.2 r.1
theorem tail_ok (o : Ord lt le) (hn : 0 < n) {m : Nat} (hp : p.Perm (List.range n).toArray) (h1 : 1 ≤ m) (hm : m ≤ n) (hd : Dsc le p m) : Pwp lt n (kas_tail3 m n p) (Cnt le n) := by
  have hs : p.size = n := by rw [hp.size_eq]; simp
  have hp' := rev_perm (p := p) 0 m hp
  refine Pwp.bind _ _ (Pwp.mono _ _ (fun r hr => ?_) (asc_ok o (bel_of hn hp') (n - m) m h1 (hd.turn (by omega))))
  exact ⟨hp', by show 1 ≤ r; omega, by show r ≤ n; omega, hr.2.2.1⟩
theorem descPart_ok (o : Ord lt le) (hn : 0 < n) {m : Nat} (hp : p.Perm (List.range n).toArray) (hm : m + 1 ≤ n) (hd : Dsc le p (m + 1)) : Pwp lt n (kas_descPart m n p) (Cnt le n) := by
  refine Pwp.bind _ _ (Pwp.mono _ _ (fun r hr => ?_) (desc_ok o hn (n - (m + 1)) p (m + 1) 0 hp (by omega) (by omega) (by omega) hd (eqs_zero o _)))
  obtain ⟨a1, a2, a3, a4, a5, a6⟩ := hr
  have hs : r.1.size = n := by rw [a1.size_eq]; simp
  by_cases h : r.2.2 > 0
  · rw [if_pos h]
    exact tail_ok o hn (rev_perm _ _ a1) (by omega) (by omega) (a5.rev (by omega) a4 a6 o)
  · rw [if_neg h]
    exact tail_ok o hn a1 (by omega) (by omega) a5
theorem count_ok (o : Ord lt le) (hn : 0 < n) (hp : p.Perm (List.range n).toArray) : Pwp lt n (kas_count n p) (Cnt le n) := by
  have hs : p.size = n := by rw [hp.size_eq]; simp
  have hb : Bel n p := bel_of hn hp
  have a1 : Asc le p 1 := fun i j h1 h2 => by
    have e1 : i = 0 := by omega
    have e2 : j = 0 := by omega
    subst e1 e2
    exact o.rf _
  refine Pwp.bind _ _ (Pwp.mono _ _ (fun m hm => ?_) (asc_ok o hb (n - 1) 1 (Nat.le_refl _) a1))
  obtain ⟨h1, h2, h3, h4⟩ := hm
  by_cases e : m = n
  · rw [if_pos (by simpa using e)]
    exact ⟨hp, h1, by show m ≤ n; omega, h3⟩
  · rw [if_neg (by simpa using e)]
    have hl := h4 (by omega)
    by_cases g : m > 1
    · rw [if_pos g]
      refine ⟨hb _, hb _, ?_⟩
      cases c : lt (at' p 0) (at' p (m - 1)) with
      | true =>
        show Pwp lt n (if true = true then _ else _) _
        rw [if_pos rfl]
        exact ⟨hp, h1, by show m ≤ n; omega, h3⟩
      | false =>
        show Pwp lt n (if false = true then _ else _) _
        rw [if_neg (by decide)]
        have g1 := o.no _ _ c
        have eqs : ∀ i j, i < m → j < m → le (at' p i) (at' p j) := fun i j hi hj => o.tr _ _ _ (h3 i (m - 1) (by omega) (by omega)) (o.tr _ _ _ g1 (h3 0 j (by omega) hj))
        refine descPart_ok o hn (rev_perm _ _ hp) (by omega) (Dsc.succ o (m := m) (fun i j hij hj => ?_) h1 ?_)
        · rw [at_mirror (by omega), at_mirror (by omega), if_pos (by omega), if_pos (by omega)]
          exact eqs _ _ (by omega) (by omega)
        · rw [at_mirror (by omega), at_mirror (by omega), if_neg (by omega), if_pos (by omega)]
          exact o.tr _ _ _ hl (eqs _ _ (by omega) (by omega))
    · rw [if_neg g]
      have e1 : m = 1 := by omega
      subst e1
      exact descPart_ok o hn hp (by omega) (Dsc.succ o (fun i j hij hj => by
        have e1 : i = 0 := by omega
        have e2 : j = 0 := by omega
        subst e1 e2
        exact o.rf _) (Nat.le_refl _) hl)
theorem place_ok (o : Ord lt le) (hb : Bel n p) (k : Nat) (ha : Asc le p k) : ∀ (f l r : Nat), l ≤ r → r ≤ k → r - l ≤ f → (∀ i, i < l → le (at' p i) (at' p k)) → (∀ i, r ≤ i → i < k → le (at' p k) (at' p i)) →
    Pwp lt n (kas_place p k f l r) fun x => x ≤ k ∧ (∀ i, i < x → le (at' p i) (at' p k)) ∧ ∀ i, x ≤ i → i < k → le (at' p k) (at' p i)
  | 0, l, r, h1, h2, h3, h4, h5 => by
    have e : l = r := by omega
    subst e
    exact ⟨h2, h4, h5⟩
  | f + 1, l, r, h1, h2, h3, h4, h5 => by
    unfold kas_place
    by_cases g : l ≥ r
    · rw [if_pos g]
      have e : l = r := by omega
      subst e
      exact ⟨h2, h4, h5⟩
    · rw [if_neg g]
      refine ⟨hb _, hb _, ?_⟩
      cases c : lt (at' p k) (at' p ((l + r) / 2)) with
      | true =>
        show Pwp lt n (if true = true then _ else _) _
        rw [if_pos rfl]
        exact place_ok o hb k ha f l ((l + r) / 2) (by omega) (by omega) (by omega) h4 fun i hi hk => o.tr _ _ _ (o.yes _ _ c) (ha _ _ hi hk)
      | false =>
        show Pwp lt n (if false = true then _ else _) _
        rw [if_neg (by decide)]
        exact place_ok o hb k ha f ((l + r) / 2 + 1) r (by omega) (by omega) (by omega) (fun i hi => o.tr _ _ _ (ha _ _ (by omega) (by omega)) (o.no _ _ c)) h5
theorem at_bubble {src d : Nat} (hs : src < p.size) (hd : d ≤ src) (k : Nat) : at' (bubble p src d) k = if k = src - d then at' p src else if src - d < k ∧ k ≤ src then at' p (k - 1) else at' p k := by
  have e := getElem?_bubble hs d hd k
  by_cases h1 : k = src - d
  · rw [if_pos h1] at e ⊢; exact at_eq e
  · rw [if_neg h1] at e ⊢
    by_cases h2 : src - d < k ∧ k ≤ src
    · rw [if_pos h2] at e ⊢; exact at_eq e
    · rw [if_neg h2] at e ⊢; exact at_eq e
theorem bin_ok (o : Ord lt le) (hn : 0 < n) : ∀ (f : Nat) (p : Array Nat) (k : Nat), p.Perm (List.range n).toArray → k + f = n → Asc le p k → Pwp lt n (kas_bin f p k) fun r => r.Perm (List.range n).toArray ∧ Asc le r n
  | 0, p, k, hp, hk, ha => by
    have e : k = n := by omega
    subst e
    exact ⟨hp, ha⟩
  | f + 1, p, k, hp, hk, ha => by
    have hs : p.size = n := by rw [hp.size_eq]; simp
    refine Pwp.bind _ _ (Pwp.mono _ _ (fun x hx => ?_) (place_ok o (bel_of hn hp) k ha k 0 k (Nat.zero_le _) (Nat.le_refl _) (by omega) (fun i h => absurd h (Nat.not_lt_zero _)) fun i h1 h2 => by omega))
    obtain ⟨h1, h2, h3⟩ := hx
    refine bin_ok o hn f _ (k + 1) ((bubble_perm _ _ _).trans hp) (by omega) fun i j hij hj => ?_
    have e := at_bubble (p := p) (src := k) (d := k - x) (by omega) (by omega)
    rw [e i, e j]
    have ex : k - (k - x) = x := by omega
    rw [ex]
    by_cases i1 : i = x
    · rw [if_pos i1]
      by_cases j1 : j = x
      · rw [if_pos j1]; exact o.rf _
      · rw [if_neg j1, if_pos (by omega)]; exact h3 _ (by omega) (by omega)
    · rw [if_neg i1]
      by_cases j1 : j = x
      · rw [if_pos j1, if_neg (by omega)]; exact h2 _ (by omega)
      · rw [if_neg j1]
        by_cases i2 : x < i ∧ i ≤ k
        · rw [if_pos i2, if_pos (by omega)]; exact ha _ _ (by omega) (by omega)
        · rw [if_neg i2]
          by_cases j2 : x < j ∧ j ≤ k
          · rw [if_pos j2]; exact ha _ _ (by omega) (by omega)
          · rw [if_neg j2]; exact ha _ _ (by omega) (by omega)
theorem sort_ok (o : Ord lt le) (hn : 0 < n) : Pwp lt n (kas_sort n) fun r => r.Perm (List.range n).toArray ∧ Asc le r n := by
  refine Pwp.bind _ _ (Pwp.mono _ _ (fun r hr => ?_) (count_ok o hn (Array.Perm.refl _)))
  obtain ⟨a1, a2, a3, a4⟩ := hr
  by_cases h : r.1 < n
  · rw [if_pos h]
    have e : max r.1 1 = r.1 := by omega
    rw [e]
    exact bin_ok o hn _ _ _ a1 (by omega) a4
  · rw [if_neg h]
    have e : r.1 = n := by omega
    exact ⟨a1, e ▸ a4⟩
end
theorem out_ok {α : Type} {le : Nat → Nat → Prop} {p : Array Nat} {vs : List α} {d : α} (hp : p.Perm (List.range vs.length).toArray) (ha : Asc le p vs.length) :
    (p.toList.map fun i => vs.getD i d).Perm vs ∧ ∀ R : α → α → Prop, (∀ i j, i < vs.length → j < vs.length → le i j → R (vs.getD i d) (vs.getD j d)) → (p.toList.map fun i => vs.getD i d).Pairwise R := by
  have hl : p.toList.Perm (List.range vs.length) := by simpa using Array.perm_iff_toList_perm.mp hp
  constructor
  · have h1 : (p.toList.map fun i => vs.getD i d).Perm ((List.range vs.length).map fun i => vs.getD i d) := hl.map _
    have h2 : ((List.range vs.length).map fun i => vs.getD i d) = vs := by
      apply List.ext_getElem
      · simp
      · intro i h1 h2; simp at h1; simp [h1]
    rw [h2] at h1
    exact h1
  · intro R hR
    rw [List.pairwise_map, List.pairwise_iff_getElem]
    intro i j hi hj hij
    have hs : p.toList.length = vs.length := by rw [hl.length_eq]; simp
    have m : ∀ k (hk : k < p.toList.length), p.toList[k] < vs.length := fun k hk => by simpa using hl.mem_iff.mp (List.getElem_mem hk)
    have a : ∀ k (hk : k < p.toList.length), at' p k = p.toList[k] := fun k hk => by
      have : k < p.size := by simpa using hk
      simp [at', Array.getD, this]
    refine hR _ _ (m i hi) (m j hj) ?_
    rw [← a i hi, ← a j hj]
    exact ha i j (Nat.le_of_lt hij) (by omega)
end Srt
namespace Srt
open PySem PySem.W PyProof.Rows
section
variable {prog : Program} {w : World} {A : Around} {E : Value → Shared → Prop} {s : Shared}
structure Known (prog : Program) (w : World) (s : Shared) (vs : List Value) (κ : SortKind) (lt : Nat → Nat → Bool) : Prop where
  kind : ∀ (A : Around) (E : Value → Shared → Prop) (h' : Heap) (Q : SortKind → Shared → Prop), (∀ b o, s.heap.get? b = some o → h'.get? b = some o) → 2 ≤ vs.length → Q κ { s with heap := h' } → wpAny (model prog w) A (keyKind' vs.toArray) Q E { s with heap := h' }
  ask : ∀ (A : Around) (h' : Heap) (i j : Nat) (C : Bool → Shared → Prop), (∀ b o, s.heap.get? b = some o → h'.get? b = some o) → i < vs.length → j < vs.length → C (lt i j) { s with heap := h' } → kas_ask prog w A κ vs i j C { s with heap := h' }
theorem Known.on {vs : List Value} {κ : SortKind} {lt : Nat → Nat → Bool} {h : Heap} (k : Known prog w s vs κ lt) (hk : ∀ b o, s.heap.get? b = some o → h.get? b = some o) : Known prog w { s with heap := h } vs κ lt :=
  ⟨fun A E h' Q h2 => k.kind A E h' Q fun b o e => h2 b o (hk b o e), fun A h' i j C h2 => k.ask A h' i j C fun b o e => h2 b o (hk b o e)⟩
noncomputable def outOf (vs : List Value) (p : Array Nat) : Array Value := (p.toList.map fun i => vs.getD i Value.none).toArray
theorem outOf_size {vs : List Value} {p : Array Nat} (h : p.size = vs.length) : (outOf vs p).size = vs.length := by
  unfold outOf; simp [h]
theorem outOf_range {vs : List Value} : outOf vs (List.range vs.length).toArray = vs.toArray := by
  unfold outOf
  congr 1
  apply List.ext_getElem
  · simp
  · intro i h1 h2
    simp at h1
    simp [h1]
theorem asc_few {le : Nat → Nat → Prop} (rf : ∀ a, le a a) {n : Nat} (h : n < 2) (p : Array Nat) : Asc le p n := fun i j hij hj => by
  have e : i = j := by omega
  subst e; exact rf _
theorem lsort_by {a : Addr} {vs : List Value} {n : Nat} {κ : SortKind} {lt : Nat → Nat → Bool} {le : Nat → Nat → Prop} {P : PySem.Fin → Shared → Prop} (o : Ord lt le) (ho : s.heap.get? a = some (seqObj "list" vs.toArray n)) (h64 : vs.length < 64)
    (hk : ∀ h', (∀ b o, b ≠ a → s.heap.get? b = some o → h'.get? b = some o) → Known prog w { s with heap := h' } vs κ lt)
    (h : ∀ p : Array Nat, p.Perm (List.range vs.length).toArray → Asc le p vs.length → P (.done (.ret .none)) { s with heap := sortedHeap s.heap a vs (outOf vs p) }) : wpAny (model prog w) A (Builtin.«list.sort» ⟨[.ref a], []⟩) P E s := by
  have ha : a < s.heap.objs.size := Heap.lt_size ho
  obtain ⟨e1, ho1⟩ : ∃ e1, (s.heap.update a (Obj.mapSeq fun _ => #[])).get? a = some (seqObj "list" #[] e1) := ⟨_, get?_update_seq ho fun _ => #[]⟩
  have ne1 : a ≠ ((s.heap.update a (Obj.mapSeq fun _ => #[])).push (seqObj "tuple" vs.toArray 0)).objs.size := by rw [size_push', Heap.size_update]; exact Nat.ne_of_lt (Nat.lt_succ_of_lt ha)
  have ne2 : a ≠ (s.heap.update a (Obj.mapSeq fun _ => #[])).objs.size := by rw [Heap.size_update]; exact Nat.ne_of_lt ha
  have ho6 : (((s.heap.update a (Obj.mapSeq fun _ => #[])).push (seqObj "tuple" vs.toArray 0)).push (seqObj "list" #[] 0)).get? a = some (seqObj "list" #[] e1) := by rw [Heap.get?_push_ne _ _ _ ne1, Heap.get?_push_ne _ _ _ ne2, ho1]
  have keep : ∀ b q, b ≠ a → s.heap.get? b = some q → (((s.heap.update a (Obj.mapSeq fun _ => #[])).push (seqObj "tuple" vs.toArray 0)).push (seqObj "list" #[] 0)).get? b = some q := fun b q hb hq =>
    Heap.get?_push_of_some _ (Heap.get?_push_of_some _ ((Heap.get?_update_ne _ _ _ _ hb).trans hq))
  have K := hk _ keep
  rw [list_sort_plain]; refine wpAny_bind (listItems_at ho rfl (wpAny_bind (listUpdate_at ho rfl (wpAny_bind (seqEpoch_at ho1 rfl (wpAny_bind (wpAny_newTuple (wpAny_bind (wpAny_newList (wpAny_holding ?_)))))))))) 
  dsimp only
  have hn : vs.toArray.size = vs.length := by simp
  have fin : ∀ (p : Array Nat) (st : SortSt), p.Perm (List.range vs.length).toArray → Asc le p vs.length → (arrOf st).map (·.2) = outOf vs p → failedOf st = none →
      wpAny (model prog w) A (do
        let touched := (← seqEpoch a) != e1
        Builtin.List.listUpdate (.ref a) fun _ => (arrOf st).map (·.2)
        if let some e := failedOf st then rule "list.sort.comparison-raised"; throw e
        if touched then rule "list.sort.modified"; raiseError "ValueError" "list modified during sort"
        ret .none) P E { s with heap := ((s.heap.update a (Obj.mapSeq fun _ => #[])).push (seqObj "tuple" vs.toArray 0)).push (seqObj "list" #[] 0) } := fun p st hp hs ho2 hf => by
    have hz : (outOf vs p).size ≤ sizeLine + 1 := by
      rw [outOf_size (by rw [hp.size_eq]; simp), sizeLine_eq]; omega
    rw [ho2, hf]
    refine wpAny_bind (seqEpoch_at ho6 rfl (wpAny_bind (listUpdate_at ho6 rfl ?_ (hsz2 := hz))))
    simp only [bne_self_eq_false, Bool.false_eq_true, if_false]
    exact wpAny_pure (h p hp hs)
  by_cases h2 : vs.toArray.size < 2
  · rw [if_pos h2, if_pos h2]
    refine wpAny_bind (wpAny_pure ?_)
    rw [StateT.run_pure]
    refine wpAny_bind (wpAny_pure (fin (List.range vs.length).toArray _ (Array.Perm.refl _) (asc_few o.rf (by omega) _) ?_ rfl))
    rw [outOf_range]
    show ((vs.toArray.zip vs.toArray).map (·.2)) = vs.toArray
    apply Array.ext
    · simp
    · intro i h1 h2; simp
  · rw [if_neg h2, if_neg h2]
    refine wpAny_bind (K.kind _ _ _ _ (fun _ _ e => e) (by omega) ?_)
    refine wpAny_bind (wpAny_mono (kat_run (ks := vs) (vs := vs) (κ := κ) (G := fun p s' => s' = { s with heap := ((s.heap.update a (Obj.mapSeq fun _ => #[])).push (seqObj "tuple" vs.toArray 0)).push (seqObj "list" #[] 0) } ∧ p.Perm (List.range vs.length).toArray ∧ Asc le p vs.length)
      (Q := fun st s' => ∃ p : Array Nat, (arrOf st).map (·.2) = outOf vs p ∧ failedOf st = none ∧ s' = { s with heap := ((s.heap.update a (Obj.mapSeq fun _ => #[])).push (seqObj "tuple" vs.toArray 0)).push (seqObj "list" #[] 0) } ∧ p.Perm (List.range vs.length).toArray ∧ Asc le p vs.length)
      rfl (by omega) h64 (fun p st' s' hs har hf hG => ⟨p, kat_snds rfl har, hf, hG⟩) ?_) (fun r s' hr => ?_) fun _ _ e => e)
    · refine Pwp.wp lt vs.length (fun i j C hi hj hc => K.ask _ _ i j C (fun _ _ e => e) hi hj hc) (Pwp.mono _ _ (fun p hp => ⟨rfl, hp⟩) (sort_ok o (by omega)))
    · obtain ⟨p, e2, hf, rfl, hp, hs⟩ := hr
      exact fin p r.2 hp hs e2 hf
theorem sorted_by {l : Addr} {vs : List Value} {κ : SortKind} {lt : Nat → Nat → Bool} {le : Nat → Nat → Prop} {Q : Value → Shared → Prop} (o : Ord lt le) (hl : s.heap.IsList l vs.toArray) (h64 : vs.length < 64) (hk : Known prog w s vs κ lt)
    (h : ∀ p : Array Nat, p.Perm (List.range vs.length).toArray → Asc le p vs.length → Q (.ref (s.heap.objs.size + 1)) { s with heap := sortedAll s.heap vs (outOf vs p) }) : wpAny (model prog w) A (call (.builtin "sorted") [.ref l]) Q E s := by
  have hz : vs.length ≤ sizeLine := by rw [sizeLine_eq]; omega
  have sz : ((s.heap.push (seqObj "list" #[] 0)).update s.heap.objs.size (Obj.mapSeq (· ++ vs.toArray))).objs.size = s.heap.objs.size + 1 := by rw [Heap.size_update, size_push']
  have at1 : (((s.heap.push (seqObj "list" #[] 0)).update s.heap.objs.size (Obj.mapSeq (· ++ vs.toArray))).push (seqObj "list" vs.toArray 0)).get? (s.heap.objs.size + 1) = some (seqObj "list" vs.toArray 0) := by rw [← sz]; exact Heap.get?_push_size _ rfl
  have old : ∀ b q, s.heap.get? b = some q → b ≠ s.heap.objs.size + 1 ∧ (((s.heap.push (seqObj "list" #[] 0)).update s.heap.objs.size (Obj.mapSeq (· ++ vs.toArray))).push (seqObj "list" vs.toArray 0)).get? b = some q := fun b q e => by
    have hb := Heap.lt_size e
    refine ⟨Nat.ne_of_lt (Nat.lt_succ_of_lt hb), Heap.get?_push_of_some _ ?_⟩
    rw [Heap.get?_update_ne _ _ _ _ (Nat.ne_of_lt hb)]
    exact Heap.get?_push_of_some _ e
  refine Calls.call_function_entry kind_sorted plain_sorted entry_sorted (args_sorted1 (.ref l)) ?_; unfold Builtin.«sorted»
  refine wpAny_bind (m := checkCount "sorted" 1 1 _) (wpAny_pure (wpAny_bind (collect_list hl (wpAny_bind (wpAny_newList ?_ hz)) hz)))
  show wpAny (model prog w) _ _ _ _ { s with heap := ((s.heap.push (seqObj "list" #[] 0)).update s.heap.objs.size (Obj.mapSeq (· ++ vs.toArray))).push (seqObj "list" vs.toArray 0) }
  rw [sz]
  refine wpAny_bind (wpAny_holding (wpAny_call_entry slot_list_sort ⟨_, at1, rfl⟩ entry_list_sort (lsort_by (κ := κ) (le := le) o at1 h64 (fun h' kp => ?_) fun p hp hs => ⟨_, rfl, wpAny_pure ⟨_, rfl, h p hp hs⟩⟩) (args_list_sort _)))
  exact hk.on fun b q e => kp b q (old b q e).1 (old b q e).2
end
section
variable {prog : Program} {w : World} {A : Around} {E : Value → Shared → Prop} {s : Shared}
noncomputable def lexI : List Int → List Int → Bool
  | [], [] => false
  | [], _ :: _ => true
  | _ :: _, [] => false
  | x :: xs, y :: ys => if x = y then lexI xs ys else decide (x < y)
theorem lexI_irrefl : ∀ a : List Int, lexI a a = false
  | [] => rfl
  | x :: xs => by unfold lexI; rw [if_pos rfl]; exact lexI_irrefl xs
theorem lexI_asymm : ∀ a b : List Int, lexI a b = true → lexI b a = false
  | [], [], h => by unfold lexI at h; cases h
  | [], _ :: _, _ => by unfold lexI; rfl
  | _ :: _, [], h => by unfold lexI at h; cases h
  | x :: xs, y :: ys, h => by
    unfold lexI at h ⊢
    by_cases e : x = y
    · rw [if_pos e] at h; rw [if_pos e.symm]; exact lexI_asymm xs ys h
    · rw [if_neg e] at h
      rw [if_neg (Ne.symm e)]
      have := of_decide_eq_true h
      exact decide_eq_false (by omega)
theorem lexI_trans : ∀ a b c : List Int, lexI b a = false → lexI c b = false → lexI c a = false
  | [], _, [], _, _ => rfl
  | [], [], _ :: _, _, h => by unfold lexI at h; cases h <;> rfl
  | [], _ :: _, _ :: _, _, _ => by unfold lexI; rfl
  | _ :: _, [], _, h, _ => by unfold lexI at h; cases h
  | x :: xs, y :: ys, [], _, h => by unfold lexI at h; cases h
  | x :: xs, y :: ys, z :: zs, h1, h2 => by
    unfold lexI at h1 h2 ⊢
    by_cases e1 : y = x
    · rw [if_pos e1] at h1
      by_cases e2 : z = y
      · rw [if_pos e2] at h2
        rw [if_pos (e2.trans e1)]
        exact lexI_trans xs ys zs h1 h2
      · rw [if_neg e2] at h2
        rw [if_neg (by omega)]
        have := of_decide_eq_false h2
        exact decide_eq_false (by omega)
    · rw [if_neg e1] at h1
      have g1 := of_decide_eq_false h1
      by_cases e2 : z = y
      · rw [if_neg (by omega)]
        exact decide_eq_false (by omega)
      · rw [if_neg e2] at h2
        have g2 := of_decide_eq_false h2
        rw [if_neg (by omega)]
        exact decide_eq_false (by omega)
theorem lexI_ord (f : Nat → List Int) : Ord (fun i j => lexI (f i) (f j)) (fun i j => lexI (f j) (f i) = false) :=
  ⟨fun a b c h1 h2 => lexI_trans _ _ _ h1 h2, fun a => lexI_irrefl _, fun a b h => lexI_asymm _ _ h, fun a b h => h⟩
noncomputable def TupI (h : Heap) (v : Value) (ns : List Int) : Prop := ∃ a o xs n, v = .ref a ∧ h.get? a = some o ∧ o.cls = .type "tuple" ∧ o.data = .seq xs n ∧ IntsAre xs.toList ns
theorem lex_int : ∀ (xs ys : List Value) (ns ms : List Int) (i : Nat) (fin : Bool) (Q : Bool → Shared → Prop), IntsAre xs ns → IntsAre ys ms → (fin = decide (xs.length < ys.length)) → Q (lexI ns ms) s →
    KatLex prog w A true fin Q (xs.zip ys) i s := by
  intro xs
  induction xs with
  | nil =>
    intro ys ns ms i fin Q hx hy hf hq
    cases hx
    rw [List.zip_nil_left]
    show Q fin s
    rw [hf]
    cases hy with
    | nil => exact hq
    | cons b u ty => exact hq
  | cons x xs ih =>
    intro ys ns ms i fin Q hx hy hf hq
    cases hx with
    | cons a t tx =>
      cases hy with
      | nil =>
        rw [List.zip_nil_right]
        show Q fin s
        rw [hf]
        exact hq
      | @cons c u ys' ms' ty =>
        rw [List.zip_cons_cons]
        refine kat_cons ((SeqAt.EqAt.int_int a t c u) prog w _ _ ?_)
        unfold lexI at hq
        by_cases e : a = c
        · rw [if_pos e] at hq
          have eb : (a == c) = true := by simpa using e
          rw [eb]
          exact kat_yes (ih ys' _ ms' (i + 1) fin Q tx ty (by rw [hf]; simp) hq)
        · rw [if_neg e] at hq
          have eb : (a == c) = false := by simpa using e
          rw [eb]
          refine kat_no ?_
          cases q : i == 0 with
          | true => exact oneLt_int hq
          | false => exact kat_one _ _ (lt_int hq)
theorem known_tups {vs : List Value} {f : Nat → List Int} (hv : ∀ i, i < vs.length → TupI s.heap (vs.getD i Value.none) (f i) ∧ f i ≠ []) : Known prog w s vs (tuples' true) fun i j => lexI (f i) (f j) := by
  refine ⟨fun A E h' Q hk h2 hq => ?_, fun A h' i j C hk hi hj hc => ?_⟩
  · have hv' : ∀ v ∈ vs, ∃ n t rest a o xs k, v = .ref a ∧ h'.get? a = some o ∧ o.cls = .type "tuple" ∧ o.data = .seq xs k ∧ xs.toList = Value.int n t :: rest := fun v hm => by
      obtain ⟨i, hi, e⟩ := List.getElem_of_mem hm
      obtain ⟨⟨a, o, xs, k, e1, e2, e3, e4, e5⟩, ne⟩ := hv i hi
      have ev : vs.getD i Value.none = v := by rw [List.getD_eq_getElem?_getD, List.getElem?_eq_getElem hi]; exact e
      rw [ev] at e1
      revert e5 ne
      generalize f i = ns
      generalize ex : xs.toList = L
      intro ne e5
      cases e5 with
      | nil => exact absurd rfl ne
      | @cons n t vs' ns' tl => exact ⟨n, t, vs', a, o, xs, k, e1, hk _ _ e2, e3, e4, ex⟩
    have fs : ∀ L : List Value, (∀ v ∈ L, ∃ n t rest a o xs k, v = .ref a ∧ h'.get? a = some o ∧ o.cls = .type "tuple" ∧ o.data = .seq xs k ∧ xs.toList = Value.int n t :: rest) → ∃ gs, KatTups h' L gs ∧ gs.length = L.length ∧ ∀ v ∈ gs, ∃ n t, v = Value.int n t := by
      intro L
      induction L with
      | nil => exact fun _ => ⟨[], .nil, rfl, fun _ h => (by cases h)⟩
      | cons v L ih =>
        intro hL
        obtain ⟨gs, g1, g2, g3⟩ := ih fun u hu => hL u (List.mem_cons_of_mem _ hu)
        obtain ⟨n, t, rest, a, o, xs, k, rfl, e2, e3, e4, e5⟩ := hL v List.mem_cons_self
        refine ⟨.int n t :: gs, .cons e2 e3 e4 (by rw [← Array.getElem?_toList, e5]; rfl) g1, by rw [List.length_cons, List.length_cons, g2], fun u hu => ?_⟩
        rcases List.mem_cons.mp hu with rfl | hu
        · exact ⟨n, t, rfl⟩
        · exact g3 u hu
    obtain ⟨gs, g1, g2, g3⟩ := fs vs hv'
    refine kat_kind (s := { s with heap := h' }) (T := .type "int") g1 (by omega) (fun v hm => ?_) (by decide) hq
    obtain ⟨n, t, rfl⟩ := g3 v hm
    exact Looks.of_pure rfl
  · obtain ⟨⟨a, o, xs, k, e1, e2, e3, e4, e5⟩, _⟩ := hv i hi
    obtain ⟨⟨a', o', xs', k', e1', e2', e3', e4', e5'⟩, _⟩ := hv j hj
    unfold kas_ask
    rw [e1, e1']
    refine kat_lt (s := { s with heap := h' }) (hk _ _ e2) e4 (hk _ _ e2') e4' ?_
    refine lex_int (s := { s with heap := h' }) _ _ _ _ _ _ _ e5 e5' ?_ hc
    simp
end
end Srt
namespace L2
open PySem
noncomputable def rTuple (K : PySem.W.Frag) : List V → Hp → VK → Prop := fun xs H Q => ∃ p ys, xs = [.ref p] ∧ ((SqL K H p ys ∧ ∀ l, H l = none → Q (.ref l) (upd H l (.tup ys))) ∨ (SqT K H p ys ∧ Q (.ref p) H))
noncomputable def rMax2 : List V → Hp → VK → Prop := fun xs H Q => ∃ i j, xs = [.int i, .int j] ∧ Q (.int (if j > i then j else i)) H
noncomputable def rMin2 : List V → Hp → VK → Prop := fun xs H Q => ∃ i j, xs = [.int i, .int j] ∧ Q (.int (if j < i then j else i)) H
noncomputable def tTru (K : PySem.W.Frag) (ta : TE) : TT := fun σ H Q => ta σ H fun x H' => ∃ k, TruV K x H' k ∧ Q k H'
noncomputable def rSortedI (K : PySem.W.Frag) : List V → Hp → VK → Prop := fun xs H Q => ∃ p, ∃ ns : List Int, xs = [.ref p] ∧ SqL K H p (ns.map V.int) ∧ ns.length < 64 ∧
  ∀ (ms : List Int) l, ms.Perm ns → ms.Pairwise (· ≤ ·) → H l = none → Q (.ref l) (upd H l (.lst (ms.map V.int)))
noncomputable def iSeq (K : PySem.W.Frag) (tl : TE) : TI := fun σ H R => tl σ H fun x H1 => ∃ a, x = .ref a ∧ (((∃ xs, SqL K H1 a xs) ∧ R (Itl K a) H1) ∨ ((∃ xs, SqT K H1 a xs) ∧ R (Itt K a) H1))
end L2
namespace M
open PySem L2
inductive D where
  | non | bl (b : Bool) | int (i : Int) | str (x : Str) | ty (n : String) | lst (l : List D) | tup (l : List D) | scr (l : List D) | ins (N : Str) (ns : List Str) (l : List D) | dic (ks : List (List Int))
  deriving Inhabited
theorem rd_mono {S S' : Hp} (s : Same S S') {a : Addr} {u : HO} (h : Rd S a u) : Rd S' a u := h.elim (fun e => .inl (s _ _ e)) fun ⟨o, e⟩ => .inr ⟨o, s _ _ e⟩
theorem sqL_mono {K : PySem.W.Frag} {S S' : Hp} (s : Same S S') {a : Addr} {xs : List V} (h : SqL K S a xs) : SqL K S' a xs := h.elim (fun e => .inl (rd_mono s e)) .inr
theorem sqT_mono {K : PySem.W.Frag} {S S' : Hp} (s : Same S S') {a : Addr} {xs : List V} (h : SqT K S a xs) : SqT K S' a xs := h.elim (fun e => .inl (rd_mono s e)) .inr
noncomputable def TpA (K : PySem.W.Frag) (S : Hp) (a : Addr) (xs : List V) : Prop := SqT K S a xs
theorem TpA.of {K : PySem.W.Frag} {S : Hp} {a : Addr} {xs : List V} (h : S a = some (.tup xs)) : TpA K S a xs := SqT.of h
theorem TpA.sq {K : PySem.W.Frag} {S : Hp} {a : Addr} {xs : List V} (h : TpA K S a xs) : SqT K S a xs := h
theorem TpA.mono {K : PySem.W.Frag} {S S' : Hp} (s : Same S S') {a : Addr} {xs : List V} (h : TpA K S a xs) : TpA K S' a xs := sqT_mono s h
noncomputable def dicV (ks : List (List Int)) : List (List Key × V) := ks.map fun k => (k.map Sum.inl, V.bl true)
mutual
noncomputable def Den (K : PySem.W.Frag) (S : Hp) : D → V → Prop
  | .non, v => v = .non
  | .bl b, v => v = .bl b
  | .int i, v => v = .int i
  | .str x, v => v = .str x
  | .ty x, v => v = .ty x
  | .lst l, v => ∃ p xs, v = .ref p ∧ Rd S p (.lst xs) ∧ Dens K S l xs
  | .tup l, v => ∃ p xs, v = .ref p ∧ TpA K S p xs ∧ Dens K S l xs
  | .scr l, v => ∃ p xs, v = .ref p ∧ SqL K S p xs ∧ Dens K S l xs
  | .ins N ns l, v => ∃ p C dx fs, v = .ref p ∧ PySem.W.nsIn K mainGlobals N = some (some (.ref C)) ∧ S p = some (.ins C dx fs) ∧ fs.map (·.1) = ns ∧ Dens K S l (fs.map (·.2))
  | .dic ks, v => ∃ p, v = .ref p ∧ Rd S p (.dT (dicV ks))
noncomputable def Dens (K : PySem.W.Frag) (S : Hp) : List D → List V → Prop
  | [], xs => xs = []
  | d :: ds, xs => ∃ y ys, xs = y :: ys ∧ Den K S d y ∧ Dens K S ds ys
end
section
variable {K : PySem.W.Frag} {S S' H H' : Hp}
theorem Dens.nil : Dens K S [] [] := by unfold Dens; rfl
theorem Dens.cons {d : D} {ds : List D} {y : V} {ys : List V} (h : Den K S d y) (k : Dens K S ds ys) : Dens K S (d :: ds) (y :: ys) := by unfold Dens; exact ⟨y, ys, rfl, h, k⟩
theorem Dens.nil_of {xs : List V} (h : Dens K S [] xs) : xs = [] := by unfold Dens at h; exact h
theorem Dens.cons_of {d : D} {ds : List D} {xs : List V} (h : Dens K S (d :: ds) xs) : ∃ y ys, xs = y :: ys ∧ Den K S d y ∧ Dens K S ds ys := by unfold Dens at h; exact h
theorem Dens.length : ∀ {ds : List D} {xs : List V}, Dens K S ds xs → ds.length = xs.length
  | [], _, h => by rw [h.nil_of]; rfl
  | _ :: _, _, h => by
    obtain ⟨y, ys, rfl, _, k⟩ := h.cons_of
    rw [List.length_cons, List.length_cons, k.length]
theorem Dens.append : ∀ {ds es : List D} {xs ys : List V}, Dens K S ds xs → Dens K S es ys → Dens K S (ds ++ es) (xs ++ ys)
  | [], _, _, _, h, k => by rw [h.nil_of]; exact k
  | _ :: _, _, _, _, h, k => by
    obtain ⟨y, ys, rfl, a, b⟩ := h.cons_of
    exact .cons a (b.append k)
theorem Dens.get : ∀ {ds : List D} {xs : List V} {i : Nat} {d : D}, Dens K S ds xs → ds[i]? = some d → ∃ x, xs[i]? = some x ∧ Den K S d x
  | [], _, _, _, _, e => by simp at e
  | _ :: _, _, 0, _, h, e => by
    obtain ⟨y, ys, rfl, a, b⟩ := h.cons_of
    simp at e; subst e
    exact ⟨y, rfl, a⟩
  | _ :: _, _, i + 1, _, h, e => by
    obtain ⟨y, ys, rfl, a, b⟩ := h.cons_of
    obtain ⟨x, e1, h1⟩ := b.get (i := i) (by simpa using e)
    exact ⟨x, by simpa using e1, h1⟩
theorem Dens.set : ∀ {ds : List D} {xs : List V} {d : D} {x : V} (i : Nat), Dens K S ds xs → Den K S d x → Dens K S (ds.set i d) (xs.set i x)
  | [], _, _, _, _, h, _ => by rw [h.nil_of]; exact .nil
  | _ :: _, _, _, _, 0, h, k => by
    obtain ⟨y, ys, rfl, a, b⟩ := h.cons_of
    exact .cons k b
  | _ :: _, _, _, _, i + 1, h, k => by
    obtain ⟨y, ys, rfl, a, b⟩ := h.cons_of
    exact .cons a (b.set i k)
theorem Dens.take : ∀ {ds : List D} {xs : List V} (i : Nat), Dens K S ds xs → Dens K S (ds.take i) (xs.take i)
  | [], _, _, h => by rw [h.nil_of]; simp; exact .nil
  | _ :: _, _, 0, h => by simp; exact .nil
  | _ :: _, _, i + 1, h => by
    obtain ⟨y, ys, rfl, a, b⟩ := h.cons_of
    exact .cons a (b.take i)
mutual
theorem Den.mono (s : Same S S') : ∀ {d : D} {v : V}, Den K S d v → Den K S' d v
  | .dic _, _, h => by
    unfold Den at *
    obtain ⟨p, e, h1⟩ := h
    exact ⟨p, e, rd_mono s h1⟩
  | .non, _, h => by unfold Den at *; exact h
  | .bl _, _, h => by unfold Den at *; exact h
  | .int _, _, h => by unfold Den at *; exact h
  | .str _, _, h => by unfold Den at *; exact h
  | .ty _, _, h => by unfold Den at *; exact h
  | .lst _, _, h => by
    unfold Den at *
    obtain ⟨p, xs, e, h1, h2⟩ := h
    exact ⟨p, xs, e, rd_mono s h1, Dens.mono s h2⟩
  | .tup _, _, h => by
    unfold Den at *
    obtain ⟨p, xs, e, h1, h2⟩ := h
    exact ⟨p, xs, e, TpA.mono s h1, Dens.mono s h2⟩
  | .scr _, _, h => by
    unfold Den at *
    obtain ⟨p, xs, e, h1, h2⟩ := h
    exact ⟨p, xs, e, sqL_mono s h1, Dens.mono s h2⟩
  | .ins _ _ _, _, h => by
    unfold Den at *
    obtain ⟨p, C, dx, fs, e, h0, h1, h2, h3⟩ := h
    exact ⟨p, C, dx, fs, e, h0, s _ _ h1, h2, Dens.mono s h3⟩
theorem Dens.mono (s : Same S S') : ∀ {ds : List D} {xs : List V}, Dens K S ds xs → Dens K S' ds xs
  | [], _, h => by rw [h.nil_of]; exact .nil
  | _ :: _, _, h => by
    obtain ⟨y, ys, rfl, a, b⟩ := h.cons_of
    exact .cons (Den.mono s a) (Dens.mono s b)
end
theorem den_int {i : Int} {v : V} : Den K S (.int i) v ↔ v = .int i := by unfold Den; exact Iff.rfl
theorem den_bl {b : Bool} {v : V} : Den K S (.bl b) v ↔ v = .bl b := by unfold Den; exact Iff.rfl
theorem den_non {v : V} : Den K S .non v ↔ v = .non := by unfold Den; exact Iff.rfl
theorem den_str {x : Str} {v : V} : Den K S (.str x) v ↔ v = .str x := by unfold Den; exact Iff.rfl
theorem den_ty {x : String} {v : V} : Den K S (.ty x) v ↔ v = .ty x := by unfold Den; exact Iff.rfl
theorem den_tup {l : List D} {v : V} : Den K S (.tup l) v ↔ ∃ p xs, v = .ref p ∧ TpA K S p xs ∧ Dens K S l xs := by
  constructor
  · intro h; unfold Den at h; exact h
  · intro h; unfold Den; exact h
theorem den_tupS {l : List D} {v : V} (h : Den K S (.tup l) v) : ∃ p xs, v = .ref p ∧ SqT K S p xs ∧ Dens K S l xs := by
  obtain ⟨p, xs, e, h1, h2⟩ := den_tup.mp h
  exact ⟨p, xs, e, h1.sq, h2⟩
theorem den_lst {l : List D} {v : V} : Den K S (.lst l) v ↔ ∃ p xs, v = .ref p ∧ Rd S p (.lst xs) ∧ Dens K S l xs := by
  constructor
  · intro h; unfold Den at h; exact h
  · intro h; unfold Den; exact h
theorem den_scr {l : List D} {v : V} : Den K S (.scr l) v ↔ ∃ p xs, v = .ref p ∧ SqL K S p xs ∧ Dens K S l xs := by
  constructor
  · intro h; unfold Den at h; exact h
  · intro h; unfold Den; exact h
noncomputable def DenP (K : PySem.W.Frag) (S H : Hp) (d : D) (v : V) : Prop := Den K S d v ∨ ∃ l p xs, d = .lst l ∧ v = .ref p ∧ H p = some (.lst xs) ∧ Dens K S l xs
theorem Den.p {d : D} {v : V} (h : Den K S d v) : DenP K S H d v := .inl h
theorem DenP.lst {l : List D} {v : V} (s : Same S H) (h : DenP K S H (.lst l) v) : ∃ p xs, v = .ref p ∧ Rd H p (.lst xs) ∧ Dens K S l xs := by
  rcases h with h | ⟨l', p, xs, e, e1, e2, e3⟩
  · obtain ⟨p, xs, e, e1, e2⟩ := den_lst.mp h
    exact ⟨p, xs, e, rd_mono s e1, e2⟩
  · cases e
    exact ⟨p, xs, e1, .inl e2, e3⟩
theorem DenP.tup {l : List D} {v : V} (s : Same S H) (h : DenP K S H (.tup l) v) : ∃ p xs, v = .ref p ∧ SqT K H p xs ∧ Dens K S l xs := by
  rcases h with h | ⟨l', p, xs, e, e1, e2, e3⟩
  · obtain ⟨p, xs, e, e1, e2⟩ := den_tupS h
    exact ⟨p, xs, e, sqT_mono s e1, e2⟩
  · cases e
theorem DenP.scr {l : List D} {v : V} (s : Same S H) (h : DenP K S H (.scr l) v) : ∃ p xs, v = .ref p ∧ SqL K H p xs ∧ Dens K S l xs := by
  rcases h with h | ⟨l', p, xs, e, e1, e2, e3⟩
  · obtain ⟨p, xs, e, e1, e2⟩ := den_scr.mp h
    exact ⟨p, xs, e, sqL_mono s e1, e2⟩
  · cases e
theorem DenP.int {i : Int} {v : V} (h : DenP K S H (.int i) v) : v = .int i := by
  rcases h with h | ⟨l', p, xs, e, _⟩
  · exact den_int.mp h
  · cases e
theorem DenP.bl {i : Bool} {v : V} (h : DenP K S H (.bl i) v) : v = .bl i := by
  rcases h with h | ⟨l', p, xs, e, _⟩
  · exact den_bl.mp h
  · cases e
theorem DenP.str {i : Str} {v : V} (h : DenP K S H (.str i) v) : v = .str i := by
  rcases h with h | ⟨l', p, xs, e, _⟩
  · exact den_str.mp h
  · cases e
theorem DenP.non {v : V} (h : DenP K S H .non v) : v = .non := by
  rcases h with h | ⟨l', p, xs, e, _⟩
  · exact den_non.mp h
  · cases e
theorem DenP.ty {i : String} {v : V} (h : DenP K S H (.ty i) v) : v = .ty i := by
  rcases h with h | ⟨l', p, xs, e, _⟩
  · exact den_ty.mp h
  · cases e
structure Ext (S H S' H' : Hp) : Prop where
  sh : Same S S'
  sub : Same S' H'
  al : ∀ b o, H b = some o → S b = none → H' b = some o ∧ S' b = none
theorem Ext.refl (h : Same S H) : Ext S H S H := ⟨Same.refl _, h, fun _ _ h n => ⟨h, n⟩⟩
theorem Ext.trans {S1 H1 S2 H2 : Hp} (a : Ext S H S1 H1) (b : Ext S1 H1 S2 H2) : Ext S H S2 H2 := ⟨a.sh.trans b.sh, b.sub, fun c o h n => b.al c o (a.al c o h n).1 (a.al c o h n).2⟩
theorem Ext.same (a : Ext S H S' H') (s : Same S H) : Same H H' := fun b o h => by
  cases q : S b with
  | none => exact (a.al b o h q).1
  | some u =>
    have := s b u q
    rw [h] at this
    cases this
    exact a.sub b o (a.sh b o q)
theorem Ext.new (s : Same S H) {p : Addr} {o : HO} (h : H p = none) : Ext S H (upd S p o) (upd H p o) where
  sh := fun b u e => by rw [upd_ne (ne_of_none e (s.free h))]; exact e
  sub := fun b u e => by
    by_cases hb : b = p
    · subst hb; rw [upd_same] at e ⊢; exact e
    · rw [upd_ne hb] at e ⊢; exact s b u e
  al := fun b u e n => by
    have hb := ne_of_none e h
    rw [upd_ne hb, upd_ne hb]
    exact ⟨e, n⟩
theorem Ext.own (s : Same S H) {p : Addr} {o : HO} (h : H p = none) : Ext S H S (upd H p o) where
  sh := Same.refl _
  sub := fun b u e => by rw [upd_ne (ne_of_none (s b u e) h)]; exact s b u e
  al := fun b u e n => by
    have hb := ne_of_none e h
    rw [upd_ne hb]
    exact ⟨e, n⟩
theorem DenP.mono {d : D} {v : V} (e : Ext S H S' H') (s : Same S H) (h : DenP K S H d v) : DenP K S' H' d v := by
  rcases h with h | ⟨l, p, xs, h1, h2, h3, h4⟩
  · exact .inl (h.mono e.sh)
  · exact .inr ⟨l, p, xs, h1, h2, e.same s _ _ h3, h4.mono e.sh⟩
inductive DensP (K : PySem.W.Frag) (S H : Hp) : List D → List V → Prop where
  | nil : DensP K S H [] []
  | cons {d ds v vs} : DenP K S H d v → DensP K S H ds vs → DensP K S H (d :: ds) (v :: vs)
inductive O where
  | sh (d : D) | lst (l : List O) | tup (l : List O) | dic (ks : List (List Int))
  deriving Inhabited
mutual
noncomputable def O.d : O → D
  | .sh d => d
  | .dic ks => .dic ks
  | .lst l => .lst (O.ds l)
  | .tup l => .tup (O.ds l)
noncomputable def O.ds : List O → List D
  | [] => []
  | o :: l => o.d :: O.ds l
end
mutual
noncomputable def Own (K : PySem.W.Frag) (S H : Hp) : O → V → List Addr → Prop
  | .sh d, v, fp => fp = [] ∧ Den K S d v
  | .lst l, v, fp => ∃ a xs f, v = .ref a ∧ fp = a :: f ∧ H a = some (.lst xs) ∧ Owns K S H l xs f
  | .tup l, v, fp => ∃ a xs f, v = .ref a ∧ fp = a :: f ∧ H a = some (.tup xs) ∧ Owns K S H l xs f
  | .dic ks, v, fp => ∃ a, v = .ref a ∧ fp = [a] ∧ H a = some (.dT (dicV ks))
noncomputable def Owns (K : PySem.W.Frag) (S H : Hp) : List O → List V → List Addr → Prop
  | [], xs, fp => xs = [] ∧ fp = []
  | o :: l, xs, fp => ∃ y ys f g, xs = y :: ys ∧ fp = f ++ g ∧ Own K S H o y f ∧ Owns K S H l ys g
end
theorem den_dic {ks : List (List Int)} {v : V} : Den K S (.dic ks) v ↔ ∃ p, v = .ref p ∧ Rd S p (.dT (dicV ks)) := by unfold Den; exact Iff.rfl
theorem own_dic {ks : List (List Int)} {v : V} {fp : List Addr} : Own K S H (.dic ks) v fp ↔ ∃ a, v = .ref a ∧ fp = [a] ∧ H a = some (.dT (dicV ks)) := by unfold Own; exact Iff.rfl
theorem own_sh {d : D} {v : V} {fp : List Addr} : Own K S H (.sh d) v fp ↔ fp = [] ∧ Den K S d v := by unfold Own; exact Iff.rfl
theorem own_lst {l : List O} {v : V} {fp : List Addr} : Own K S H (.lst l) v fp ↔ ∃ a xs f, v = .ref a ∧ fp = a :: f ∧ H a = some (.lst xs) ∧ Owns K S H l xs f := by
  constructor
  · intro h; unfold Own at h; exact h
  · intro h; unfold Own; exact h
theorem own_tup {l : List O} {v : V} {fp : List Addr} : Own K S H (.tup l) v fp ↔ ∃ a xs f, v = .ref a ∧ fp = a :: f ∧ H a = some (.tup xs) ∧ Owns K S H l xs f := by
  constructor
  · intro h; unfold Own at h; exact h
  · intro h; unfold Own; exact h
theorem Owns.nil : Owns K S H [] [] [] := by unfold Owns; exact ⟨rfl, rfl⟩
theorem Owns.cons {o : O} {l : List O} {y : V} {ys : List V} {f g : List Addr} (h : Own K S H o y f) (k : Owns K S H l ys g) : Owns K S H (o :: l) (y :: ys) (f ++ g) := by unfold Owns; exact ⟨y, ys, f, g, rfl, rfl, h, k⟩
theorem Owns.nil_of {xs : List V} {fp : List Addr} (h : Owns K S H [] xs fp) : xs = [] ∧ fp = [] := by unfold Owns at h; exact h
theorem Owns.cons_of {o : O} {l : List O} {xs : List V} {fp : List Addr} (h : Owns K S H (o :: l) xs fp) : ∃ y ys f g, xs = y :: ys ∧ fp = f ++ g ∧ Own K S H o y f ∧ Owns K S H l ys g := by unfold Owns at h; exact h
theorem Owns.length : ∀ {l : List O} {xs : List V} {fp : List Addr}, Owns K S H l xs fp → l.length = xs.length
  | [], _, _, h => by rw [h.nil_of.1]; rfl
  | _ :: _, _, _, h => by
    obtain ⟨y, ys, f, g, rfl, rfl, _, k⟩ := h.cons_of
    rw [List.length_cons, List.length_cons, k.length]
theorem Owns.append : ∀ {l m : List O} {xs ys : List V} {f g : List Addr}, Owns K S H l xs f → Owns K S H m ys g → Owns K S H (l ++ m) (xs ++ ys) (f ++ g)
  | [], _, _, _, _, _, h, k => by rw [h.nil_of.1, h.nil_of.2]; exact k
  | _ :: _, _, _, _, _, _, h, k => by
    obtain ⟨y, ys, f, g, rfl, rfl, a, b⟩ := h.cons_of
    rw [List.append_assoc]
    exact .cons a (b.append k)
theorem owns_sh : ∀ {ds : List D} {xs : List V}, Dens K S ds xs → Owns K S H (ds.map .sh) xs []
  | [], _, h => by rw [h.nil_of]; exact .nil
  | _ :: _, _, h => by
    obtain ⟨y, ys, rfl, a, b⟩ := h.cons_of
    exact .cons (f := []) (own_sh.mpr ⟨rfl, a⟩) (owns_sh b)
theorem of_owns_sh : ∀ {ds : List D} {xs : List V} {fp : List Addr}, Owns K S H (ds.map .sh) xs fp → Dens K S ds xs ∧ fp = []
  | [], _, _, h => by rw [h.nil_of.1, h.nil_of.2]; exact ⟨.nil, rfl⟩
  | _ :: _, _, _, h => by
    obtain ⟨y, ys, f, g, rfl, rfl, a, b⟩ := h.cons_of
    obtain ⟨e, a⟩ := own_sh.mp a
    obtain ⟨b, e2⟩ := of_owns_sh b
    exact ⟨.cons a b, by rw [e, e2]; rfl⟩
mutual
theorem Own.mono (s : Same S S') : ∀ {o : O} {v : V} {fp : List Addr}, (∀ b ∈ fp, H' b = H b) → Own K S H o v fp → Own K S' H' o v fp
  | .dic _, _, _, k, h => by
    obtain ⟨a, e, rfl, h1⟩ := own_dic.mp h
    exact own_dic.mpr ⟨a, e, rfl, by rw [k a List.mem_cons_self]; exact h1⟩
  | .sh _, _, _, k, h => by
    obtain ⟨e, d⟩ := own_sh.mp h
    exact own_sh.mpr ⟨e, d.mono s⟩
  | .lst _, _, _, k, h => by
    obtain ⟨a, xs, f, e, rfl, h1, h2⟩ := own_lst.mp h
    exact own_lst.mpr ⟨a, xs, f, e, rfl, by rw [k a List.mem_cons_self]; exact h1, Owns.mono s (fun b hb => k b (List.mem_cons_of_mem _ hb)) h2⟩
  | .tup _, _, _, k, h => by
    obtain ⟨a, xs, f, e, rfl, h1, h2⟩ := own_tup.mp h
    exact own_tup.mpr ⟨a, xs, f, e, rfl, by rw [k a List.mem_cons_self]; exact h1, Owns.mono s (fun b hb => k b (List.mem_cons_of_mem _ hb)) h2⟩
theorem Owns.mono (s : Same S S') : ∀ {l : List O} {xs : List V} {fp : List Addr}, (∀ b ∈ fp, H' b = H b) → Owns K S H l xs fp → Owns K S' H' l xs fp
  | [], _, _, k, h => by rw [h.nil_of.1, h.nil_of.2]; exact .nil
  | _ :: _, _, _, k, h => by
    obtain ⟨y, ys, f, g, rfl, rfl, a, b⟩ := h.cons_of
    exact .cons (Own.mono s (fun b hb => k b (List.mem_append_left _ hb)) a) (Owns.mono s (fun b hb => k b (List.mem_append_right _ hb)) b)
end
mutual
theorem Own.there : ∀ {o : O} {v : V} {fp : List Addr}, Own K S H o v fp → ∀ b ∈ fp, H b ≠ none
  | .dic _, _, _, h => by
    obtain ⟨a, e, rfl, h1⟩ := own_dic.mp h
    intro b hb
    rw [List.mem_singleton] at hb
    subst hb
    rw [h1]; exact fun z => by cases z
  | .sh _, _, _, h => by
    obtain ⟨e, d⟩ := own_sh.mp h
    rw [e]; intro b hb; cases hb
  | .lst _, _, _, h => by
    obtain ⟨a, xs, f, e, rfl, h1, h2⟩ := own_lst.mp h
    intro b hb
    rcases List.mem_cons.mp hb with rfl | hb
    · rw [h1]; exact fun z => by cases z
    · exact Owns.there h2 b hb
  | .tup _, _, _, h => by
    obtain ⟨a, xs, f, e, rfl, h1, h2⟩ := own_tup.mp h
    intro b hb
    rcases List.mem_cons.mp hb with rfl | hb
    · rw [h1]; exact fun z => by cases z
    · exact Owns.there h2 b hb
theorem Owns.there : ∀ {l : List O} {xs : List V} {fp : List Addr}, Owns K S H l xs fp → ∀ b ∈ fp, H b ≠ none
  | [], _, _, h => by rw [h.nil_of.2]; intro b hb; cases hb
  | _ :: _, _, _, h => by
    obtain ⟨y, ys, f, g, rfl, rfl, a, b⟩ := h.cons_of
    intro c hc
    rcases List.mem_append.mp hc with hc | hc
    · exact Own.there a c hc
    · exact Owns.there b c hc
end
mutual
theorem Own.den {S2 : Hp} (s : Same S S2) : ∀ {o : O} {v : V} {fp : List Addr}, (∀ b ∈ fp, S2 b = H b) → Own K S H o v fp → Den K S2 o.d v
  | .dic _, _, _, k, h => by
    obtain ⟨a, e, rfl, h1⟩ := own_dic.mp h
    rw [O.d]
    exact den_dic.mpr ⟨a, e, .inl (by rw [k a List.mem_cons_self]; exact h1)⟩
  | .sh _, _, _, k, h => by
    obtain ⟨e, d⟩ := own_sh.mp h
    exact d.mono s
  | .lst l, _, _, k, h => by
    obtain ⟨a, xs, f, e, rfl, h1, h2⟩ := own_lst.mp h
    rw [O.d]
    exact den_lst.mpr ⟨a, xs, e, .inl (by rw [k a List.mem_cons_self]; exact h1), Owns.den s (fun b hb => k b (List.mem_cons_of_mem _ hb)) h2⟩
  | .tup l, _, _, k, h => by
    obtain ⟨a, xs, f, e, rfl, h1, h2⟩ := own_tup.mp h
    rw [O.d]
    exact den_tup.mpr ⟨a, xs, e, TpA.of (by rw [k a List.mem_cons_self]; exact h1), Owns.den s (fun b hb => k b (List.mem_cons_of_mem _ hb)) h2⟩
theorem Owns.den {S2 : Hp} (s : Same S S2) : ∀ {l : List O} {xs : List V} {fp : List Addr}, (∀ b ∈ fp, S2 b = H b) → Owns K S H l xs fp → Dens K S2 (O.ds l) xs
  | [], _, _, k, h => by rw [h.nil_of.1, O.ds]; exact .nil
  | _ :: _, _, _, k, h => by
    obtain ⟨y, ys, f, g, rfl, rfl, a, b⟩ := h.cons_of
    rw [O.ds]
    exact .cons (Own.den s (fun b hb => k b (List.mem_append_left _ hb)) a) (Owns.den s (fun b hb => k b (List.mem_append_right _ hb)) b)
end
theorem Own.denH {o : O} {v : V} {fp : List Addr} (s : Same S H) (h : Own K S H o v fp) : Den K H o.d v := h.den s fun _ _ => rfl
theorem Ext.keeps {fp : List Addr} (e : Ext S H S' H') (h : ∀ b ∈ fp, S b = none) (t : ∀ b ∈ fp, H b ≠ none) : (∀ b ∈ fp, H' b = H b) ∧ ∀ b ∈ fp, S' b = none := by
  have key : ∀ b ∈ fp, H' b = H b ∧ S' b = none := fun b hb => by
    cases q : H b with
    | none => exact absurd q (t b hb)
    | some o => exact e.al b o q (h b hb)
  exact ⟨fun b hb => (key b hb).1, fun b hb => (key b hb).2⟩
inductive Sl where
  | un | lo | sh (d : D) | ow (o : O)
  deriving Inhabited
noncomputable abbrev Env := List Sl
structure RlF (K : PySem.W.Frag) (A : Hp) (Λ : Nat → Option Addr) (Φ : Nat → List Addr) (ρ : Env) (σ : St) (S H : Hp) : Prop where
  len : σ.length = ρ.length
  sub : Same S H
  sh : ∀ (i : Nat) d, ρ[i]? = some (.sh d) → ∃ v, σ[i]? = some (some v) ∧ Den K S d v
  ow : ∀ (i : Nat) o, ρ[i]? = some (.ow o) → ∃ v, σ[i]? = some (some v) ∧ Own K S H o v (Φ i) ∧ (Φ i).Nodup ∧ ∀ b ∈ Φ i, S b = none ∧ A b = none
  dj : ∀ (i j : Nat) o o', i ≠ j → ρ[i]? = some (.ow o) → ρ[j]? = some (.ow o') → ∀ b ∈ Φ i, b ∉ Φ j
  lo : ∀ (i : Nat), ρ[i]? = some .lo → ∃ a, Λ i = some a ∧ σ[i]? = some (some (.ref a))
  asub : Same A H
  adis : ∀ b, S b = none ∨ A b = none
noncomputable def RlA (K : PySem.W.Frag) (A : Hp) (Λ : Nat → Option Addr) (ρ : Env) (σ : St) (S H : Hp) : Prop := ∃ Φ, RlF K A Λ Φ ρ σ S H
noncomputable def Rl (K : PySem.W.Frag) (ρ : Env) (σ : St) (S H : Hp) : Prop := ∃ A Λ Φ, RlF K A Λ Φ ρ σ S H
theorem RlF.ext {A : Hp} {Λ : Nat → Option Addr} {Φ : Nat → List Addr} {ρ : Env} {σ : St} (r : RlF K A Λ Φ ρ σ S H) (e : Ext S H S' H') : RlF K A Λ Φ ρ σ S' H' where
  len := r.len
  sub := e.sub
  sh := fun i d h => by
    obtain ⟨v, h1, h2⟩ := r.sh i d h
    exact ⟨v, h1, h2.mono e.sh⟩
  ow := fun i o h => by
    obtain ⟨v, h1, h2, h3, h4⟩ := r.ow i o h
    obtain ⟨k1, k2⟩ := e.keeps (fun b hb => (h4 b hb).1) h2.there
    exact ⟨v, h1, h2.mono e.sh k1, h3, fun b hb => ⟨k2 b hb, (h4 b hb).2⟩⟩
  dj := r.dj
  lo := r.lo
  asub := fun b o h => e.same r.sub b o (r.asub b o h)
  adis := fun b => by
    rcases r.adis b with h | h
    · cases q : A b with
      | none => exact .inr rfl
      | some o => exact .inl (e.al b o (r.asub b o q) h).2
    · exact .inr h
theorem RlA.ext {A : Hp} {Λ : Nat → Option Addr} {ρ : Env} {σ : St} (r : RlA K A Λ ρ σ S H) (e : Ext S H S' H') : RlA K A Λ ρ σ S' H' := let ⟨Φ, f⟩ := r; ⟨Φ, f.ext e⟩
theorem RlA.toRl {A : Hp} {Λ : Nat → Option Addr} {ρ : Env} {σ : St} (r : RlA K A Λ ρ σ S H) : Rl K ρ σ S H := let ⟨Φ, f⟩ := r; ⟨A, Λ, Φ, f⟩
theorem RlA.sub {A : Hp} {Λ : Nat → Option Addr} {ρ : Env} {σ : St} (r : RlA K A Λ ρ σ S H) : Same S H := let ⟨_, f⟩ := r; f.sub
theorem RlA.asub {A : Hp} {Λ : Nat → Option Addr} {ρ : Env} {σ : St} (r : RlA K A Λ ρ σ S H) : Same A H := let ⟨_, f⟩ := r; f.asub
theorem RlA.adis {A : Hp} {Λ : Nat → Option Addr} {ρ : Env} {σ : St} (r : RlA K A Λ ρ σ S H) : ∀ b, S b = none ∨ A b = none := let ⟨_, f⟩ := r; f.adis
theorem RlA.sh {A : Hp} {Λ : Nat → Option Addr} {ρ : Env} {σ : St} (r : RlA K A Λ ρ σ S H) : ∀ (i : Nat) d, ρ[i]? = some (.sh d) → ∃ v, σ[i]? = some (some v) ∧ Den K S d v := let ⟨_, f⟩ := r; f.sh
theorem Rl.ext {ρ : Env} {σ : St} (r : Rl K ρ σ S H) (e : Ext S H S' H') : Rl K ρ σ S' H' := let ⟨A, Λ, Φ, f⟩ := r; ⟨A, Λ, Φ, f.ext e⟩
theorem Rl.sub {ρ : Env} {σ : St} (r : Rl K ρ σ S H) : Same S H := let ⟨_, _, _, f⟩ := r; f.sub
theorem Rl.sh {ρ : Env} {σ : St} (r : Rl K ρ σ S H) : ∀ (i : Nat) d, ρ[i]? = some (.sh d) → ∃ v, σ[i]? = some (some v) ∧ Den K S d v := let ⟨_, _, _, f⟩ := r; f.sh
theorem Rl.ow {ρ : Env} {σ : St} (r : Rl K ρ σ S H) : ∀ (i : Nat) o, ρ[i]? = some (.ow o) → ∃ v fp, σ[i]? = some (some v) ∧ Own K S H o v fp ∧ fp.Nodup ∧ ∀ b ∈ fp, S b = none := fun i o h => by
  obtain ⟨A, Λ, Φ, f⟩ := r
  obtain ⟨v, h1, h2, h3, h4⟩ := f.ow i o h
  exact ⟨v, _, h1, h2, h3, fun b hb => (h4 b hb).1⟩
noncomputable abbrev XE := Env → Option D
noncomputable abbrev XT := Env → Option Bool
noncomputable abbrev XA := Env → Option (List D)
noncomputable def SE (K : PySem.W.Frag) (t : TE) (e : XE) : Prop := ∀ ρ σ S H (Q : VK) d, Rl K ρ σ S H → e ρ = some d → (∀ v S' H', Ext S H S' H' → Den K S' d v → Q v H') → t σ H Q
noncomputable def SPk (K : PySem.W.Frag) (t : TE) (e : XE) : Prop := ∀ ρ σ S H (Q : VK) d, Rl K ρ σ S H → e ρ = some d → (∀ v S' H', Ext S H S' H' → DenP K S' H' d v → Q v H') → t σ H Q
noncomputable def SF (K : PySem.W.Frag) (t : TE) (e : XA) : Prop := ∀ ρ σ S H (Q : VK) l, Rl K ρ σ S H → e ρ = some l → (∀ a xs S' H', Ext S H S' H' → H a = none → S' a = none → H' a = some (.lst xs) → Dens K S' l xs → Q (.ref a) H') → t σ H Q
noncomputable def ST (K : PySem.W.Frag) (t : TT) (c : XT) : Prop := ∀ ρ σ S H (Q : Bool → Hp → Prop) b, Rl K ρ σ S H → c ρ = some b → (∀ S' H', Ext S H S' H' → Q b H') → t σ H Q
noncomputable def SA (K : PySem.W.Frag) (t : TA) (e : XA) : Prop := ∀ ρ σ S H (Q : List V → Hp → Prop) ds, Rl K ρ σ S H → e ρ = some ds → (∀ vs S' H', Ext S H S' H' → Dens K S' ds vs → Q vs H') → t σ H Q
noncomputable def SAP (K : PySem.W.Frag) (t : TA) (e : XA) : Prop := ∀ ρ σ S H (Q : List V → Hp → Prop) ds, Rl K ρ σ S H → e ρ = some ds → (∀ vs S' H', Ext S H S' H' → DensP K S' H' ds vs → Q vs H') → t σ H Q
theorem SE.p {t : TE} {e : XE} (h : SE K t e) : SPk K t e := fun ρ σ S H Q d r x k => h ρ σ S H Q d r x fun v S' H' z dv => k v S' H' z (.inl dv)
@[simp] noncomputable def xL (e : XA) : XE := fun ρ => (e ρ).map D.lst
theorem SF.e {t : TE} {e : XA} (h : SF K t e) : SE K t (xL e) := fun ρ σ S H Q d r x k => by
  unfold xL at x
  cases q : e ρ with
  | none => rw [q] at x; cases x
  | some l =>
    rw [q] at x
    cases x
    refine h ρ σ S H Q l r q fun a xs S' H' z h1 h2 h3 h4 => ?_
    have s2 : Same S' (upd S' a (.lst xs)) := fun b u e => by rw [upd_ne (ne_of_none e h2)]; exact e
    refine k _ (upd S' a (.lst xs)) H' ⟨z.sh.trans s2, fun b u e => ?_, fun b o e n => ?_⟩ (den_lst.mpr ⟨a, xs, rfl, .inl upd_same, h4.mono s2⟩)
    · by_cases hb : b = a
      · subst hb; rw [upd_same] at e; cases e; exact h3
      · rw [upd_ne hb] at e; exact z.sub b u e
    · obtain ⟨y1, y2⟩ := z.al b o e n
      exact ⟨y1, by rw [upd_ne (ne_of_none e h1)]; exact y2⟩
@[simp] noncomputable def xVar (i : Nat) : XE := fun ρ => match ρ[i]? with | some (.sh d) => some d | _ => none
noncomputable def shs : List O → Option (List D)
  | [] => some []
  | .sh d :: l => (shs l).map fun r => d :: r
  | _ => none
theorem shs_map : ∀ l : List D, shs (l.map .sh) = some l
  | [] => rfl
  | d :: l => by rw [List.map_cons, shs, shs_map l]; rfl
theorem of_shs : ∀ {os : List O} {l : List D}, shs os = some l → os = l.map .sh
  | [], l, h => by cases h; rfl
  | o :: os, l, h => by
    cases o with
    | sh d =>
      have h' : (shs os).map (fun r => d :: r) = some l := h
      cases q : shs os with
      | none => rw [q] at h'; cases h'
      | some m => rw [q] at h'; cases h'; rw [of_shs q]; rfl
    | lst _ => cases h
    | tup _ => cases h
    | dic _ => cases h
noncomputable def peek : Sl → Option D
  | .sh d => some d
  | .ow (.lst os) => (shs os).map D.lst
  | _ => none
@[simp] theorem peek_sh (d : D) : peek (.sh d) = some d := rfl
@[simp] theorem peek_ow (l : List D) : peek (.ow (.lst (l.map .sh))) = some (.lst l) := by show (shs _).map D.lst = _; rw [shs_map]; rfl
@[simp] noncomputable def xVarP (i : Nat) : XE := fun ρ => (ρ[i]?).bind peek
theorem s_var (i : Nat) : SE K (tVar i) (xVar i) := fun ρ σ S H Q d r x k => by
  unfold xVar at x
  split at x
  · rename_i d' e
    cases x
    obtain ⟨v, h1, h2⟩ := r.sh i _ e
    exact ⟨v, h1, k v S H (Ext.refl r.sub) h2⟩
  · cases x
theorem s_varP (i : Nat) : SPk K (tVar i) (xVarP i) := fun ρ σ S H Q d r x k => by
  unfold xVarP at x
  cases q : ρ[i]? with
  | none => rw [q] at x; cases x
  | some s =>
    rw [q] at x
    cases s with
    | un => cases x
    | lo => cases x
    | sh d' =>
      cases x
      obtain ⟨v, h1, h2⟩ := r.sh i _ q
      exact ⟨v, h1, k v S H (Ext.refl r.sub) (.inl h2)⟩
    | ow o =>
      cases o with
      | sh d' => cases x
      | tup l => cases x
      | dic ks => cases x
      | lst os =>
        have x' : (shs os).map D.lst = some d := x
        cases qs : shs os with
        | none => rw [qs] at x'; cases x'
        | some l =>
          rw [qs] at x'
          cases x'
          have e := of_shs qs
          subst e
          obtain ⟨v, fp, h1, h2, h3, h4⟩ := r.ow i _ q
          obtain ⟨a, xs, f, rfl, rfl, h5, h6⟩ := own_lst.mp h2
          exact ⟨_, h1, k _ S H (Ext.refl r.sub) (.inr ⟨l, a, xs, rfl, rfl, h5, (of_owns_sh h6).1⟩)⟩
noncomputable def SQ (K : PySem.W.Frag) (t : TE) (e : XE) : Prop := ∀ ρ σ S H (Q : VK) d, Rl K ρ σ S H → e ρ = some d → (∀ v S' H', Ext S H S' H' → Den K H' d v → Q v H') → t σ H Q
theorem denP_H {d : D} {v : V} (s : Same S H) (h : DenP K S H d v) : Den K H d v := by
  rcases h with h | ⟨l, p, xs, rfl, rfl, h1, h2⟩
  · exact h.mono s
  · exact den_lst.mpr ⟨p, xs, rfl, .inl h1, h2.mono s⟩
theorem SPk.q {t : TE} {e : XE} (h : SPk K t e) : SQ K t e := fun ρ σ S H Q d r x k => h ρ σ S H Q d r x fun v S' H' z dv => k v S' H' z (denP_H z.sub dv)
noncomputable def peekQ : Sl → Option D
  | .sh d => some d
  | .ow o => some o.d
  | _ => none
@[simp] theorem peekQ_sh (d : D) : peekQ (.sh d) = some d := rfl
@[simp] theorem peekQ_ow (o : O) : peekQ (.ow o) = some o.d := rfl
@[simp] noncomputable def xVarQ (i : Nat) : XE := fun ρ => (ρ[i]?).bind peekQ
theorem s_varQ (i : Nat) : SQ K (tVar i) (xVarQ i) := fun ρ σ S H Q d r x k => by
  unfold xVarQ at x
  cases q : ρ[i]? with
  | none => rw [q] at x; cases x
  | some s =>
    rw [q] at x
    cases s with
    | un => cases x
    | lo => cases x
    | sh d' =>
      cases x
      obtain ⟨v, h1, h2⟩ := r.sh i _ q
      exact ⟨v, h1, k v S H (Ext.refl r.sub) (h2.mono r.sub)⟩
    | ow o =>
      cases x
      obtain ⟨v, fp, h1, h2, h3, h4⟩ := r.ow i _ q
      exact ⟨_, h1, k _ S H (Ext.refl r.sub) (h2.denH r.sub)⟩
@[simp] noncomputable def xC (d : D) : XE := fun _ => some d
noncomputable def flat : D → Option V
  | .non => some .non | .bl b => some (.bl b) | .int i => some (.int i) | .str x => some (.str x) | .ty x => some (.ty x) | _ => none
theorem den_flat {d : D} {v : V} (h : flat d = some v) : Den K S d v := by
  cases d <;> simp [flat] at h <;> subst h <;> unfold Den <;> rfl
theorem s_c {v : V} {d : D} (h : flat d = some v) : SE K (tC v) (xC d) := fun ρ σ S H Q e r x k => by
  cases x
  exact k v S H (Ext.refl r.sub) (den_flat h)
@[simp] noncomputable def xFl (e : XE) : XE := fun ρ => (e ρ).bind fun d => if (flat d).isSome then some d else none
theorem flat_eq {d : D} {v w : V} (h : flat d = some w) (k : Den K S d v) : v = w := by
  cases d <;> simp [flat] at h <;> subst h <;> unfold Den at k <;> exact k
theorem SQ.fl {t : TE} {e : XE} (h : SQ K t e) : SE K t (xFl e) := fun ρ σ S H Q d r x k => by
  unfold xFl at x
  cases q : e ρ with
  | none => rw [q] at x; cases x
  | some d' =>
    rw [q] at x
    dsimp only [Option.bind] at x
    split at x
    · rename_i hf
      cases x
      obtain ⟨w, hw⟩ := Option.isSome_iff_exists.mp hf
      refine h ρ σ S H Q d r q fun v S' H' z dv => k v S' H' z ?_
      rw [flat_eq hw dv]
      exact den_flat hw
    · cases x
@[simp] noncomputable def xOp (f : D → D → Option D) (a b : XE) : XE := fun ρ => (a ρ).bind fun x => (b ρ).bind fun y => f x y
noncomputable def SR2 (K : PySem.W.Frag) (r : R2) (f : D → D → Option D) : Prop := ∀ S H x y d e g (Q : VK), Same S H → DenP K S H d x → DenP K S H e y → f d e = some g → (∀ v S' H', Ext S H S' H' → Den K S' g v → Q v H') → r x y H Q
theorem s_op {r : R2} {f : D → D → Option D} {ta tb : TE} {a b : XE} (hr : SR2 K r f) (ha : SPk K ta a) (hb : SPk K tb b) : SE K (tOp r ta tb) (xOp f a b) := fun ρ σ S H Q d r x k => by
  unfold xOp at x
  cases qa : a ρ with
  | none => rw [qa] at x; cases x
  | some da =>
    rw [qa] at x
    dsimp only [Option.bind] at x
    cases qb : b ρ with
    | none => rw [qb] at x; cases x
    | some db =>
      rw [qb] at x
      refine ha ρ σ S H _ da r qa fun v S1 H1 z1 d1 => ?_
      have r1 := r.ext z1
      refine hb ρ σ S1 H1 _ db r1 qb fun w S2 H2 z2 d2 => ?_
      exact hr S2 H2 v w da db d Q z2.sub (d1.mono z2 r1.sub) d2 x fun u S3 H3 z3 d3 => k u S3 H3 ((z1.trans z2).trans z3) d3
theorem ext_all {S2 H3 S3 : Hp} (s : Same S H) (z : Ext H H S3 H3) : Ext S H S H3 := ⟨Same.refl _, fun b u e => z.sub b u (z.sh b u (s b u e)), fun b o h n => ⟨z.sub b o (z.sh b o h), n⟩⟩
theorem s_opQ {r : R2} {f : D → D → Option D} {ta tb : TE} {a b : XE} (hr : SR2 K r f) (ha : SQ K ta a) (hb : SQ K tb b) : SQ K (tOp r ta tb) (xOp f a b) := fun ρ σ S H Q d r x k => by
  unfold xOp at x
  cases qa : a ρ with
  | none => rw [qa] at x; cases x
  | some da =>
    rw [qa] at x
    dsimp only [Option.bind] at x
    cases qb : b ρ with
    | none => rw [qb] at x; cases x
    | some db =>
      rw [qb] at x
      refine ha ρ σ S H _ da r qa fun v S1 H1 z1 d1 => ?_
      have r1 := r.ext z1
      refine hb ρ σ S1 H1 _ db r1 qb fun w S2 H2 z2 d2 => ?_
      exact hr H2 H2 v w da db d Q (Same.refl _) (.inl (d1.mono (z2.same r1.sub))) (.inl d2) x fun u S3 H3 z3 d3 => k u S2 H3 ((z1.trans z2).trans (ext_all (S2 := S2) z2.sub z3)) (d3.mono z3.sub)
@[simp] noncomputable def xUn (f : D → Option D) (a : XE) : XE := fun ρ => (a ρ).bind f
noncomputable def SR1 (K : PySem.W.Frag) (r : V → Hp → VK → Prop) (f : D → Option D) : Prop := ∀ S H x d g (Q : VK), Same S H → DenP K S H d x → f d = some g → (∀ v S' H', Ext S H S' H' → Den K S' g v → Q v H') → r x H Q
theorem s_un {r : V → Hp → VK → Prop} {f : D → Option D} {ta : TE} {a : XE} (hr : SR1 K r f) (ha : SPk K ta a) : SE K (tUn r ta) (xUn f a) := fun ρ σ S H Q d r x k => by
  unfold xUn at x
  cases qa : a ρ with
  | none => rw [qa] at x; cases x
  | some da =>
    rw [qa] at x
    refine ha ρ σ S H _ da r qa fun v S1 H1 z1 d1 => ?_
    exact hr S1 H1 v da d Q z1.sub d1 x fun u S3 H3 z3 d3 => k u S3 H3 (z1.trans z3) d3
@[simp] noncomputable def xNil : XA := fun _ => some []
@[simp] noncomputable def xCons (a : XE) (b : XA) : XA := fun ρ => (a ρ).bind fun x => (b ρ).bind fun y => some (x :: y)
theorem sa_nil : SA K tNil xNil := fun ρ σ S H Q ds r x k => by cases x; exact k [] S H (Ext.refl r.sub) .nil
theorem sp_nil : SAP K tNil xNil := fun ρ σ S H Q ds r x k => by cases x; exact k [] S H (Ext.refl r.sub) .nil
theorem xCons_of {a : XE} {b : XA} {ρ : Env} {ds : List D} (x : xCons a b ρ = some ds) : ∃ d r, a ρ = some d ∧ b ρ = some r ∧ ds = d :: r := by
  unfold xCons at x
  cases qa : a ρ with
  | none => rw [qa] at x; cases x
  | some da =>
    rw [qa] at x
    dsimp only [Option.bind] at x
    cases qb : b ρ with
    | none => rw [qb] at x; cases x
    | some db => rw [qb] at x; cases x; exact ⟨_, _, rfl, rfl, rfl⟩
theorem sa_cons {ta : TE} {tr : TA} {a : XE} {b : XA} (ha : SE K ta a) (hb : SA K tr b) : SA K (tCons ta tr) (xCons a b) := fun ρ σ S H Q ds r x k => by
  obtain ⟨da, db, qa, qb, rfl⟩ := xCons_of x
  refine ha ρ σ S H _ da r qa fun v S1 H1 z1 d1 => hb ρ σ S1 H1 _ db (r.ext z1) qb fun vs S2 H2 z2 d2 => k _ S2 H2 (z1.trans z2) (.cons (d1.mono z2.sh) d2)
theorem sp_cons {ta : TE} {tr : TA} {a : XE} {b : XA} (ha : SPk K ta a) (hb : SAP K tr b) : SAP K (tCons ta tr) (xCons a b) := fun ρ σ S H Q ds r x k => by
  obtain ⟨da, db, qa, qb, rfl⟩ := xCons_of x
  refine ha ρ σ S H _ da r qa fun v S1 H1 z1 d1 => hb ρ σ S1 H1 _ db (r.ext z1) qb fun vs S2 H2 z2 d2 => k _ S2 H2 (z1.trans z2) (.cons (d1.mono z2 (r.ext z1).sub) d2)
@[irreducible] noncomputable def LIM : Nat := 1000000
theorem lim_lt : LIM < sizeLine := by rw [sizeLine_eq]; unfold LIM; decide
@[simp] noncomputable def xTup (a : XA) : XE := fun ρ => (a ρ).bind fun l => if l.length ≤ LIM then some (.tup l) else none
theorem s_tup {t : TA} {a : XA} (h : SA K t a) : SE K (tTup t) (xTup a) := fun ρ σ S H Q d r x k => by
  unfold xTup at x
  cases q : a ρ with
  | none => rw [q] at x; cases x
  | some l =>
    rw [q] at x
    dsimp only [Option.bind] at x
    split at x
    · rename_i hl
      cases x
      refine h ρ σ S H _ l r q fun vs S1 H1 z1 d1 => ⟨?_, fun p hp => ?_⟩
      · rw [← d1.length]; exact Nat.le_of_lt (Nat.lt_of_le_of_lt hl lim_lt)
      · have z2 := Ext.new (o := .tup vs) z1.sub hp
        exact k _ _ _ (z1.trans z2) (den_tup.mpr ⟨p, vs, rfl, TpA.of upd_same, d1.mono z2.sh⟩)
    · cases x
@[simp] noncomputable def xLst (a : XA) : XA := fun ρ => (a ρ).bind fun l => if l.length ≤ LIM then some l else none
theorem s_lst {t : TA} {a : XA} (h : SA K t a) : SF K (tLst t) (xLst a) := fun ρ σ S H Q l r x k => by
  unfold xLst at x
  cases q : a ρ with
  | none => rw [q] at x; cases x
  | some l =>
    rw [q] at x
    dsimp only [Option.bind] at x
    split at x
    · rename_i hl
      cases x
      refine h ρ σ S H _ l r q fun vs S1 H1 z1 d1 => ⟨?_, fun p hp => ?_⟩
      · rw [← d1.length]; exact Nat.le_of_lt (Nat.lt_of_le_of_lt hl lim_lt)
      · have hp0 : H p = none := (z1.same r.sub).free hp
        exact k p vs S1 _ (z1.trans (Ext.own z1.sub hp)) hp0 (z1.sub.free hp) upd_same d1
    · cases x
@[simp] noncomputable def xCB (f : List D → Option D) (a : XA) : XE := fun ρ => (a ρ).bind f
noncomputable def SRB (K : PySem.W.Frag) (r : List V → Hp → VK → Prop) (f : List D → Option D) : Prop := ∀ S H vs ds g (Q : VK), Same S H → DensP K S H ds vs → f ds = some g → (∀ v S' H', Ext S H S' H' → Den K S' g v → Q v H') → r vs H Q
theorem s_cb {r : List V → Hp → VK → Prop} {f : List D → Option D} {t : TA} {a : XA} (hr : SRB K r f) (h : SAP K t a) : SE K (tCB r t) (xCB f a) := fun ρ σ S H Q d rl x k => by
  unfold xCB at x
  cases q : a ρ with
  | none => rw [q] at x; cases x
  | some ds =>
    rw [q] at x
    refine h ρ σ S H _ ds rl q fun vs S1 H1 z1 d1 => ?_
    exact hr S1 H1 vs ds d Q z1.sub d1 x fun v S2 H2 z2 d2 => k v S2 H2 (z1.trans z2) d2
@[simp] noncomputable def xCBF (f : List D → Option (List D)) (a : XA) : XA := fun ρ => (a ρ).bind f
noncomputable def SRF (K : PySem.W.Frag) (r : List V → Hp → VK → Prop) (f : List D → Option (List D)) : Prop := ∀ S H vs ds g (Q : VK), Same S H → DensP K S H ds vs → f ds = some g → (∀ a xs H', Ext S H S H' → H a = none → H' a = some (.lst xs) → Dens K S g xs → Q (.ref a) H') → r vs H Q
theorem s_cbF {r : List V → Hp → VK → Prop} {f : List D → Option (List D)} {t : TA} {a : XA} (hr : SRF K r f) (h : SAP K t a) : SF K (tCB r t) (xCBF f a) := fun ρ σ S H Q d rl x k => by
  unfold xCBF at x
  cases q : a ρ with
  | none => rw [q] at x; cases x
  | some ds =>
    rw [q] at x
    refine h ρ σ S H _ ds rl q fun vs S1 H1 z1 d1 => ?_
    exact hr S1 H1 vs ds d Q z1.sub d1 x fun b xs H2 z2 h1 h2 d2 => k b xs S1 H2 (z1.trans z2) ((z1.same rl.sub).free h1) (z1.sub.free h1) h2 d2
noncomputable def STr (K : PySem.W.Frag) (t : TE) (e : Env → Option O) : Prop := ∀ ρ σ S H (Q : VK) o, Rl K ρ σ S H → e ρ = some o → (∀ v fp S' H', Ext S H S' H' → Own K S' H' o v fp → fp.Nodup → (∀ b ∈ fp, H b = none ∧ S' b = none) → Q v H') → t σ H Q
@[simp] noncomputable def xLT (e : XA) : Env → Option O := fun ρ => (e ρ).map fun l => .lst (l.map .sh)
theorem SF.t {t : TE} {e : XA} (h : SF K t e) : STr K t (xLT e) := fun ρ σ S H Q o r x k => by
  unfold xLT at x
  cases q : e ρ with
  | none => rw [q] at x; cases x
  | some l =>
    rw [q] at x
    cases x
    refine h ρ σ S H Q l r q fun a xs S' H' z h1 h2 h3 h4 => ?_
    refine k _ [a] S' H' z (own_lst.mpr ⟨a, xs, [], rfl, rfl, h3, owns_sh h4⟩) (by simp) fun b hb => ?_
    rw [List.mem_singleton.mp hb]
    exact ⟨h1, h2⟩
@[simp] noncomputable def xSh (e : XE) : Env → Option O := fun ρ => (e ρ).map .sh
theorem SE.t {t : TE} {e : XE} (h : SE K t e) : STr K t (xSh e) := fun ρ σ S H Q o r x k => by
  unfold xSh at x
  cases q : e ρ with
  | none => rw [q] at x; cases x
  | some d =>
    rw [q] at x
    cases x
    exact h ρ σ S H Q d r q fun v S' H' z dv => k v [] S' H' z (own_sh.mpr ⟨rfl, dv⟩) .nil fun b hb => by cases hb
noncomputable def frzS (S H : Hp) (fp : List Addr) : Hp := fun b => if b ∈ fp then H b else S b
theorem frzS_in {fp : List Addr} {b : Addr} (h : b ∈ fp) : frzS S H fp b = H b := by unfold frzS; rw [if_pos h]
theorem frzS_out {fp : List Addr} {b : Addr} (h : b ∉ fp) : frzS S H fp b = S b := by unfold frzS; rw [if_neg h]
theorem frzS_same {fp : List Addr} (n : ∀ b ∈ fp, S b = none) : Same S (frzS S H fp) := fun b o e => by
  rw [frzS_out fun hb => by rw [n b hb] at e; cases e]
  exact e
theorem frzS_sub {fp : List Addr} (s : Same S H) : Same (frzS S H fp) H := fun b o e => by
  by_cases hb : b ∈ fp
  · rw [frzS_in hb] at e; exact e
  · rw [frzS_out hb] at e; exact s b o e
theorem frzS_ext {fp : List Addr} (z : Ext S H S' H') (n : ∀ b ∈ fp, H b = none ∧ S' b = none) : Ext S H (frzS S' H' fp) H' :=
  ⟨z.sh.trans (frzS_same fun b hb => (n b hb).2), frzS_sub z.sub, fun b o h hn => ⟨(z.al b o h hn).1, by rw [frzS_out fun hb => by rw [(n b hb).1] at h; cases h]; exact (z.al b o h hn).2⟩⟩
@[simp] noncomputable def xOD (e : Env → Option O) : XE := fun ρ => (e ρ).map O.d
theorem STr.e {t : TE} {e : Env → Option O} (h : STr K t e) : SE K t (xOD e) := fun ρ σ S H Q d r x k => by
  unfold xOD at x
  cases q : e ρ with
  | none => rw [q] at x; cases x
  | some o =>
    rw [q] at x
    cases x
    exact h ρ σ S H Q o r q fun v fp S' H' z ow nd n => k v _ H' (frzS_ext z n) (ow.den (frzS_same fun b hb => (n b hb).2) fun b hb => frzS_in hb)
noncomputable def spOf (K : PySem.W.Frag) (n : Nat) (m : List D → Option O) : Sp := fun vs H Q _ => vs.length = n ∧ ∃ S ds o, Same S H ∧ Dens K S ds vs ∧ m ds = some o ∧ ∀ v fp S' H', Ext S H S' H' → Own K S' H' o v fp → fp.Nodup → (∀ b ∈ fp, H b = none ∧ S' b = none) → Q v H'
@[simp] noncomputable def xCallT (m : List D → Option O) (a : XA) : Env → Option O := fun ρ => (a ρ).bind m
theorem s_callT {n : Nat} {m : List D → Option O} {E : XK} {t : TA} {a : XA} (h : SA K t a) (hn : ∀ ρ ds, a ρ = some ds → ds.length = n) : STr K (tCall (spOf K n m) [] E t) (xCallT m a) := fun ρ σ S H Q o rl x k => by
  unfold xCallT at x
  cases q : a ρ with
  | none => rw [q] at x; cases x
  | some ds =>
    rw [q] at x
    refine h ρ σ S H _ ds rl q fun vs S1 H1 z1 d1 => ?_
    rw [List.append_nil]
    refine ⟨by rw [← d1.length]; exact hn ρ ds q, S1, ds, o, z1.sub, d1, x, fun v fp S2 H2 z2 ow nd n => k v fp S2 H2 (z1.trans z2) ow nd fun b hb => ⟨(z1.same rl.sub).free (n b hb).1, (n b hb).2⟩⟩
@[simp] noncomputable def xCall (m : List D → Option D) (a : XA) : XE := fun ρ => (a ρ).bind m
theorem s_call {n : Nat} {m : List D → Option O} {E : XK} {t : TA} {a : XA} (h : SA K t a) (hn : ∀ ρ ds, a ρ = some ds → ds.length = n) : SE K (tCall (spOf K n m) [] E t) (xCall (fun ds => (m ds).map O.d) a) := by
  have := (s_callT (m := m) (E := E) h hn).e
  have e : xOD (xCallT m a) = xCall (fun ds => (m ds).map O.d) a := by
    funext ρ
    show ((a ρ).bind m).map O.d = (a ρ).bind fun ds => (m ds).map O.d
    cases a ρ <;> rfl
  rw [e] at this
  exact this
@[simp] noncomputable def xCallB (m : List D → Option D) (a : XA) : XE := fun ρ => ((a ρ).bind m).bind fun d => if (flat d).isSome then some d else none
noncomputable def SAT (K : PySem.W.Frag) (t : TA) (e : Env → Option (List O)) : Prop := ∀ ρ σ S H (Q : List V → Hp → Prop) os, Rl K ρ σ S H → e ρ = some os → (∀ vs fp S' H', Ext S H S' H' → Owns K S' H' os vs fp → fp.Nodup → (∀ b ∈ fp, H b = none ∧ S' b = none) → Q vs H') → t σ H Q
@[simp] noncomputable def xNilT : Env → Option (List O) := fun _ => some []
@[simp] noncomputable def xConsT (a : Env → Option O) (b : Env → Option (List O)) : Env → Option (List O) := fun ρ => (a ρ).bind fun x => (b ρ).bind fun y => some (x :: y)
theorem st_nil : SAT K tNil xNilT := fun ρ σ S H Q ds r x k => by cases x; exact k [] [] S H (Ext.refl r.sub) .nil .nil fun _ hb => by cases hb
theorem st_cons {ta : TE} {tr : TA} {a : Env → Option O} {b : Env → Option (List O)} (ha : STr K ta a) (hb : SAT K tr b) : SAT K (tCons ta tr) (xConsT a b) := fun ρ σ S H Q os r x k => by
  unfold xConsT at x
  cases qa : a ρ with
  | none => rw [qa] at x; cases x
  | some oa =>
    rw [qa] at x
    dsimp only [Option.bind] at x
    cases qb : b ρ with
    | none => rw [qb] at x; cases x
    | some ob =>
      rw [qb] at x
      cases x
      refine ha ρ σ S H _ oa r qa fun v fp S1 H1 z1 o1 nd1 n1 => hb ρ σ S1 H1 _ ob (r.ext z1) qb fun vs fq S2 H2 z2 o2 nd2 n2 => ?_
      obtain ⟨k1, k2⟩ := z2.keeps (fun b hb => (n1 b hb).2) o1.there
      refine k _ _ S2 H2 (z1.trans z2) (.cons (o1.mono z2.sh k1) o2) ?_ fun c hc => ?_
      · refine List.nodup_append.mpr ⟨nd1, nd2, fun c hc d hd e => ?_⟩
        subst e
        exact o1.there c hc (n2 c hd).1
      · rcases List.mem_append.mp hc with hc | hc
        · exact ⟨(n1 c hc).1, k2 c hc⟩
        · exact ⟨(z1.same r.sub).free (n2 c hc).1, (n2 c hc).2⟩
@[simp] noncomputable def xTupT (a : Env → Option (List O)) : Env → Option O := fun ρ => (a ρ).bind fun l => if l.length ≤ LIM then some (.tup l) else none
@[simp] noncomputable def xLstT (a : Env → Option (List O)) : Env → Option O := fun ρ => (a ρ).bind fun l => if l.length ≤ LIM then some (.lst l) else none
theorem upd_keeps {fp : List Addr} {p : Addr} {o : HO} (h : H p = none) (t : ∀ b ∈ fp, H b ≠ none) : (∀ b ∈ fp, upd H p o b = H b) ∧ p ∉ fp := by
  have np : p ∉ fp := fun hp => t p hp h
  exact ⟨fun b hb => upd_ne fun e => np (e ▸ hb), np⟩
theorem s_tupT {t : TA} {a : Env → Option (List O)} (h : SAT K t a) : STr K (tTup t) (xTupT a) := fun ρ σ S H Q o r x k => by
  unfold xTupT at x
  cases q : a ρ with
  | none => rw [q] at x; cases x
  | some l =>
    rw [q] at x
    dsimp only [Option.bind] at x
    split at x
    · rename_i hl
      cases x
      refine h ρ σ S H _ l r q fun vs fp S1 H1 z1 o1 nd1 n1 => ⟨?_, fun p hp => ?_⟩
      · rw [← o1.length]; exact Nat.le_of_lt (Nat.lt_of_le_of_lt hl lim_lt)
      · obtain ⟨k1, k2⟩ := upd_keeps (o := .tup vs) hp o1.there
        refine k _ (p :: fp) S1 _ (z1.trans (Ext.own z1.sub hp)) (own_tup.mpr ⟨p, vs, fp, rfl, rfl, upd_same, o1.mono (Same.refl _) k1⟩) (List.nodup_cons.mpr ⟨k2, nd1⟩) fun b hb => ?_
        rcases List.mem_cons.mp hb with rfl | hb
        · exact ⟨(z1.same r.sub).free hp, z1.sub.free hp⟩
        · exact n1 b hb
    · cases x
theorem s_lstT {t : TA} {a : Env → Option (List O)} (h : SAT K t a) : STr K (tLst t) (xLstT a) := fun ρ σ S H Q o r x k => by
  unfold xLstT at x
  cases q : a ρ with
  | none => rw [q] at x; cases x
  | some l =>
    rw [q] at x
    dsimp only [Option.bind] at x
    split at x
    · rename_i hl
      cases x
      refine h ρ σ S H _ l r q fun vs fp S1 H1 z1 o1 nd1 n1 => ⟨?_, fun p hp => ?_⟩
      · rw [← o1.length]; exact Nat.le_of_lt (Nat.lt_of_le_of_lt hl lim_lt)
      · obtain ⟨k1, k2⟩ := upd_keeps (o := .lst vs) hp o1.there
        refine k _ (p :: fp) S1 _ (z1.trans (Ext.own z1.sub hp)) (own_lst.mpr ⟨p, vs, fp, rfl, rfl, upd_same, o1.mono (Same.refl _) k1⟩) (List.nodup_cons.mpr ⟨k2, nd1⟩) fun b hb => ?_
        rcases List.mem_cons.mp hb with rfl | hb
        · exact ⟨(z1.same r.sub).free hp, z1.sub.free hp⟩
        · exact n1 b hb
    · cases x
theorem len_nil {ρ : Env} {ds : List D} (h : xNil ρ = some ds) : ds.length = 0 := by cases h; rfl
theorem len_cons {a : XE} {b : XA} {n : Nat} (h : ∀ ρ ds, b ρ = some ds → ds.length = n) (ρ : Env) (ds : List D) (x : xCons a b ρ = some ds) : ds.length = n + 1 := by
  obtain ⟨da, db, qa, qb, rfl⟩ := xCons_of x
  rw [List.length_cons, h ρ db qb]
@[simp] noncomputable def xAndV (a b : XE) : XE := fun ρ => (a ρ).bind fun x => match x with | .bl true => b ρ | .bl false => some (.bl false) | _ => none
@[simp] noncomputable def xOrV (a b : XE) : XE := fun ρ => (a ρ).bind fun x => match x with | .bl true => some (.bl true) | .bl false => b ρ | _ => none
@[simp] noncomputable def xNotV (a : XE) : XE := fun ρ => (a ρ).bind fun x => match x with | .bl c => some (.bl (!c)) | _ => none
theorem s_andV {ta tb : TE} {a b : XE} (ha : SPk K ta a) (hb : SE K tb b) : SE K (tAndV ta tb) (xAndV a b) := fun ρ σ S H Q d r x k => by
  unfold xAndV at x
  cases qa : a ρ with
  | none => rw [qa] at x; cases x
  | some da =>
    rw [qa] at x
    dsimp only [Option.bind] at x
    refine ha ρ σ S H _ da r qa fun v S1 H1 z1 d1 => ?_
    split at x
    · exact ⟨true, d1.bl, iteT (hb ρ σ S1 H1 Q d (r.ext z1) x fun w S2 H2 z2 d2 => k w S2 H2 (z1.trans z2) d2)⟩
    · cases x
      exact ⟨false, d1.bl, iteF (k _ S1 H1 z1 (den_bl.mpr rfl))⟩
    · cases x
@[simp] noncomputable def xIfE (c : XT) (a b : XE) : XE := fun ρ => (c ρ).bind fun q => if q = true then a ρ else b ρ
theorem s_ifE {tc : TT} {ta tb : TE} {c : XT} {a b : XE} (hc : ST K tc c) (ha : SE K ta a) (hb : SE K tb b) : SE K (tIf tc ta tb) (xIfE c a b) := fun ρ σ S H Q d r x k => by
  unfold xIfE at x
  cases qc : c ρ with
  | none => rw [qc] at x; cases x
  | some q =>
    rw [qc] at x
    dsimp only [Option.bind] at x
    refine hc ρ σ S H _ q r qc fun S1 H1 z1 => ?_
    cases q with
    | true => exact iteT (ha ρ σ S1 H1 Q d (r.ext z1) (by simpa using x) fun w S2 H2 z2 d2 => k w S2 H2 (z1.trans z2) d2)
    | false => exact iteF (hb ρ σ S1 H1 Q d (r.ext z1) (by simpa using x) fun w S2 H2 z2 d2 => k w S2 H2 (z1.trans z2) d2)
@[simp] noncomputable def xB (a : XE) : XT := fun ρ => (a ρ).bind fun x => match x with | .bl c => some c | _ => none
theorem s_b {ta : TE} {a : XE} (ha : SPk K ta a) : ST K (tB ta) (xB a) := fun ρ σ S H Q b r x k => by
  unfold xB at x
  cases qa : a ρ with
  | none => rw [qa] at x; cases x
  | some da =>
    rw [qa] at x
    dsimp only [Option.bind] at x
    refine ha ρ σ S H _ da r qa fun v S1 H1 z1 d1 => ?_
    split at x
    · cases x
      exact ⟨_, d1.bl, k S1 H1 z1⟩
    · cases x
theorem s_test {ta : TE} {a : XE} (ha : SPk K ta a) : ST K (tTest ta) (xB a) := s_b ha
noncomputable def truD : D → Option Bool
  | .non => some false
  | .bl b => some b
  | .int i => some (i != 0)
  | .str y => if y.length ≤ LIM then some ((y.length : Int) != 0) else none
  | .lst l => some (!l.isEmpty)
  | .tup l => some (!l.isEmpty)
  | .scr l => some (!l.isEmpty)
  | _ => none
theorem dens_empty {ds : List D} {xs : List V} (h : Dens K S ds xs) : (!ds.isEmpty) = !xs.isEmpty := by
  have := h.length
  cases ds <;> cases xs <;> simp_all
@[simp] noncomputable def xTru (a : XE) : XT := fun ρ => (a ρ).bind truD
theorem tru_of {d : D} {v : V} {b : Bool} (s : Same S H) (h : DenP K S H d v) (x : truD d = some b) : TruV K v H b := by
  cases d with
  | non => rw [h.non]; cases x; rfl
  | bl c => rw [h.bl]; cases x; rfl
  | int i => rw [h.int]; cases x; rfl
  | str y =>
    rw [h.str]
    have x' : (if y.length ≤ LIM then some ((y.length : Int) != 0) else none) = some b := x
    split at x'
    · rename_i hl; cases x'; exact ⟨Nat.le_of_lt (Nat.lt_of_le_of_lt hl lim_lt), rfl⟩
    · cases x'
  | lst l =>
    obtain ⟨p, xs, rfl, h1, h2⟩ := h.lst s
    cases x
    exact .inl ⟨xs, .inl h1, dens_empty h2⟩
  | tup l =>
    obtain ⟨p, xs, rfl, h1, h2⟩ := h.tup s
    cases x
    exact .inr (.inl ⟨xs, h1, dens_empty h2⟩)
  | scr l =>
    obtain ⟨p, xs, rfl, h1, h2⟩ := h.scr s
    cases x
    exact .inl ⟨xs, h1, dens_empty h2⟩
  | _ => cases x
end
end M
namespace M
open PySem L2
section
variable {K : PySem.W.Frag} {S S' H H' : Hp}
theorem s_tru {ta : TE} {a : XE} (ha : SPk K ta a) : ST K (fun σ H Q => ta σ H fun x H' => ∃ k, TruV K x H' k ∧ Q k H') (xTru a) := fun ρ σ S H Q b r x k => by
  unfold xTru at x
  cases qa : a ρ with
  | none => rw [qa] at x; cases x
  | some da =>
    rw [qa] at x
    exact ha ρ σ S H _ da r qa fun v S1 H1 z1 d1 => ⟨b, tru_of z1.sub d1 x, k S1 H1 z1⟩
@[simp] noncomputable def xAnd (a b : XT) : XT := fun ρ => (a ρ).bind fun x => if x = true then b ρ else some false
@[simp] noncomputable def xOr (a b : XT) : XT := fun ρ => (a ρ).bind fun x => if x = true then some true else b ρ
@[simp] noncomputable def xNot (a : XT) : XT := fun ρ => (a ρ).map fun x => !x
theorem s_and {ta tb : TT} {a b : XT} (ha : ST K ta a) (hb : ST K tb b) : ST K (tAnd ta tb) (xAnd a b) := fun ρ σ S H Q d r x k => by
  unfold xAnd at x
  cases qa : a ρ with
  | none => rw [qa] at x; cases x
  | some q =>
    rw [qa] at x
    dsimp only [Option.bind] at x
    refine ha ρ σ S H _ q r qa fun S1 H1 z1 => ?_
    cases q with
    | true => exact iteT (hb ρ σ S1 H1 Q d (r.ext z1) (by simpa using x) fun S2 H2 z2 => k S2 H2 (z1.trans z2))
    | false =>
      have : d = false := by simpa using x.symm
      subst this
      exact iteF (k S1 H1 z1)
theorem s_or {ta tb : TT} {a b : XT} (ha : ST K ta a) (hb : ST K tb b) : ST K (tOr ta tb) (xOr a b) := fun ρ σ S H Q d r x k => by
  unfold xOr at x
  cases qa : a ρ with
  | none => rw [qa] at x; cases x
  | some q =>
    rw [qa] at x
    dsimp only [Option.bind] at x
    refine ha ρ σ S H _ q r qa fun S1 H1 z1 => ?_
    cases q with
    | false => exact iteF (hb ρ σ S1 H1 Q d (r.ext z1) (by simpa using x) fun S2 H2 z2 => k S2 H2 (z1.trans z2))
    | true =>
      have : d = true := by simpa using x.symm
      subst this
      exact iteT (k S1 H1 z1)
theorem s_not {ta : TT} {a : XT} (ha : ST K ta a) : ST K (tNot ta) (xNot a) := fun ρ σ S H Q d r x k => by
  unfold xNot at x
  cases qa : a ρ with
  | none => rw [qa] at x; cases x
  | some q =>
    rw [qa] at x
    cases x
    exact ha ρ σ S H _ q r qa k
inductive Out where
  | nx (ρ : Env) | rt (d : D) | ro (o : O) | bk (ρ : Env) | ct (ρ : Env)
noncomputable abbrev XS := Env → Option Out
noncomputable def Done (K : PySem.W.Frag) (A : Hp) (Λ : Nat → Option Addr) (S : Hp) (E : Ends) : Out → Prop
  | .nx ρ => ∀ σ' S' H', RlA K A Λ ρ σ' S' H' → Same S S' → E.nx σ' H'
  | .bk ρ => ∀ σ' S' H', RlA K A Λ ρ σ' S' H' → Same S S' → E.bk σ' H'
  | .ct ρ => ∀ σ' S' H', RlA K A Λ ρ σ' S' H' → Same S S' → E.ct σ' H'
  | .rt d => ∀ v S' H', Same S S' → Same S' H' → Same A H' → (∀ b, S' b = none ∨ A b = none) → Den K S' d v → E.rt v H'
  | .ro o => ∀ v fp S' H', Same S S' → Same S' H' → Same A H' → (∀ b, S' b = none ∨ A b = none) → Own K S' H' o v fp → fp.Nodup → (∀ b ∈ fp, S' b = none ∧ A b = none) → E.rt v H'
theorem Done.mono {A : Hp} {Λ : Nat → Option Addr} {E : Ends} {o : Out} (s : Same S S') (h : Done K A Λ S E o) : Done K A Λ S' E o := by
  cases o with
  | nx ρ => exact fun σ1 S1 H1 r z => h σ1 S1 H1 r (s.trans z)
  | bk ρ => exact fun σ1 S1 H1 r z => h σ1 S1 H1 r (s.trans z)
  | ct ρ => exact fun σ1 S1 H1 r z => h σ1 S1 H1 r (s.trans z)
  | rt d => exact fun v S1 H1 z => h v S1 H1 (s.trans z)
  | ro d => exact fun v fp S1 H1 z => h v fp S1 H1 (s.trans z)
noncomputable def SS (K : PySem.W.Frag) (t : TS) (m : XS) : Prop := ∀ A Λ ρ σ S H (E : Ends) o, RlA K A Λ ρ σ S H → m ρ = some o → Done K A Λ S E o → t E σ H
@[simp] noncomputable def xNext : XS := fun ρ => some (.nx ρ)
theorem s_next : SS K tNext xNext := fun A Λ ρ σ S H E o r x k => by cases x; exact k σ S H r (Same.refl _)
@[simp] noncomputable def xBreak : XS := fun ρ => some (.bk ρ)
@[simp] noncomputable def xCont : XS := fun ρ => some (.ct ρ)
@[simp] noncomputable def xNever : XS := fun _ => none
theorem s_never {t : TS} : SS K t xNever := fun A Λ ρ σ S H E o r x k => by cases x
@[simp] noncomputable def xSeq (m n : XS) : XS := fun ρ => match m ρ with | some (.nx ρ') => n ρ' | o => o
theorem s_seq {t u : TS} {m n : XS} (ht : SS K t m) (hu : SS K u n) : SS K (tSeq t u) (xSeq m n) := fun A Λ ρ σ S H E o r x k => by
  unfold xSeq at x
  cases q : m ρ with
  | none => rw [q] at x; cases x
  | some om =>
    rw [q] at x
    refine ht A Λ ρ σ S H _ om r q ?_
    cases om with
    | nx ρ' => exact fun σ' S' H' r' z => hu A Λ ρ' σ' S' H' E o r' x (k.mono z)
    | rt d => cases x; exact k
    | ro d => cases x; exact k
    | bk d => cases x; exact k
    | ct d => cases x; exact k
@[simp] noncomputable def xRet (e : XE) : XS := fun ρ => (e ρ).map .rt
theorem s_ret {te : TE} {e : XE} (h : SE K te e) : SS K (tRet te) (xRet e) := fun A Λ ρ σ S H E o r x k => by
  unfold xRet at x
  cases q : e ρ with
  | none => rw [q] at x; cases x
  | some d =>
    rw [q] at x
    cases x
    refine h ρ σ S H _ d r.toRl q fun v S1 H1 z1 d1 => ?_
    have r1 := r.ext z1
    exact k v S1 H1 z1.sh z1.sub r1.asub r1.adis d1
@[simp] noncomputable def xRetT (e : Env → Option O) : XS := fun ρ => (e ρ).map .ro
theorem s_retT {te : TE} {e : Env → Option O} (h : STr K te e) : SS K (tRet te) (xRetT e) := fun A Λ ρ σ S H E o r x k => by
  unfold xRetT at x
  cases q : e ρ with
  | none => rw [q] at x; cases x
  | some ot =>
    rw [q] at x
    cases x
    refine h ρ σ S H _ ot r.toRl q fun v fp S1 H1 z1 o1 nd n => ?_
    have r1 := r.ext z1
    exact k v fp S1 H1 z1.sh z1.sub r1.asub r1.adis o1 nd fun b hb => ⟨(n b hb).2, r.asub.free (n b hb).1⟩
@[simp] noncomputable def xRetV (i : Nat) : XS := fun ρ => match ρ[i]? with | some (.sh d) => some (.rt d) | some (.ow o) => some (.ro o) | _ => none
theorem s_retV (i : Nat) : SS K (tRet (tVar i)) (xRetV i) := fun A Λ ρ σ S H E o r x k => by
  unfold xRetV at x
  cases q : ρ[i]? with
  | none => rw [q] at x; cases x
  | some s =>
    rw [q] at x
    obtain ⟨Φ, f⟩ := r
    cases s with
    | un => cases x
    | lo => cases x
    | sh d =>
      cases x
      obtain ⟨v, h1, h2⟩ := f.sh i d q
      exact ⟨v, h1, k v S H (Same.refl _) f.sub f.asub f.adis h2⟩
    | ow ot =>
      cases x
      obtain ⟨v, h1, h2, h3, h4⟩ := f.ow i ot q
      exact ⟨v, h1, k v _ S H (Same.refl _) f.sub f.asub f.adis h2 h3 h4⟩
@[simp] noncomputable def xRetN : XS := fun _ => some (.rt .non)
@[simp] noncomputable def xIf (c : XT) (m n : XS) : XS := fun ρ => (c ρ).bind fun b => if b = true then m ρ else n ρ
theorem s_if {tc : TT} {t u : TS} {c : XT} {m n : XS} (hc : ST K tc c) (ht : SS K t m) (hu : SS K u n) : SS K (tIfS tc t u) (xIf c m n) := fun A Λ ρ σ S H E o r x k => by
  unfold xIf at x
  cases qc : c ρ with
  | none => rw [qc] at x; cases x
  | some q =>
    rw [qc] at x
    dsimp only [Option.bind] at x
    refine hc ρ σ S H _ q r.toRl qc fun S1 H1 z1 => ?_
    cases q with
    | true => exact iteT (ht A Λ ρ σ S1 H1 E o (r.ext z1) (by simpa using x) (k.mono z1.sh))
    | false => exact iteF (hu A Λ ρ σ S1 H1 E o (r.ext z1) (by simpa using x) (k.mono z1.sh))
theorem set_inv {α : Type} {l : List α} {i j : Nat} {x y : α} (h : (l.set i x)[j]? = some y) : (i = j ∧ y = x ∧ i < l.length) ∨ (i ≠ j ∧ l[j]? = some y) := by
  by_cases hij : i = j
  · subst hij
    have hl := (List.getElem?_eq_some_iff.mp h).1
    rw [List.length_set] at hl
    rw [List.getElem?_set_self hl] at h
    exact .inl ⟨rfl, (Option.some.inj h).symm, hl⟩
  · rw [List.getElem?_set_ne hij] at h
    exact .inr ⟨hij, h⟩
theorem RlF.set {A : Hp} {Λ : Nat → Option Addr} {Φ : Nat → List Addr} {ρ : Env} {σ : St} {d : D} {v : V} (r : RlF K A Λ Φ ρ σ S H) (i : Nat) (h : Den K S d v) : RlF K A Λ Φ (ρ.set i (.sh d)) (σ.set i (some v)) S H where
  len := by rw [List.length_set, List.length_set]; exact r.len
  sub := r.sub
  sh := fun j e hj => by
    rcases set_inv hj with ⟨rfl, e, hl⟩ | ⟨hij, hj⟩
    · cases e
      exact ⟨v, List.getElem?_set_self (by rw [r.len]; exact hl), h⟩
    · rw [List.getElem?_set_ne hij]
      exact r.sh j e hj
  ow := fun j o hj => by
    rcases set_inv hj with ⟨rfl, e, hl⟩ | ⟨hij, hj⟩
    · cases e
    · rw [List.getElem?_set_ne hij]
      exact r.ow j o hj
  dj := fun j k o o' hjk h1 h2 => by
    rcases set_inv h1 with ⟨rfl, e, hl⟩ | ⟨hij, h1⟩
    · cases e
    · rcases set_inv h2 with ⟨rfl, e, hl⟩ | ⟨hik, h2⟩
      · cases e
      · exact r.dj j k o o' hjk h1 h2
  lo := fun j hj => by
    rcases set_inv hj with ⟨rfl, e, hl⟩ | ⟨hij, hj⟩
    · cases e
    · rw [List.getElem?_set_ne hij]
      exact r.lo j hj
  asub := r.asub
  adis := r.adis
theorem RlA.set {A : Hp} {Λ : Nat → Option Addr} {ρ : Env} {σ : St} {d : D} {v : V} (r : RlA K A Λ ρ σ S H) (i : Nat) (h : Den K S d v) : RlA K A Λ (ρ.set i (.sh d)) (σ.set i (some v)) S H := let ⟨Φ, f⟩ := r; ⟨Φ, f.set i h⟩
theorem RlF.put {A : Hp} {Λ : Nat → Option Addr} {Φ : Nat → List Addr} {ρ : Env} {σ : St} {o : O} {v : V} {fp : List Addr} (r : RlF K A Λ Φ ρ σ S H) (i : Nat) (sub : Same S H') (asub : Same A H') (ow : Own K S H' o v fp) (nd : fp.Nodup) (n : ∀ b ∈ fp, S b = none ∧ A b = none)
    (keep : ∀ (j : Nat) o', j ≠ i → ρ[j]? = some (.ow o') → ∀ b ∈ Φ j, H' b = H b ∧ b ∉ fp) : RlF K A Λ (fun j => if j = i then fp else Φ j) (ρ.set i (.ow o)) (σ.set i (some v)) S H' where
  len := by rw [List.length_set, List.length_set]; exact r.len
  sub := sub
  sh := fun j e hj => by
    rcases set_inv hj with ⟨rfl, e, hl⟩ | ⟨hij, hj⟩
    · cases e
    · rw [List.getElem?_set_ne hij]
      exact r.sh j e hj
  ow := fun j o' hj => by
    rcases set_inv hj with ⟨rfl, e, hl⟩ | ⟨hij, hj⟩
    · cases e
      rw [if_pos rfl]
      exact ⟨v, List.getElem?_set_self (by rw [r.len]; exact hl), ow, nd, n⟩
    · rw [List.getElem?_set_ne hij, if_neg (Ne.symm hij)]
      obtain ⟨w, h1, h2, h3, h4⟩ := r.ow j o' hj
      exact ⟨w, h1, h2.mono (Same.refl _) fun b hb => (keep j o' (Ne.symm hij) hj b hb).1, h3, h4⟩
  dj := fun j k o1 o2 hjk h1 h2 b hb hb2 => by
    rcases set_inv h1 with ⟨rfl, e, hl⟩ | ⟨hij, h1⟩
    · rcases set_inv h2 with ⟨rfl, e, hl⟩ | ⟨hik, h2⟩
      · exact hjk rfl
      · rw [if_pos rfl] at hb
        rw [if_neg (Ne.symm hik)] at hb2
        exact (keep k o2 (Ne.symm hik) h2 b hb2).2 hb
    · rcases set_inv h2 with ⟨rfl, e, hl⟩ | ⟨hik, h2⟩
      · rw [if_pos rfl] at hb2
        rw [if_neg (Ne.symm hij)] at hb
        exact (keep j o1 (Ne.symm hij) h1 b hb).2 hb2
      · rw [if_neg (Ne.symm hij)] at hb
        rw [if_neg (Ne.symm hik)] at hb2
        exact r.dj j k o1 o2 hjk h1 h2 b hb hb2
  lo := fun j hj => by
    rcases set_inv hj with ⟨rfl, e, hl⟩ | ⟨hij, hj⟩
    · cases e
    · rw [List.getElem?_set_ne hij]
      exact r.lo j hj
  asub := asub
  adis := r.adis
theorem set_same {α : Type} {l : List α} {i : Nat} {x : α} (h : l[i]? = some x) : l.set i x = l := by
  apply List.ext_getElem?
  intro j
  by_cases e : i = j
  · subst e
    rw [List.getElem?_set_self (List.getElem?_eq_some_iff.mp h).1, h]
  · rw [List.getElem?_set_ne e]
noncomputable def frz (i : Nat) (ρ : Env) : Env := match ρ[i]? with | some (.ow o) => ρ.set i (.sh o.d) | _ => ρ
theorem RlA.frz {A : Hp} {Λ : Nat → Option Addr} {ρ : Env} {σ : St} (r : RlA K A Λ ρ σ S H) (i : Nat) : ∃ S', Same S S' ∧ RlA K A Λ (frz i ρ) σ S' H := by
  unfold M.frz
  cases q : ρ[i]? with
  | none => exact ⟨S, Same.refl _, r⟩
  | some s =>
    cases s with
    | un => exact ⟨S, Same.refl _, r⟩
    | lo => exact ⟨S, Same.refl _, r⟩
    | sh d => exact ⟨S, Same.refl _, r⟩
    | ow o =>
      dsimp only
      obtain ⟨Φ, f⟩ := r
      obtain ⟨v, h1, h2, h3, h4⟩ := f.ow i o q
      have s2 : Same S (frzS S H (Φ i)) := frzS_same fun b hb => (h4 b hb).1
      have hd : Den K (frzS S H (Φ i)) o.d v := h2.den s2 fun b hb => frzS_in hb
      refine ⟨_, s2, Φ, ?_⟩
      exact {
        len := by rw [List.length_set]; exact f.len
        sub := frzS_sub f.sub
        sh := fun j d hj => by
          rcases set_inv hj with ⟨rfl, e, hl⟩ | ⟨hij, hj⟩
          · cases e
            exact ⟨v, h1, hd⟩
          · obtain ⟨w, k1, k2⟩ := f.sh j d hj
            exact ⟨w, k1, k2.mono s2⟩
        ow := fun j o' hj => by
          rcases set_inv hj with ⟨rfl, e, hl⟩ | ⟨hij, hj⟩
          · cases e
          · obtain ⟨w, k1, k2, k3, k4⟩ := f.ow j o' hj
            exact ⟨w, k1, k2.mono s2 fun _ _ => rfl, k3, fun b hb => ⟨by rw [frzS_out fun hi => f.dj i j o o' hij q hj b hi hb]; exact (k4 b hb).1, (k4 b hb).2⟩⟩
        dj := fun j k o1 o2 hjk g1 g2 => by
          rcases set_inv g1 with ⟨rfl, e, hl⟩ | ⟨hij, g1⟩
          · cases e
          · rcases set_inv g2 with ⟨rfl, e, hl⟩ | ⟨hik, g2⟩
            · cases e
            · exact f.dj j k o1 o2 hjk g1 g2
        lo := fun j hj => by
          rcases set_inv hj with ⟨rfl, e, hl⟩ | ⟨hij, hj⟩
          · cases e
          · exact f.lo j hj
        asub := f.asub
        adis := fun b => by
          by_cases hb : b ∈ Φ i
          · exact .inr (h4 b hb).2
          · rw [frzS_out hb]; exact f.adis b }
@[simp] noncomputable def xFrz (i : Nat) (m : XS) : XS := fun ρ => m (frz i ρ)
theorem s_frz {t : TS} {m : XS} (i : Nat) (h : SS K t m) : SS K t (xFrz i m) := fun A Λ ρ σ S H E o r x k => by
  obtain ⟨S', s, r'⟩ := r.frz i
  exact h A Λ _ σ S' H E o r' x (k.mono s)
noncomputable abbrev XG := D → Env → Option Env
noncomputable abbrev XGs := List D → Env → Option Env
noncomputable def SG (K : PySem.W.Frag) (g : TG) (x : XG) : Prop := ∀ A Λ ρ σ S H v d (Q : St → Hp → Prop) ρ', RlA K A Λ ρ σ S H → Den K S d v → x d ρ = some ρ' → (∀ σ', RlA K A Λ ρ' σ' S H → Q σ' H) → g v σ H Q
noncomputable def SGs (K : PySem.W.Frag) (g : TGs) (x : XGs) : Prop := ∀ A Λ ρ σ S H vs ds (Q : St → Hp → Prop) ρ', RlA K A Λ ρ σ S H → Dens K S ds vs → x ds ρ = some ρ' → (∀ σ', RlA K A Λ ρ' σ' S H → Q σ' H) → g vs σ H Q
@[simp] noncomputable def xgName (i : Nat) : XG := fun d ρ => some (ρ.set i (.sh d))
noncomputable def xgNil : XGs := fun ds ρ => match ds with | [] => some ρ | _ => none
noncomputable def xgCons (x : XG) (y : XGs) : XGs := fun ds ρ => match ds with | d :: r => (x d ρ).bind (y r) | [] => none
noncomputable def xgTup (y : XGs) : XG := fun d ρ => match d with | .tup l => y l ρ | _ => none
theorem g_name (i : Nat) : SG K (gName i) (xgName i) := fun A Λ ρ σ S H v d Q ρ' r dv x k => by cases x; exact k _ (r.set i dv)
theorem g_nil : SGs K gNil xgNil := fun A Λ ρ σ S H vs ds Q ρ' r dv x k => by
  cases ds with
  | nil => cases x; exact ⟨dv.nil_of, k σ r⟩
  | cons _ _ => cases x
theorem g_cons {g : TG} {gs : TGs} {x : XG} {y : XGs} (h : SG K g x) (hs : SGs K gs y) : SGs K (gCons g gs) (xgCons x y) := fun A Λ ρ σ S H vs ds Q ρ' r dv e k => by
  cases ds with
  | nil => cases e
  | cons d ds =>
    obtain ⟨v, vs, rfl, h1, h2⟩ := dv.cons_of
    have e' : (x d ρ).bind (y ds) = some ρ' := e
    cases q : x d ρ with
    | none => rw [q] at e'; cases e'
    | some ρ1 =>
      rw [q] at e'
      exact ⟨v, vs, rfl, h A Λ ρ σ S H v d _ ρ1 r h1 q fun σ1 r1 => hs A Λ ρ1 σ1 S H vs ds Q ρ' r1 h2 e' k⟩
noncomputable def lenIs (y : XGs) (n : Nat) : Prop := ∀ ds ρ ρ', y ds ρ = some ρ' → ds.length = n
theorem li_nil : lenIs xgNil 0 := fun ds ρ ρ' e => by cases ds with | nil => rfl | cons _ _ => cases e
theorem li_cons {x : XG} {y : XGs} {n : Nat} (h : lenIs y n) : lenIs (xgCons x y) (n + 1) := fun ds ρ ρ' e => by
  cases ds with
  | nil => cases e
  | cons d ds =>
    have e' : (x d ρ).bind (y ds) = some ρ' := e
    cases q : x d ρ with
    | none => rw [q] at e'; cases e'
    | some ρ1 => rw [q] at e'; rw [List.length_cons, h ds ρ1 ρ' e']
theorem g_tup {gs : TGs} {y : XGs} {n : Nat} (hs : SGs K gs y) (hl : lenIs y n) : SG K (gTup K n gs) (xgTup y) := fun A Λ ρ σ S H v d Q ρ' r dv e k => by
  cases d with
  | tup l =>
    obtain ⟨p, xs, rfl, h1, h2⟩ := den_tupS dv
    exact ⟨p, xs, rfl, sqT_mono r.sub h1, by rw [← h2.length]; exact hl l ρ ρ' e, hs A Λ ρ σ S H xs l Q ρ' r h2 e k⟩
  | _ => cases e
@[simp] noncomputable def xAsg (e : XE) (g : XG) : XS := fun ρ => (e ρ).bind fun d => (g d ρ).map .nx
theorem s_asg {te : TE} {g : TG} {e : XE} {x : XG} (h : SE K te e) (hg : SG K g x) : SS K (tAsg te g) (xAsg e x) := fun A Λ ρ σ S H E o r y k => by
  unfold xAsg at y
  cases q : e ρ with
  | none => rw [q] at y; cases y
  | some d =>
    rw [q] at y
    dsimp only [Option.bind] at y
    cases q2 : x d ρ with
    | none => rw [q2] at y; cases y
    | some ρ' =>
      rw [q2] at y
      cases y
      exact h ρ σ S H _ d r.toRl q fun v S1 H1 z1 d1 => hg A Λ ρ σ S1 H1 v d _ ρ' (r.ext z1) d1 q2 fun σ' r' => k σ' S1 H1 r' z1.sh
@[simp] noncomputable def xAsgT (e : Env → Option O) (i : Nat) : XS := fun ρ => (e ρ).map fun o => .nx (ρ.set i (.ow o))
theorem s_asgT {te : TE} {e : Env → Option O} {i : Nat} (h : STr K te e) : SS K (tAsg te (gName i)) (xAsgT e i) := fun A Λ ρ σ S H E o r y k => by
  unfold xAsgT at y
  cases q : e ρ with
  | none => rw [q] at y; cases y
  | some ot =>
    rw [q] at y
    cases y
    obtain ⟨Φ, f⟩ := r
    refine h ρ σ S H _ ot ⟨A, Λ, Φ, f⟩ q fun v fp S1 H1 z1 o1 nd n => ?_
    have r1 := f.ext z1
    refine k _ S1 H1 ⟨_, r1.put (H' := H1) i r1.sub r1.asub o1 nd (fun b hb => ⟨(n b hb).2, f.asub.free (n b hb).1⟩) fun j o' hj e1 b hb => ⟨rfl, fun hf => ?_⟩⟩ z1.sh
    obtain ⟨w, _, k2, _, _⟩ := f.ow j o' e1
    exact k2.there b hb (n b hf).1
@[simp] noncomputable def xAsgF (e : XA) (i : Nat) : XS := xAsgT (xLT e) i
theorem s_asgF {te : TE} {e : XA} {i : Nat} (h : SF K te e) : SS K (tAsg te (gName i)) (xAsgF e i) := s_asgT h.t
noncomputable def subO : O → List Int → Option O
  | o, [] => some o
  | .lst l, k :: r => (atI l k).bind fun o => subO o r
  | .tup l, k :: r => (atI l k).bind fun o => subO o r
  | .sh _, _ :: _ => none
  | .dic _, _ :: _ => none
noncomputable def putL (l : List O) (k : Int) (f : O → O) : List O := match ixN l.length k with
  | some j => (match l[j]? with | some o => l.set j (f o) | none => l)
  | none => l
noncomputable def putO : O → List Int → O → O
  | _, [], q => q
  | .lst l, k :: r, q => .lst (putL l k fun o => putO o r q)
  | .tup l, k :: r, q => .tup (putL l k fun o => putO o r q)
  | .sh d, _ :: _, _ => .sh d
  | .dic d, _ :: _, _ => .dic d
noncomputable def WalkV (H : Hp) : V → List Int → V → Prop
  | v, [], w => v = w
  | v, k :: r, w => ∃ a xs u, v = .ref a ∧ (H a = some (.lst xs) ∨ H a = some (.tup xs)) ∧ atI xs k = some u ∧ WalkV H u r w
theorem WalkV.mono (s : Same H H') : ∀ {p : List Int} {v w : V}, WalkV H v p w → WalkV H' v p w
  | [], _, _, h => h
  | _ :: _, _, _, ⟨a, xs, u, e, h, k, m⟩ => ⟨a, xs, u, e, h.elim (fun z => .inl (s _ _ z)) (fun z => .inr (s _ _ z)), k, m.mono s⟩
theorem WalkV.uniq : ∀ {p : List Int} {v w w' : V}, WalkV H v p w → WalkV H v p w' → w = w'
  | [], _, _, _, h, k => h.symm.trans k
  | _ :: _, _, _, _, hpt0, hpt1 => by
    obtain ⟨a, xs, u, e, h, k, m⟩ := hpt0
    obtain ⟨a', xs', u', e', h', k', m'⟩ := hpt1
    rw [e] at e'
    cases e'
    have : xs = xs' := by
      rcases h with h | h <;> rcases h' with h' | h' <;> rw [h] at h' <;> cases h' <;> rfl
    subst this
    rw [k] at k'
    cases k'
    exact m.uniq m'
theorem WalkV.snoc : ∀ {p : List Int} {v w u : V} {k : Int} {a : Addr} {xs : List V}, WalkV H v p w → w = .ref a → (H a = some (.lst xs) ∨ H a = some (.tup xs)) → atI xs k = some u → WalkV H v (p ++ [k]) u
  | [], _, _, u, k, a, xs, h, e, h1, h2 => ⟨a, xs, u, h.trans e, h1, h2, rfl⟩
  | _ :: _, _, _, _, _, _, _, ⟨b, ys, u', e, h, k, m⟩, e', h1, h2 => ⟨b, ys, u', e, h, k, m.snoc e' h1 h2⟩
theorem subO_snoc : ∀ {p : List Int} {o q : O} {k : Int}, subO o (p ++ [k]) = some q → ∃ q0, subO o p = some q0 ∧ subO q0 [k] = some q
  | [], o, q, k, h => ⟨o, by unfold subO; rfl, h⟩
  | j :: p, o, q, k, h => by
    cases o with
    | sh d => cases h
    | dic _ => cases h
    | lst l =>
      have h' : (atI l j).bind (fun o => subO o (p ++ [k])) = some q := h
      cases e : atI l j with
      | none => rw [e] at h'; cases h'
      | some o1 =>
        rw [e] at h'
        obtain ⟨q0, a, b⟩ := subO_snoc (p := p) h'
        exact ⟨q0, by show (atI l j).bind (fun o => subO o p) = some q0; rw [e]; exact a, b⟩
    | tup l =>
      have h' : (atI l j).bind (fun o => subO o (p ++ [k])) = some q := h
      cases e : atI l j with
      | none => rw [e] at h'; cases h'
      | some o1 =>
        rw [e] at h'
        obtain ⟨q0, a, b⟩ := subO_snoc (p := p) h'
        exact ⟨q0, by show (atI l j).bind (fun o => subO o p) = some q0; rw [e]; exact a, b⟩
theorem Owns.split : ∀ {l : List O} {xs : List V} {f : List Addr} {j : Nat} {o : O}, Owns K S H l xs f → l[j]? = some o → ∃ x f1 f2 f3, xs[j]? = some x ∧ f = f1 ++ (f2 ++ f3) ∧ Own K S H o x f2 ∧
    ∀ H' o' f2', Own K S H' o' x f2' → (∀ b ∈ f1, H' b = H b) → (∀ b ∈ f3, H' b = H b) → Owns K S H' (l.set j o') xs (f1 ++ (f2' ++ f3))
  | [], _, _, _, _, _, e => by simp at e
  | o0 :: l, _, _, 0, o, h, e => by
    obtain ⟨y, ys, f, g, rfl, rfl, a, b⟩ := h.cons_of
    simp at e; subst e
    exact ⟨y, [], f, g, rfl, rfl, a, fun H' o' f2' h1 _ h3 => Owns.cons (f := f2') h1 (b.mono (Same.refl _) h3)⟩
  | o0 :: l, _, _, j + 1, o, h, e => by
    obtain ⟨y, ys, f, g, rfl, rfl, a, b⟩ := h.cons_of
    obtain ⟨x, f1, f2, f3, e1, rfl, h1, h2⟩ := b.split (j := j) (by simpa using e)
    refine ⟨x, f ++ f1, f2, f3, by simpa using e1, by rw [List.append_assoc], h1, fun H' o' f2' k1 k2 k3 => ?_⟩
    rw [List.append_assoc]
    exact .cons (a.mono (Same.refl _) fun b hb => k2 b (List.mem_append_left _ hb)) (h2 H' o' f2' k1 (fun b hb => k2 b (List.mem_append_right _ hb)) k3)
theorem atI_ix {α : Type} {l : List α} {k : Int} {x : α} (h : atI l k = some x) : ∃ j, ixN l.length k = some j ∧ l[j]? = some x := by
  unfold atI at h
  cases q : ixN l.length k with
  | none => rw [q] at h; cases h
  | some j => rw [q] at h; exact ⟨j, rfl, h⟩
theorem focus : ∀ {p : List Int} {o q : O} {v : V} {fp : List Addr}, Own K S H o v fp → fp.Nodup → subO o p = some q → ∃ w fq, Own K S H q w fq ∧ WalkV H v p w ∧ (∀ b ∈ fq, b ∈ fp) ∧ fq.Nodup ∧
    ∀ H' q' fq', Own K S H' q' w fq' → fq'.Nodup → (∀ b ∈ fp, b ∉ fq → H' b = H b) → (∀ b ∈ fq', b ∈ fp → b ∈ fq) → ∃ fp', Own K S H' (putO o p q') v fp' ∧ fp'.Nodup ∧ ∀ b ∈ fp', b ∈ fp ∨ b ∈ fq'
  | [], o, q, v, fp, h, nd, e => by
    have e' : some o = some q := by unfold subO at e; exact e
    cases e'
    exact ⟨v, fp, h, rfl, fun b hb => hb, nd, fun H' q' fq' h1 n1 _ _ => ⟨fq', by unfold putO; exact h1, n1, fun b hb => .inr hb⟩⟩
  | k :: r, o, q, v, fp, h, nd, e => by
    have body : ∀ (l : List O) (a : Addr) (xs : List V) (f : List Addr), v = .ref a → fp = a :: f → (H a = some (.lst xs) ∨ H a = some (.tup xs)) → Owns K S H l xs f → ((atI l k).bind fun o => subO o r) = some q →
        ∃ w fq, Own K S H q w fq ∧ WalkV H v (k :: r) w ∧ (∀ b ∈ fq, b ∈ fp) ∧ fq.Nodup ∧ ∀ H' q' fq', Own K S H' q' w fq' → fq'.Nodup → (∀ b ∈ fp, b ∉ fq → H' b = H b) → (∀ b ∈ fq', b ∈ fp → b ∈ fq) →
          ∃ f', Owns K S H' (putL l k fun o => putO o r q') xs f' ∧ H' a = H a ∧ (a :: f').Nodup ∧ ∀ b ∈ a :: f', b ∈ fp ∨ b ∈ fq' := by
      rintro l a xs f rfl rfl ha hl hs
      obtain ⟨na, nf⟩ := List.nodup_cons.mp nd
      cases qa : atI l k with
      | none => rw [qa] at hs; cases hs
      | some o1 =>
        rw [qa] at hs
        obtain ⟨j, ej, el⟩ := atI_ix qa
        obtain ⟨x, f1, f2, f3, ex, rfl, h1, h2⟩ := hl.split el
        obtain ⟨n1, n23, d1⟩ := List.nodup_append.mp nf
        obtain ⟨n2, n3, d2⟩ := List.nodup_append.mp n23
        obtain ⟨w, fq, k1, k2, k3, k4, k5⟩ := focus (p := r) h1 n2 hs
        have ax : atI xs k = some x := by unfold atI; rw [← hl.length, ej]; exact ex
        refine ⟨w, fq, k1, ⟨a, xs, x, rfl, ha, ax, k2⟩, fun b hb => List.mem_cons_of_mem _ (List.mem_append_right _ (List.mem_append_left _ (k3 b hb))), k4, fun H' q' fq' g1 g2 g3 g4 => ?_⟩
        have in2 : ∀ b ∈ fq, b ∈ f2 := k3
        have a1 : ∀ b ∈ f1, b ∉ fq := fun b hb hq => d1 b hb b (List.mem_append_left _ (in2 b hq)) rfl
        have a3 : ∀ b ∈ f3, b ∉ fq := fun b hb hq => d2 b (in2 b hq) b hb rfl
        have aa : a ∉ fq := fun hq => na (List.mem_append_right _ (List.mem_append_left _ (in2 a hq)))
        obtain ⟨f2', m1, m2, m3⟩ := k5 H' q' fq' g1 g2 (fun b hb hn => g3 b (List.mem_cons_of_mem _ (List.mem_append_right _ (List.mem_append_left _ hb))) hn) fun b hb hp => g4 b hb (List.mem_cons_of_mem _ (List.mem_append_right _ (List.mem_append_left _ hp)))
        have out : ∀ b ∈ f2', b ∉ f1 ∧ b ∉ f3 ∧ b ≠ a := fun b hb => by
          rcases m3 b hb with hb | hb
          · exact ⟨fun z => d1 b z b (List.mem_append_left _ hb) rfl, fun z => d2 b hb b z rfl, fun z => na (z ▸ List.mem_append_right _ (List.mem_append_left _ hb))⟩
          · refine ⟨fun z => a1 b z (g4 b hb (List.mem_cons_of_mem _ (List.mem_append_left _ z))), fun z => a3 b z (g4 b hb (List.mem_cons_of_mem _ (List.mem_append_right _ (List.mem_append_right _ z)))), fun z => ?_⟩
            subst z
            exact aa (g4 b hb List.mem_cons_self)
        refine ⟨f1 ++ (f2' ++ f3), ?_, g3 a List.mem_cons_self aa, ?_, fun b hb => ?_⟩
        · unfold putL
          rw [ej]
          dsimp only
          rw [el]
          exact h2 H' _ f2' m1 (fun b hb => g3 b (List.mem_cons_of_mem _ (List.mem_append_left _ hb)) (a1 b hb)) fun b hb => g3 b (List.mem_cons_of_mem _ (List.mem_append_right _ (List.mem_append_right _ hb))) (a3 b hb)
        · refine List.nodup_cons.mpr ⟨fun z => ?_, List.nodup_append.mpr ⟨n1, List.nodup_append.mpr ⟨m2, n3, fun b hb c hc e => (out b hb).2.1 (e ▸ hc)⟩, fun b hb c hc e => ?_⟩⟩
          · rcases List.mem_append.mp z with z | z
            · exact na (List.mem_append_left _ z)
            · rcases List.mem_append.mp z with z | z
              · exact (out a z).2.2 rfl
              · exact na (List.mem_append_right _ (List.mem_append_right _ z))
          · subst e
            rcases List.mem_append.mp hc with hc | hc
            · exact (out b hc).1 hb
            · exact d1 b hb b (List.mem_append_right _ hc) rfl
        · rcases List.mem_cons.mp hb with rfl | hb
          · exact .inl List.mem_cons_self
          · rcases List.mem_append.mp hb with hb | hb
            · exact .inl (List.mem_cons_of_mem _ (List.mem_append_left _ hb))
            · rcases List.mem_append.mp hb with hb | hb
              · exact (m3 b hb).imp (fun z => List.mem_cons_of_mem _ (List.mem_append_right _ (List.mem_append_left _ z))) id
              · exact .inl (List.mem_cons_of_mem _ (List.mem_append_right _ (List.mem_append_right _ hb)))
    cases o with
    | sh d => cases e
    | dic _ => cases e
    | lst l =>
      obtain ⟨a, xs, f, e1, e2, h1, h2⟩ := own_lst.mp h
      obtain ⟨w, fq, k1, k2, k3, k4, k5⟩ := body l a xs f e1 e2 (.inl h1) h2 e
      refine ⟨w, fq, k1, k2, k3, k4, fun H' q' fq' g1 g2 g3 g4 => ?_⟩
      obtain ⟨f', m1, m2, m3, m4⟩ := k5 H' q' fq' g1 g2 g3 g4
      exact ⟨a :: f', by unfold putO; exact own_lst.mpr ⟨a, xs, f', e1, rfl, by rw [m2]; exact h1, m1⟩, m3, m4⟩
    | tup l =>
      obtain ⟨a, xs, f, e1, e2, h1, h2⟩ := own_tup.mp h
      obtain ⟨w, fq, k1, k2, k3, k4, k5⟩ := body l a xs f e1 e2 (.inr h1) h2 e
      refine ⟨w, fq, k1, k2, k3, k4, fun H' q' fq' g1 g2 g3 g4 => ?_⟩
      obtain ⟨f', m1, m2, m3, m4⟩ := k5 H' q' fq' g1 g2 g3 g4
      exact ⟨a :: f', by unfold putO; exact own_tup.mpr ⟨a, xs, f', e1, rfl, by rw [m2]; exact h1, m1⟩, m3, m4⟩
noncomputable abbrev XP := Env → Option (List Int)
noncomputable def SPth (K : PySem.W.Frag) (to : TE) (i : Nat) (p : XP) : Prop := ∀ ρ σ S H (Q : VK) is o q, Rl K ρ σ S H → ρ[i]? = some (.ow o) → p ρ = some is → subO o is = some q → (∀ v w S' H', σ[i]? = some (some v) → Ext S H S' H' → WalkV H' v is w → Q w H') → to σ H Q
@[simp] noncomputable def xPv : XP := fun _ => some []
theorem p_var (i : Nat) : SPth K (tVar i) i xPv := fun ρ σ S H Q is o q r h1 h2 h3 k => by
  cases h2
  obtain ⟨v, fp, e, _⟩ := r.ow i o h1
  exact ⟨v, e, k v v S H e (Ext.refl r.sub) rfl⟩
@[simp] noncomputable def xPi (p : XP) (ix : XE) : XP := fun ρ => (p ρ).bind fun is => (ix ρ).bind fun d => match d with | .int k => some (is ++ [k]) | _ => none
theorem p_ix {to ti : TE} {i : Nat} {p : XP} {ix : XE} (hp : SPth K to i p) (hi : SPk K ti ix) : SPth K (tOp (rIx K) to ti) i (xPi p ix) := fun ρ σ S H Q is o q r h1 h2 h3 k => by
  unfold xPi at h2
  cases e1 : p ρ with
  | none => rw [e1] at h2; cases h2
  | some js =>
    rw [e1] at h2
    dsimp only [Option.bind] at h2
    cases e2 : ix ρ with
    | none => rw [e2] at h2; cases h2
    | some d =>
      rw [e2] at h2
      cases d with
      | int kk =>
        cases h2
        obtain ⟨q0, s1, s2⟩ := subO_snoc h3
        refine hp ρ σ S H _ js o q0 r h1 e1 s1 fun v w S1 H1 ev z1 wk => ?_
        have r1 := r.ext z1
        refine hi ρ σ S1 H1 _ _ r1 e2 fun u S2 H2 z2 d2 => ?_
        have r2 := r1.ext z2
        obtain ⟨v', fp, ev', ow, nd, _⟩ := r2.ow i o h1
        rw [ev] at ev'
        cases ev'
        obtain ⟨w', fq, k1, k2, _⟩ := focus ow nd s1
        have ew := k2.uniq (wk.mono (z2.same r1.sub))
        subst ew
        rw [d2.int]
        cases q0 with
        | sh _ => cases s2
        | dic _ => cases s2
        | lst l =>
          have s2' : (atI l kk).bind (fun o => subO o []) = some q := s2
          cases e3 : atI l kk with
          | none => rw [e3] at s2'; cases s2'
          | some o1 =>
            obtain ⟨a, xs, f, rfl, rfl, hx, hl⟩ := own_lst.mp k1
            obtain ⟨j, ej, el⟩ := atI_ix e3
            obtain ⟨x, _, _, _, ex, _⟩ := hl.split el
            have ax : atI xs kk = some x := by unfold atI; rw [← hl.length, ej]; exact ex
            exact .inl ⟨a, xs, kk, x, rfl, rfl, SqL.of hx, ax, k v x S2 H2 ev (z1.trans z2) (k2.snoc rfl (.inl hx) ax)⟩
        | tup l =>
          have s2' : (atI l kk).bind (fun o => subO o []) = some q := s2
          cases e3 : atI l kk with
          | none => rw [e3] at s2'; cases s2'
          | some o1 =>
            obtain ⟨a, xs, f, rfl, rfl, hx, hl⟩ := own_tup.mp k1
            obtain ⟨j, ej, el⟩ := atI_ix e3
            obtain ⟨x, _, _, _, ex, _⟩ := hl.split el
            have ax : atI xs kk = some x := by unfold atI; rw [← hl.length, ej]; exact ex
            exact .inr (.inl ⟨a, xs, kk, x, rfl, rfl, SqT.of hx, ax, k v x S2 H2 ev (z1.trans z2) (k2.snoc rfl (.inr hx) ax)⟩)
      | _ => cases h2
theorem RlF.at {A : Hp} {Λ : Nat → Option Addr} {Φ : Nat → List Addr} {ρ : Env} {σ : St} {i : Nat} {o : O} {is : List Int} {l : List O} {v w : V} (f : RlF K A Λ Φ ρ σ S H) (h1 : ρ[i]? = some (.ow o)) (h2 : subO o is = some (.lst l)) (ev : σ[i]? = some (some v)) (wk : WalkV H v is w) :
    ∃ a xs f0, w = .ref a ∧ H a = some (.lst xs) ∧ Owns K S H l xs f0 ∧ (a :: f0).Nodup ∧ (∀ b ∈ a :: f0, b ∈ Φ i) ∧ ∀ l' xs' f', (∀ H', (∀ b, b ≠ a → H' b = H b) → Owns K S H' l' xs' f') → (a :: f').Nodup → (∀ b ∈ f', b ∈ f0 ∨ ((∀ (j : Nat) o', ρ[j]? = some (.ow o') → b ∉ Φ j) ∧ S b = none ∧ A b = none)) →
      RlA K A Λ (ρ.set i (.ow (putO o is (.lst l')))) σ S (upd H a (.lst xs')) := by
  obtain ⟨v', e', ow, nd, n⟩ := f.ow i o h1
  rw [ev] at e'
  cases e'
  obtain ⟨w', fq, k1, k2, k3, k4, k5⟩ := focus ow nd h2
  have ew := k2.uniq wk
  subst ew
  obtain ⟨a, xs, g, rfl, rfl, hx, hl⟩ := own_lst.mp k1
  have ain := k3 a List.mem_cons_self
  refine ⟨a, xs, g, rfl, hx, hl, k4, k3, fun l' xs' f' g1 g2 g3 => ?_⟩
  have ne : ∀ b, b ≠ a → upd H a (.lst xs') b = H b := fun b hb => upd_ne hb
  obtain ⟨fp', m1, m2, m3⟩ := k5 (upd H a (.lst xs')) (.lst l') (a :: f') (own_lst.mpr ⟨a, xs', f', rfl, rfl, upd_same, g1 _ ne⟩) g2 (fun b hb hn => ne b fun z => hn (z ▸ List.mem_cons_self)) fun b hb hp => by
    rcases List.mem_cons.mp hb with rfl | hb
    · exact List.mem_cons_self
    · rcases g3 b hb with z | ⟨z, _⟩
      · exact List.mem_cons_of_mem _ z
      · exact absurd hp (z i o h1)
  have sub' : Same S (upd H a (.lst xs')) := fun b u e => by rw [ne b fun z => by subst z; rw [(n b ain).1] at e; cases e]; exact f.sub b u e
  have asub' : Same A (upd H a (.lst xs')) := fun b u e => by rw [ne b fun z => by subst z; rw [(n b ain).2] at e; cases e]; exact f.asub b u e
  have fin := f.put (H' := upd H a (.lst xs')) i sub' asub' m1 m2 (fun b hb => by
    rcases m3 b hb with z | z
    · exact n b z
    · rcases List.mem_cons.mp z with rfl | z
      · exact n b ain
      · rcases g3 b z with z | ⟨_, z⟩
        · exact n b (k3 b (List.mem_cons_of_mem _ z))
        · exact z) fun j o' hj e1 b hb => by
      have nb : b ∉ Φ i := fun z => f.dj j i o' o hj e1 h1 b hb z
      refine ⟨ne b fun z => nb (z ▸ ain), fun z => ?_⟩
      rcases m3 b z with z | z
      · exact nb z
      · rcases List.mem_cons.mp z with rfl | z
        · exact nb ain
        · rcases g3 b z with z | ⟨z, _⟩
          · exact nb (k3 b (List.mem_cons_of_mem _ z))
          · exact z j o' e1 hb
  rw [set_same ev] at fin
  exact ⟨_, fin⟩
theorem RlF.fresh {A : Hp} {Λ : Nat → Option Addr} {Φ : Nat → List Addr} {ρ : Env} {σ : St} {b : Addr} (f : RlF K A Λ Φ ρ σ S H) (h : H b = none) : (∀ (j : Nat) o', ρ[j]? = some (.ow o') → b ∉ Φ j) ∧ S b = none ∧ A b = none :=
  ⟨fun j o' e hb => by obtain ⟨_, _, ow, _⟩ := f.ow j o' e; exact ow.there b hb h, f.sub.free h, f.asub.free h⟩
@[simp] noncomputable def xAppP (i : Nat) (p : XP) (e : Env → Option O) : XS := fun ρ => match ρ[i]? with
  | some (.ow o) => (p ρ).bind fun is => (e ρ).bind fun x => match subO o is with
    | some (.lst l) => if l.length < LIM then some (.nx (ρ.set i (.ow (putO o is (.lst (l ++ [x])))))) else none
    | _ => none
  | _ => none
theorem s_appP {to te : TE} {i : Nat} {p : XP} {e : Env → Option O} (hp : SPth K to i p) (h : STr K te e) : SS K (tDrop (tBM K "list" rAppend to (tCons te tNil))) (xAppP i p e) := fun A Λ ρ σ S H E out r y k => by
  unfold xAppP at y
  cases q0 : ρ[i]? with
  | none => rw [q0] at y; cases y
  | some s =>
    rw [q0] at y
    cases s with
    | un => cases y
    | lo => cases y
    | sh d => cases y
    | ow o =>
      dsimp only at y
      cases q1 : p ρ with
      | none => rw [q1] at y; cases y
      | some is =>
        rw [q1] at y
        dsimp only [Option.bind] at y
        cases q2 : e ρ with
        | none => rw [q2] at y; cases y
        | some x =>
          rw [q2] at y
          dsimp only at y
          cases q3 : subO o is with
          | none => rw [q3] at y; cases y
          | some qo =>
            rw [q3] at y
            cases qo with
            | sh _ => cases y
            | dic _ => cases y
            | tup _ => cases y
            | lst l =>
              dsimp only at y
              split at y
              · rename_i hl
                cases y
                obtain ⟨Φ, f⟩ := r
                refine hp ρ σ S H _ is o _ ⟨A, Λ, Φ, f⟩ q0 q1 q3 fun v w S1 H1 ev z1 wk => ?_
                have f1 := f.ext z1
                obtain ⟨a, xs, g0, rfl, hx, hw, nd0, in0, _⟩ := f1.at q0 q3 ev wk
                refine ⟨.inl ⟨rfl, xs, SqL.of hx⟩, h ρ σ S1 H1 _ x ⟨A, Λ, Φ, f1⟩ q2 fun u fu S2 H2 z2 ou nd n => ?_⟩
                have f2 := f1.ext z2
                obtain ⟨a', xs', g1, e1, hx', hw', nd1, in1, up⟩ := f2.at q0 q3 ev (wk.mono (z2.same f1.sub))
                cases e1
                have fr : ∀ b ∈ fu, (∀ (j : Nat) o', ρ[j]? = some (.ow o') → b ∉ Φ j) ∧ S2 b = none ∧ A b = none := fun b hb => ⟨(f1.fresh (n b hb).1).1, (n b hb).2, (f1.fresh (n b hb).1).2.2⟩
                have fa : ∀ b ∈ fu, b ∉ a :: g1 := fun b hb z => (fr b hb).1 i o q0 (in1 b z)
                obtain ⟨na, ng⟩ := List.nodup_cons.mp nd1
                refine ⟨a, xs', u, rfl, rfl, hx', ?_, ?_⟩
                · rw [← hw'.length]; exact Nat.lt_trans hl lim_lt
                · refine k σ S2 _ (up (l ++ [x]) (xs' ++ [u]) (g1 ++ fu) (fun H' ne => ?_) ?_ fun b hb => ?_) (z1.sh.trans z2.sh)
                  · have := (hw'.mono (H' := H') (Same.refl _) fun b hb => ne b fun z => na (z ▸ hb)).append (.cons (ou.mono (H' := H') (Same.refl _) fun b hb => ne b fun z => fa b hb (z ▸ List.mem_cons_self)) .nil)
                    rw [List.append_nil] at this
                    exact this
                  · refine List.nodup_cons.mpr ⟨fun z => ?_, List.nodup_append.mpr ⟨ng, nd, fun b hb c hc e => fa c hc (e ▸ List.mem_cons_of_mem _ hb)⟩⟩
                    rcases List.mem_append.mp z with z | z
                    · exact na z
                    · exact fa a z List.mem_cons_self
                  · rcases List.mem_append.mp hb with hb | hb
                    · exact .inl hb
                    · exact .inr (fr b hb)
              · cases y
@[simp] noncomputable def xPopP (i : Nat) (p : XP) (j : Nat) : XS := fun ρ => match ρ[i]? with
  | some (.ow o) => (p ρ).bind fun is => match subO o is with
    | some (.lst l) => (match l.getLast? with
      | some (.sh d) => some (.nx ((ρ.set i (.ow (putO o is (.lst l.dropLast)))).set j (.sh d)))
      | _ => none)
    | _ => none
  | _ => none
@[simp] noncomputable def xRevP (i : Nat) (p : XP) : XS := fun ρ => match ρ[i]? with
  | some (.ow o) => (p ρ).bind fun is => match subO o is with
    | some (.lst l) => (match shs l with | some ds => some (.nx (ρ.set i (.ow (putO o is (.lst (ds.reverse.map .sh)))))) | none => none)
    | _ => none
  | _ => none
noncomputable def rExtM : V → List V → Hp → VK → Prop := fun x vs H Q => ∃ l b xs zs, x = .ref l ∧ vs = [.ref b] ∧ H l = some (.lst xs) ∧ Rd H b (.lst zs) ∧ xs.length + zs.length ≤ sizeLine ∧ Q .non (upd H l (.lst (xs ++ zs)))
@[simp] noncomputable def xExtP (i : Nat) (p : XP) (e : XE) : XS := fun ρ => match ρ[i]? with
  | some (.ow o) => (p ρ).bind fun is => (e ρ).bind fun d => match subO o is, d with
    | some (.lst l), .lst ds => if l.length + ds.length ≤ LIM then some (.nx (ρ.set i (.ow (putO o is (.lst (l ++ ds.map .sh)))))) else none
    | _, _ => none
  | _ => none
theorem s_extP {to te : TE} {i : Nat} {p : XP} {e : XE} (hp : SPth K to i p) (h : SE K te e) : SS K (tDrop (tBM K "list" rExtM to (tCons te tNil))) (xExtP i p e) := fun A Λ ρ σ S H E out r y k => by
  unfold xExtP at y
  cases q0 : ρ[i]? with
  | none => rw [q0] at y; cases y
  | some s =>
    rw [q0] at y
    cases s with
    | un => cases y
    | lo => cases y
    | sh d => cases y
    | ow o =>
      dsimp only at y
      cases q1 : p ρ with
      | none => rw [q1] at y; cases y
      | some is =>
        rw [q1] at y
        dsimp only [Option.bind] at y
        cases q2 : e ρ with
        | none => rw [q2] at y; cases y
        | some dd =>
          rw [q2] at y
          dsimp only at y
          cases q3 : subO o is with
          | none => rw [q3] at y; cases y
          | some qo =>
            rw [q3] at y
            cases qo with
            | sh _ => cases y
            | dic _ => cases y
            | tup _ => cases y
            | lst l =>
              cases dd with
              | lst ds =>
                dsimp only at y
                split at y
                · rename_i hl
                  cases y
                  obtain ⟨Φ, f⟩ := r
                  refine hp ρ σ S H _ is o _ ⟨A, Λ, Φ, f⟩ q0 q1 q3 fun v w S1 H1 ev z1 wk => ?_
                  have f1 := f.ext z1
                  obtain ⟨a, xs, g0, rfl, hx, hw, nd0, in0, _⟩ := f1.at q0 q3 ev wk
                  refine ⟨.inl ⟨rfl, xs, SqL.of hx⟩, h ρ σ S1 H1 _ _ ⟨A, Λ, Φ, f1⟩ q2 fun u S2 H2 z2 d2 => ?_⟩
                  have f2 := f1.ext z2
                  obtain ⟨a', xs', g1, e1, hx', hw', nd1, in1, up⟩ := f2.at q0 q3 ev (wk.mono (z2.same f1.sub))
                  cases e1
                  obtain ⟨b, zs, rfl, hb, dz⟩ := den_lst.mp d2
                  obtain ⟨na, ng⟩ := List.nodup_cons.mp nd1
                  refine ⟨a, b, xs', zs, rfl, rfl, hx', rd_mono z2.sub hb, ?_, ?_⟩
                  · rw [← hw'.length, ← dz.length]; exact Nat.le_of_lt (Nat.lt_of_le_of_lt hl lim_lt)
                  · refine k σ S2 _ (up (l ++ ds.map .sh) (xs' ++ zs) g1 (fun H' ne => ?_) nd1 fun b hb => .inl hb) (z1.sh.trans z2.sh)
                    have := (hw'.mono (H' := H') (Same.refl _) fun b hb => ne b fun z => na (z ▸ hb)).append (owns_sh (H := H') dz)
                    rw [List.append_nil] at this
                    exact this
                · cases y
              | _ => cases y
@[simp] noncomputable def xSetP (i : Nat) (p : XP) (ix e : XE) : XS := fun ρ => (e ρ).bind fun d => match ρ[i]? with
  | some (.ow o) => (p ρ).bind fun is => (ix ρ).bind fun k => match subO o is, k with
    | some (.lst l), .int k => (match shs l with | some ds => (ixN ds.length k).map fun j => .nx (ρ.set i (.ow (putO o is (.lst ((ds.set j d).map .sh))))) | none => none)
    | _, _ => none
  | _ => none
theorem s_setP {to te ti : TE} {i : Nat} {p : XP} {e ix : XE} (h : SE K te e) (hp : SPth K to i p) (hi : SPk K ti ix) : SS K (tAsg te (gSub to ti rSetL)) (xSetP i p ix e) := fun A Λ ρ σ S H E out r y k => by
  unfold xSetP at y
  cases q : e ρ with
  | none => rw [q] at y; cases y
  | some d =>
    rw [q] at y
    dsimp only [Option.bind] at y
    cases q0 : ρ[i]? with
    | none => rw [q0] at y; cases y
    | some s =>
      rw [q0] at y
      cases s with
      | un => cases y
      | lo => cases y
      | sh d => cases y
      | ow o =>
        dsimp only at y
        cases q1 : p ρ with
        | none => rw [q1] at y; cases y
        | some is =>
          rw [q1] at y
          dsimp only at y
          cases q2 : ix ρ with
          | none => rw [q2] at y; cases y
          | some dk =>
            rw [q2] at y
            dsimp only at y
            cases q3 : subO o is with
            | none => rw [q3] at y; cases y
            | some qo =>
              rw [q3] at y
              cases qo with
              | sh _ => cases y
              | dic _ => cases y
              | tup _ => cases y
              | lst l =>
                cases dk with
                | int kk =>
                  dsimp only at y
                  cases q4 : shs l with
                  | none => rw [q4] at y; cases y
                  | some ds =>
                    rw [q4] at y
                    dsimp only at y
                    cases q5 : ixN ds.length kk with
                    | none => rw [q5] at y; cases y
                    | some j =>
                      rw [q5] at y
                      cases y
                      have ed := of_shs q4
                      subst ed
                      obtain ⟨Φ, f⟩ := r
                      refine h ρ σ S H _ d ⟨A, Λ, Φ, f⟩ q fun u S0 H0 z0 d0 => ?_
                      have f0 := f.ext z0
                      refine hp ρ σ S0 H0 _ is o _ ⟨A, Λ, Φ, f0⟩ q0 q1 q3 fun v w S1 H1 ev z1 wk => ?_
                      have f1 := f0.ext z1
                      refine hi ρ σ S1 H1 _ _ ⟨A, Λ, Φ, f1⟩ q2 fun w2 S2 H2 z2 d2 => ?_
                      have f2 := f1.ext z2
                      obtain ⟨a', xs', g1, rfl, hx', hw', nd1, in1, up⟩ := f2.at q0 q3 ev (wk.mono (z2.same f1.sub))
                      obtain ⟨hd, rfl⟩ := of_owns_sh hw'
                      refine ⟨a', xs', kk, j, rfl, d2.int, hx', by rw [← hd.length]; exact q5, ?_⟩
                      exact k σ S2 _ (up ((ds.set j d).map .sh) (xs'.set j u) [] (fun H' ne => owns_sh (hd.set j ((d0.mono z1.sh).mono z2.sh))) nd1 fun b hb => by cases hb) ((z0.sh.trans z1.sh).trans z2.sh)
                | _ => cases y
@[simp] noncomputable def xAug (i : Nat) (e : XE) (f : D → D → Option D) : XS := fun ρ => match ρ[i]? with
  | some (.sh x) => (e ρ).bind fun y => (f x y).map fun z => .nx (ρ.set i (.sh z))
  | _ => none
@[simp] noncomputable def xDrop (e : XE) : XS := fun ρ => (e ρ).map fun _ => .nx ρ
end
end M
namespace M
open PySem L2
section
variable {K : PySem.W.Frag} {S S' H H' : Hp}
noncomputable def Walks (K : PySem.W.Frag) (J : It) (S : Hp) (l : List D) : Prop := ∀ S' H', Same S S' → Same S' H' →
  (∀ i d, l[i]? = some d → J.go i H' ∧ ∀ x H'', J.yld i H' x H'' → H'' = H' ∧ Den K S' d x) ∧ J.stop l.length H'
noncomputable def SI (K : PySem.W.Frag) (wi : TI) (e : XA) : Prop := ∀ ρ σ S H (R : It → Hp → Prop) l, Rl K ρ σ S H → e ρ = some l → (∀ J S' H', Ext S H S' H' → Walks K J S' l → R J H') → wi σ H R
noncomputable def seqD : D → Option (List D)
  | .lst l => some l | .tup l => some l | .scr l => some l | _ => none
noncomputable def WalksE (K : PySem.W.Frag) (J : It) (S H : Hp) (l : List D) : Prop := ∀ S' H', Ext S H S' H' →
  (∀ i d, l[i]? = some d → J.go i H' ∧ ∀ x H'', J.yld i H' x H'' → H'' = H' ∧ Den K S' d x) ∧ J.stop l.length H'
noncomputable def SIP (K : PySem.W.Frag) (wi : TI) (e : XA) : Prop := ∀ ρ σ S H (R : It → Hp → Prop) l, Rl K ρ σ S H → e ρ = some l → (∀ J S' H', Ext S H S' H' → WalksE K J S' H' l → R J H') → wi σ H R
theorem SI.p {wi : TI} {e : XA} (h : SI K wi e) : SIP K wi e := fun ρ σ S H R l r x k => h ρ σ S H R l r x fun J S' H' z w => k J S' H' z fun S2 H2 z2 => w S2 H2 z2.sh z2.sub
@[simp] noncomputable def xIt (e : XE) : XA := fun ρ => (e ρ).bind seqD
theorem i_seq {tl : TE} {e : XE} (h : SE K tl e) : SI K (iSeq K tl) (xIt e) := fun ρ σ S H R l r x k => by
  unfold xIt at x
  cases q : e ρ with
  | none => rw [q] at x; cases x
  | some d =>
    rw [q] at x
    dsimp only [Option.bind] at x
    refine h ρ σ S H _ d r q fun v S1 H1 z1 d1 => ?_
    cases d with
    | lst l' =>
      cases x
      obtain ⟨p, xs, rfl, h1, h2⟩ := den_lst.mp d1
      refine ⟨p, rfl, .inl ⟨⟨xs, .inl (rd_mono z1.sub h1)⟩, k _ S1 H1 z1 fun S' H' s1 s2 => ⟨fun i d hd => ?_, xs, .inl (rd_mono (s1.trans s2) h1), Nat.le_of_eq h2.length.symm⟩⟩⟩
      obtain ⟨y, e1, e2⟩ := h2.get hd
      refine ⟨⟨xs, y, .inl (rd_mono (s1.trans s2) h1), e1⟩, fun x H'' hy => ⟨hy.1, ?_⟩⟩
      have := hy.2 xs (.inl (rd_mono (s1.trans s2) h1))
      rw [e1] at this
      cases this
      exact e2.mono s1
    | tup l' =>
      cases x
      obtain ⟨p, xs, rfl, h1, h2⟩ := den_tupS d1
      refine ⟨p, rfl, .inr ⟨⟨xs, sqT_mono z1.sub h1⟩, k _ S1 H1 z1 fun S' H' s1 s2 => ⟨fun i d hd => ?_, xs, sqT_mono (s1.trans s2) h1, Nat.le_of_eq h2.length.symm⟩⟩⟩
      obtain ⟨y, e1, e2⟩ := h2.get hd
      refine ⟨⟨xs, y, sqT_mono (s1.trans s2) h1, e1⟩, fun x H'' hy => ⟨hy.1, ?_⟩⟩
      have := hy.2 xs (sqT_mono (s1.trans s2) h1)
      rw [e1] at this
      cases this
      exact e2.mono s1
    | scr l' =>
      cases x
      obtain ⟨p, xs, rfl, h1, h2⟩ := den_scr.mp d1
      refine ⟨p, rfl, .inl ⟨⟨xs, sqL_mono z1.sub h1⟩, k _ S1 H1 z1 fun S' H' s1 s2 => ⟨fun i d hd => ?_, xs, sqL_mono (s1.trans s2) h1, Nat.le_of_eq h2.length.symm⟩⟩⟩
      obtain ⟨y, e1, e2⟩ := h2.get hd
      refine ⟨⟨xs, y, sqL_mono (s1.trans s2) h1, e1⟩, fun x H'' hy => ⟨hy.1, ?_⟩⟩
      have := hy.2 xs (sqL_mono (s1.trans s2) h1)
      rw [e1] at this
      cases this
      exact e2.mono s1
    | _ => cases x
noncomputable def ifC {α : Type} (p : Prop) (a b : α) : α := @ite α p (Classical.propDecidable p) a b
theorem ifC_pos {α : Type} {p : Prop} {a b : α} (h : p) : ifC p a b = a := by unfold ifC; exact if_pos h
theorem ifC_some {α : Type} {p : Prop} {a x : α} (h : ifC p (some a) none = some x) : p ∧ a = x := by
  unfold ifC at h
  by_cases c : p
  · rw [if_pos c] at h; exact ⟨c, Option.some.inj h⟩
  · rw [if_neg c] at h; cases h
theorem i_seqP {tl : TE} {e : XE} (h : SPk K tl e) : SIP K (iSeq K tl) (xIt e) := fun ρ σ S H R l r x k => by
  unfold xIt at x
  cases q : e ρ with
  | none => rw [q] at x; cases x
  | some d =>
    rw [q] at x
    dsimp only [Option.bind] at x
    refine h ρ σ S H _ d r q fun v S1 H1 z1 d1 => ?_
    rcases d1 with d1 | ⟨l', p, xs, rfl, rfl, hx, dx⟩
    · cases d with
      | lst l' =>
        cases x
        obtain ⟨p, xs, rfl, h1, h2⟩ := den_lst.mp d1
        refine ⟨p, rfl, .inl ⟨⟨xs, .inl (rd_mono z1.sub h1)⟩, k _ S1 H1 z1 fun S' H' z2 => ⟨fun i d hd => ?_, xs, .inl (rd_mono (z2.sh.trans z2.sub) h1), Nat.le_of_eq h2.length.symm⟩⟩⟩
        obtain ⟨y, e1, e2⟩ := h2.get hd
        refine ⟨⟨xs, y, .inl (rd_mono (z2.sh.trans z2.sub) h1), e1⟩, fun x H'' hy => ⟨hy.1, ?_⟩⟩
        have := hy.2 xs (.inl (rd_mono (z2.sh.trans z2.sub) h1))
        rw [e1] at this
        cases this
        exact e2.mono z2.sh
      | tup l' =>
        cases x
        obtain ⟨p, xs, rfl, h1, h2⟩ := den_tupS d1
        refine ⟨p, rfl, .inr ⟨⟨xs, sqT_mono z1.sub h1⟩, k _ S1 H1 z1 fun S' H' z2 => ⟨fun i d hd => ?_, xs, sqT_mono (z2.sh.trans z2.sub) h1, Nat.le_of_eq h2.length.symm⟩⟩⟩
        obtain ⟨y, e1, e2⟩ := h2.get hd
        refine ⟨⟨xs, y, sqT_mono (z2.sh.trans z2.sub) h1, e1⟩, fun x H'' hy => ⟨hy.1, ?_⟩⟩
        have := hy.2 xs (sqT_mono (z2.sh.trans z2.sub) h1)
        rw [e1] at this
        cases this
        exact e2.mono z2.sh
      | scr l' =>
        cases x
        obtain ⟨p, xs, rfl, h1, h2⟩ := den_scr.mp d1
        refine ⟨p, rfl, .inl ⟨⟨xs, sqL_mono z1.sub h1⟩, k _ S1 H1 z1 fun S' H' z2 => ⟨fun i d hd => ?_, xs, sqL_mono (z2.sh.trans z2.sub) h1, Nat.le_of_eq h2.length.symm⟩⟩⟩
        obtain ⟨y, e1, e2⟩ := h2.get hd
        refine ⟨⟨xs, y, sqL_mono (z2.sh.trans z2.sub) h1, e1⟩, fun x H'' hy => ⟨hy.1, ?_⟩⟩
        have := hy.2 xs (sqL_mono (z2.sh.trans z2.sub) h1)
        rw [e1] at this
        cases this
        exact e2.mono z2.sh
      | _ => cases x
    · cases x
      refine ⟨p, rfl, .inl ⟨⟨xs, SqL.of hx⟩, k _ S1 H1 z1 fun S' H' z2 => ?_⟩⟩
      have hx2 : H' p = some (.lst xs) := z2.same z1.sub _ _ hx
      refine ⟨fun i d hd => ?_, xs, SqL.of hx2, Nat.le_of_eq dx.length.symm⟩
      obtain ⟨y, e1, e2⟩ := dx.get hd
      refine ⟨⟨xs, y, SqL.of hx2, e1⟩, fun x H'' hy => ⟨hy.1, ?_⟩⟩
      have := hy.2 xs (SqL.of hx2)
      rw [e1] at this
      cases this
      exact e2.mono z2.sh
noncomputable def intsD (lo : Int) : Nat → List D
  | 0 => []
  | n + 1 => .int lo :: intsD (lo + 1) n
theorem intsD_get : ∀ (n : Nat) (lo : Int) (i : Nat) (d : D), (intsD lo n)[i]? = some d → i < n ∧ d = .int (lo + i)
  | 0, _, _, _, h => by simp [intsD] at h
  | n + 1, lo, 0, d, h => by simp [intsD] at h; exact ⟨Nat.succ_pos _, by rw [← h]; simp⟩
  | n + 1, lo, i + 1, d, h => by
    obtain ⟨h1, h2⟩ := intsD_get n (lo + 1) i d (by simpa [intsD] using h)
    exact ⟨Nat.succ_lt_succ h1, by rw [h2]; congr 1; omega⟩
theorem intsD_len : ∀ (n : Nat) (lo : Int), (intsD lo n).length = n
  | 0, _ => rfl
  | n + 1, lo => by rw [intsD, List.length_cons, intsD_len n]
theorem walks_rng (lo : Int) (n : Nat) : Walks K (Itr lo n) S (intsD lo n) := fun S' H' _ _ => ⟨fun i d h => by
  obtain ⟨h1, rfl⟩ := intsD_get n lo i d h
  exact ⟨h1, fun x H'' y => ⟨y.1, den_int.mpr y.2⟩⟩, by rw [intsD_len]; exact Nat.le_refl _⟩
noncomputable def rngD : List D → Option (List D)
  | [.int j] => ifC (j < 1000000 ∧ -1000000 < j) (some (intsD 0 j.toNat)) none
  | [.int i, .int j] => ifC (j < 4000000000000000000 ∧ -4000000000000000000 < i ∧ i < 4000000000000000000 ∧ -4000000000000000000 < j) (some (intsD i (j - i).toNat)) none
  | _ => none
@[simp] noncomputable def xRng (a : XA) : XA := fun ρ => (a ρ).bind rngD
theorem i_rng1 {ta : TE} {a : XE} (h : SPk K ta a) : SI K (iRng1 (tCons ta tNil)) (xRng (xCons a xNil)) := fun ρ σ S H R l r x k => by
  unfold xRng at x
  cases q : xCons a xNil ρ with
  | none => rw [q] at x; cases x
  | some ds =>
    rw [q] at x
    obtain ⟨d, e, qa, qb, rfl⟩ := xCons_of q
    cases qb
    cases d with
    | int j =>
      have x' : ifC (j < 1000000 ∧ -1000000 < j) (some (intsD 0 j.toNat)) none = some l := x
      obtain ⟨hj, rfl⟩ := ifC_some x'
      refine h ρ σ S H _ _ r qa fun v S1 H1 z1 d1 => ?_
      refine ⟨j, by rw [d1.int], ?_, ?_, k _ S1 H1 z1 (walks_rng 0 _)⟩
      · have : (2 : Int) ^ 62 = 4611686018427387904 := by decide
        omega
      · have : (2 : Int) ^ 62 = 4611686018427387904 := by decide
        omega
    | _ => cases x
noncomputable def evensD : Nat → Nat → List D
  | _, 0 => []
  | k, n + 1 => .int (2 * k) :: evensD (k + 1) n
noncomputable def rng3D : List D → Option (List D)
  | [.int a, .int j, .int b] => ifC (a = 0 ∧ b = 2 ∧ 0 ≤ j ∧ j < 1000000) (some (evensD 0 ((j + 1) / 2).toNat)) none
  | _ => none
@[simp] noncomputable def xRng3 (a : XA) : XA := fun ρ => (a ρ).bind rng3D
noncomputable def loopF (g : XG) (m : XS) : List D → Env → Option Out
  | [], ρ => some (.nx ρ)
  | d :: l, ρ => (g d ρ).bind fun ρ1 => match m ρ1 with
    | some (.nx ρ2) => loopF g m l ρ2
    | some (.ct ρ2) => loopF g m l ρ2
    | some (.bk ρ2) => some (.nx ρ2)
    | some (.rt d) => some (.rt d)
    | some (.ro d) => some (.ro d)
    | none => none
@[simp] noncomputable def xFor (e : XA) (g : XG) (m : XS) : XS := fun ρ => (e ρ).bind fun l => loopF g m l ρ
theorem drop_get {l : List D} {i : Nat} {d : D} (h : l[i]? = some d) : l.drop i = d :: l.drop (i + 1) := by
  obtain ⟨h1, rfl⟩ := List.getElem?_eq_some_iff.mp h
  exact List.drop_eq_getElem_cons h1
theorem s_for {wi : TI} {g : TG} {tb : TS} {e : XA} {x : XG} {m : XS} (hi : SI K wi e) (hg : SG K g x) (hb : SS K tb m) : SS K (tFor wi g tb) (xFor e x m) := fun A Λ ρ σ S H E o r y k => by
  unfold xFor at y
  cases q : e ρ with
  | none => rw [q] at y; cases y
  | some l =>
    rw [q] at y
    dsimp only [Option.bind] at y
    refine hi ρ σ S H _ l r.toRl q fun J S1 H1 z1 wk => ?_
    have r1 := r.ext z1
    refine ⟨fun i n σ' H' => n = l.length - i ∧ i ≤ l.length ∧ ∃ ρ' S', RlA K A Λ ρ' σ' S' H' ∧ Same S1 S' ∧ loopF x m (l.drop i) ρ' = some o, ⟨_, rfl, Nat.zero_le _, ρ, S1, r1, Same.refl _, y⟩, ?_⟩
    rintro i n σ2 H2 ⟨rfl, hil, ρ2, S2, r2, s2, y2⟩
    obtain ⟨w1, w2⟩ := wk S2 H2 s2 r2.sub
    cases qd : l[i]? with
    | none =>
      have : l.length = i := by have := List.getElem?_eq_none_iff.mp qd; omega
      subst this
      rw [List.drop_of_length_le (Nat.le_refl _)] at y2
      cases y2
      exact .inl ⟨w2, k σ2 S2 H2 r2 (z1.sh.trans s2)⟩
    | some d =>
      obtain ⟨g1, g2⟩ := w1 i d qd
      have hlt := (List.getElem?_eq_some_iff.mp qd).1
      rw [drop_get qd] at y2
      unfold loopF at y2
      cases qx : x d ρ2 with
      | none => rw [qx] at y2; cases y2
      | some ρ3 =>
        rw [qx] at y2
        dsimp only [Option.bind] at y2
        refine .inr ⟨g1, fun σ' H' => ∃ ρ' S', RlA K A Λ ρ' σ' S' H' ∧ Same S1 S' ∧ loopF x m (l.drop (i + 1)) ρ' = some o, fun σ' H' ⟨ρ', S', a1, a2, a3⟩ => ⟨_, by omega, rfl, hlt, ρ', S', a1, a2, a3⟩, fun xv H3 hy => ?_⟩
        obtain ⟨rfl, dx⟩ := g2 xv H3 hy
        refine hg A Λ ρ2 σ2 S2 H3 xv d _ ρ3 r2 dx qx fun σ3 r3 => ?_
        cases qm : m ρ3 with
        | none => rw [qm] at y2; cases y2
        | some om =>
          rw [qm] at y2
          refine hb A Λ ρ3 σ3 S2 H3 _ om r3 qm ?_
          cases om with
          | nx ρ4 => exact fun σ4 S4 H4 r4 s4 => ⟨ρ4, S4, r4, s2.trans s4, y2⟩
          | ct ρ4 => exact fun σ4 S4 H4 r4 s4 => ⟨ρ4, S4, r4, s2.trans s4, y2⟩
          | bk ρ4 => cases y2; exact fun σ4 S4 H4 r4 s4 => k σ4 S4 H4 r4 ((z1.sh.trans s2).trans s4)
          | rt d4 => cases y2; exact fun v S4 H4 s4 => k v S4 H4 ((z1.sh.trans s2).trans s4)
          | ro d4 => cases y2; exact fun v fp S4 H4 s4 => k v fp S4 H4 ((z1.sh.trans s2).trans s4)
@[simp] noncomputable def innX (js : List (Option Nat)) (ρ : Env) : Env := js.map fun o => match o with | none => .un | some j => match ρ[j]? with | some (.sh d) => .sh d | _ => .un
noncomputable def compF (g : XG) (c : XT) (e : XE) (ρ0 : Env) : List D → Option (List D)
  | [] => some []
  | d :: l => (g d ρ0).bind fun ρ1 => (c ρ1).bind fun b => if b = true then (e ρ1).bind fun y => (compF g c e ρ0 l).map fun r => y :: r else compF g c e ρ0 l
@[simp] noncomputable def xComp (js : List (Option Nat)) (w : XA) (g : XG) (c : XT) (e : XE) : XA := fun ρ => (w ρ).bind fun l => if l.length ≤ LIM then compF g c e (innX js ρ) l else none
@[simp] noncomputable def xYes : XT := fun _ => some true
theorem s_yes : ST K fNone xYes := fun ρ σ S H Q b r x k => by cases x; exact k S H (Ext.refl r.sub)
theorem innX_get {js : List (Option Nat)} {ρ : Env} {i : Nat} {s : Sl} (h : (innX js ρ)[i]? = some s) : s = .un ∨ ∃ d j, s = .sh d ∧ js[i]? = some (some j) ∧ ρ[j]? = some (.sh d) := by
  unfold innX at h
  rw [List.getElem?_map] at h
  cases q : js[i]? with
  | none => rw [q] at h; cases h
  | some o =>
    rw [q] at h
    cases o with
    | none => cases h; exact .inl rfl
    | some j =>
      simp only [Option.map_some] at h
      cases q2 : ρ[j]? with
      | none => rw [q2] at h; cases h; exact .inl rfl
      | some s2 =>
        rw [q2] at h
        cases s2 with
        | un => cases h; exact .inl rfl
        | lo => cases h; exact .inl rfl
        | ow l => cases h; exact .inl rfl
        | sh d => cases h; exact .inr ⟨d, j, rfl, rfl, q2⟩
noncomputable def alien (S H : Hp) : Hp := fun b => match S b with | none => H b | some _ => none
theorem alien_sub {S H : Hp} : Same (alien S H) H := fun b o h => by
  unfold alien at h
  cases q : S b with
  | none => rw [q] at h; exact h
  | some _ => rw [q] at h; cases h
theorem alien_dis {S H : Hp} (b : Addr) : S b = none ∨ alien S H b = none := by
  unfold alien
  cases q : S b with
  | none => exact .inl rfl
  | some _ => exact .inr rfl
theorem alien_of {S H : Hp} {b : Addr} {o : HO} (h : H b = some o) (n : S b = none) : alien S H b = some o := by
  unfold alien
  rw [n]
  exact h
theorem rl_inn {ρ : Env} {σ : St} (r : Rl K ρ σ S H) (js : List (Option Nat)) : RlA K (alien S H) (fun _ => none) (innX js ρ) (inn js σ) S H := by
  refine ⟨fun _ => [], ?_⟩
  exact {
    len := by unfold innX inn; rw [List.length_map, List.length_map]
    sub := r.sub
    sh := fun i d h => by
      rcases innX_get h with e | ⟨d', j, e, h1, h2⟩
      · cases e
      · cases e
        obtain ⟨v, k1, k2⟩ := r.sh j d h2
        refine ⟨v, ?_, k2⟩
        unfold inn
        rw [List.getElem?_map, h1]
        show some ((σ[j]?).join) = some (some v)
        rw [k1]
        rfl
    ow := fun i o h => by
      rcases innX_get h with e | ⟨d', j, e, h1, h2⟩
      · cases e
      · cases e
    dj := fun i j o o' _ h => by
      rcases innX_get h with e | ⟨d', j, e, h1, h2⟩
      · cases e
      · cases e
    lo := fun i h => by
      rcases innX_get h with e | ⟨d', j, e, h1, h2⟩
      · cases e
      · cases e
    asub := alien_sub
    adis := alien_dis }
theorem s_comp {js : List (Option Nat)} {wi : TI} {g : TG} {tt : TIf} {te : TE} {w : XA} {x : XG} {c : XT} {e : XE} (hi : SIP K wi w) (hg : SG K g x) (hc : ST K tt c) (he : SE K te e) : SF K (tComp js wi g tt te) (xComp js w x c e) := fun ρ σ S H Q l r y k => by
  unfold xComp at y
  cases q : w ρ with
  | none => rw [q] at y; cases y
  | some ds =>
    rw [q] at y
    dsimp only [Option.bind] at y
    split at y
    · rename_i hlim
      refine hi ρ σ S H _ ds r q fun J S1 H1 z1 wk D hD => ?_
      have r1 := r.ext z1
      have hD0 : H D = none := (z1.same r.sub).free hD
      -- the word: what is told so far, what is still to be told
      refine ⟨fun i n H' => n = ds.length - i ∧ i ≤ ds.length ∧ ∃ S' done ys rest, Ext S1 H1 S' H' ∧ Same S1 S' ∧ H' D = some (.lst ys) ∧ S' D = none ∧ Dens K S' done ys ∧ done.length ≤ i ∧ compF x c e (innX js ρ) (ds.drop i) = some rest ∧ l = done ++ rest,
        ⟨_, rfl, Nat.zero_le _, S1, [], [], l, Ext.own z1.sub hD, Same.refl _, upd_same, z1.sub.free hD, .nil, Nat.zero_le _, y, rfl⟩, ?_⟩
      rintro i n H2 ⟨rfl, hil, S2, done, ys, rest, z2, s2, hy, hSD, dy, hdl, y2, rfl⟩
      obtain ⟨w1, w2⟩ := wk S2 H2 z2
      cases qd : ds[i]? with
      | none =>
        have : ds.length = i := by have := List.getElem?_eq_none_iff.mp qd; omega
        subst this
        rw [List.drop_of_length_le (Nat.le_refl _)] at y2
        cases y2
        rw [List.append_nil] at k
        exact .inl ⟨w2, k D ys S2 H2 (z1.trans z2) hD0 hSD hy dy⟩
      | some d =>
        obtain ⟨g1, g2⟩ := w1 i d qd
        have hlt := (List.getElem?_eq_some_iff.mp qd).1
        rw [drop_get qd] at y2
        unfold compF at y2
        cases qx : x d (innX js ρ) with
        | none => rw [qx] at y2; cases y2
        | some ρ3 =>
          rw [qx] at y2
          dsimp only [Option.bind] at y2
          refine .inr ⟨g1, fun xv H3 hyl => ?_⟩
          obtain ⟨rfl, dx⟩ := g2 xv H3 hyl
          have ri := rl_inn (r1.ext z2) js
          refine hg _ _ _ _ S2 H3 xv d _ ρ3 ri dx qx fun σ3 r3 => ?_
          cases qc : c ρ3 with
          | none => rw [qc] at y2; cases y2
          | some b =>
            rw [qc] at y2
            dsimp only at y2
            refine hc ρ3 σ3 S2 H3 _ b r3.toRl qc fun S4 H4 z4 => ?_
            obtain ⟨al1, al2⟩ := z4.al D _ hy hSD
            cases b with
            | false =>
              rw [if_neg (by decide)] at y2
              exact iteF ⟨_, by omega, rfl, hlt, S4, done, ys, rest, z2.trans z4, s2.trans z4.sh, al1, al2, dy.mono z4.sh, by omega, y2, rfl⟩
            | true =>
              rw [if_pos rfl] at y2
              cases qe : e ρ3 with
              | none => rw [qe] at y2; cases y2
              | some dv =>
                rw [qe] at y2
                dsimp only at y2
                cases qr : compF x c e (innX js ρ) (ds.drop (i + 1)) with
                | none => rw [qr] at y2; cases y2
                | some rest2 =>
                  rw [qr] at y2
                  cases y2
                  refine iteT (he ρ3 σ3 S4 H4 _ dv (r3.toRl.ext z4) qe fun v S5 H5 z5 d5 => ?_)
                  obtain ⟨b1, b2⟩ := z5.al D _ al1 al2
                  refine ⟨ys, b1, ?_, _, by omega, rfl, hlt, S5, done ++ [dv], ys ++ [v], rest2, ?_, (s2.trans z4.sh).trans z5.sh, upd_same, b2, ((dy.mono z4.sh).mono z5.sh).append (.cons d5 .nil), by rw [List.length_append, List.length_singleton]; omega, qr, by rw [List.append_assoc]; rfl⟩
                  · rw [← dy.length]
                    exact Nat.lt_of_lt_of_le (Nat.lt_of_le_of_lt hdl hlt) (Nat.le_trans hlim (Nat.le_of_lt lim_lt))
                  · have z6 := (z2.trans z4).trans z5
                    exact ⟨z6.sh, fun b u hb => by rw [upd_ne fun z => by subst z; rw [b2] at hb; cases hb]; exact z6.sub b u hb, fun b o hb hn => by
                      obtain ⟨c1, c2⟩ := z6.al b o hb hn
                      exact ⟨by rw [upd_ne fun z => by subst z; rw [hD] at hb; cases hb]; exact c1, c2⟩⟩
    · cases y
@[simp] noncomputable def xForO (i : Nat) (g : XG) (m : XS) : XS := fun ρ => match ρ[i]? with
  | some (.ow (.lst os)) => (match shs os with
    | some l => (match loopF g m l (ρ.set i .lo) with
      | some (.nx ρ') => (match ρ'[i]? with | some .lo => some (.nx (ρ'.set i (.ow (.lst os)))) | _ => none)
      | some (.rt d) => some (.rt d)
      | _ => none)
    | none => none)
  | _ => none
noncomputable def fnO (n : Nat) (x : XS) (ds : List D) : Option O := match x (ds.map .sh ++ List.replicate (n - ds.length) .un) with
  | some (.rt d) => some (.sh d)
  | some (.ro o) => some o
  | some (.nx _) => some (.sh .non)
  | _ => none
theorem rl_start {N : List Str} {ds : List D} {vs : List V} (s : Same S H) (h : Dens K S ds vs) : RlA K (alien S H) (fun _ => none) (ds.map .sh ++ List.replicate (N.length - ds.length) .un) (L2.start N vs) S H := by
  have hl := h.length
  have key : ∀ (i : Nat) t, (ds.map Sl.sh ++ List.replicate (N.length - ds.length) .un)[i]? = some t → t = .un ∨ ∃ d v, t = .sh d ∧ (L2.start N vs)[i]? = some (some v) ∧ Den K S d v := fun i t ht => by
    by_cases hi : i < ds.length
    · rw [List.getElem?_append_left (by rw [List.length_map]; exact hi), List.getElem?_map] at ht
      cases q : ds[i]? with
      | none => rw [q] at ht; cases ht
      | some d =>
        rw [q] at ht
        cases ht
        obtain ⟨v, e1, e2⟩ := h.get q
        refine .inr ⟨d, v, rfl, ?_, e2⟩
        unfold L2.start
        rw [List.getElem?_append_left (by rw [List.length_map]; omega), List.getElem?_map, e1]
        rfl
    · rw [List.getElem?_append_right (by rw [List.length_map]; omega), List.getElem?_replicate] at ht
      split at ht
      · cases ht; exact .inl rfl
      · cases ht
  refine ⟨fun _ => [], ?_⟩
  exact {
    len := by unfold L2.start; rw [List.length_append, List.length_append, List.length_map, List.length_map, List.length_replicate, List.length_replicate, hl]
    sub := s
    sh := fun i d hi => by
      rcases key i _ hi with e | ⟨d', v, e, h1, h2⟩
      · cases e
      · cases e; exact ⟨v, h1, h2⟩
    ow := fun i o hi => by
      rcases key i _ hi with e | ⟨d', v, e, h1, h2⟩
      · cases e
      · cases e
    dj := fun i j o o' _ hi => by
      rcases key i _ hi with e | ⟨d', v, e, h1, h2⟩
      · cases e
      · cases e
    lo := fun i hi => by
      rcases key i _ hi with e | ⟨d', v, e, h1, h2⟩
      · cases e
      · cases e
    asub := alien_sub
    adis := alien_dis }
theorem rd_of {t : TS} {x : XS} {N : List Str} {n k : Nat} {vs : List V} {H : Hp} {Q : VK} {E : XK} (hs : SS K t x) (hN : N.length = n) (h : spOf K k (fnO n x) vs H Q E) :
    t { nx := fun _ H' => Q .non H', rt := Q } (L2.start N vs) H := by
  obtain ⟨_, S, ds, d, s, dd, y, q⟩ := h
  subst hN
  unfold fnO at y
  have r := rl_start (N := N) s dd
  have ex : ∀ {S' H' : Hp}, Same S S' → Same S' H' → Same (alien S H) H' → (∀ b, S' b = none ∨ alien S H b = none) → Ext S H S' H' := fun s1 s2 s3 s4 => ⟨s1, s2, fun b o hb hn => by
    have ha := alien_of hb hn
    refine ⟨s3 b o ha, ?_⟩
    rcases s4 b with z | z
    · exact z
    · rw [ha] at z; cases z⟩
  cases qx : x (ds.map .sh ++ List.replicate (N.length - ds.length) .un) with
  | none => rw [qx] at y; cases y
  | some o =>
    rw [qx] at y
    refine hs _ _ _ _ S H _ o r qx ?_
    cases o with
    | rt d' =>
      cases y
      exact fun v S' H' s1 s2 s3 s4 dv => q v [] S' H' (ex s1 s2 s3 s4) (own_sh.mpr ⟨rfl, dv⟩) .nil fun b hb => by cases hb
    | ro o' =>
      cases y
      refine fun v fp S' H' s1 s2 s3 s4 ow nd n => q v fp S' H' (ex s1 s2 s3 s4) ow nd fun b hb => ⟨?_, (n b hb).1⟩
      cases qb : H b with
      | none => rfl
      | some u =>
        have := alien_of qb (s1.free (n b hb).1)
        rw [(n b hb).2] at this; cases this
    | nx ρ' =>
      cases y
      exact fun σ' S' H' r' s1 => q .non [] S' H' (ex s1 r'.sub r'.asub r'.adis) (own_sh.mpr ⟨rfl, den_non.mpr rfl⟩) .nil fun b hb => by cases hb
    | bk ρ' => cases y
    | ct ρ' => cases y
end
end M
namespace M
open PySem L2
noncomputable def dI (f : Int → Int → Option D) : D → D → Option D
  | .int i, .int j => f i j
  | _, _ => none
noncomputable def dMul : D → D → Option D := dI fun i j => ifC ((-18446744073709551616 < i ∧ i < 18446744073709551616) ∨ (-18446744073709551616 < j ∧ j < 18446744073709551616)) (some (.int (i * j))) none
noncomputable def dDiv : D → D → Option D := dI fun i j => ifC (0 < j ∧ j < 1073741824) (some (.int (i / j))) none
noncomputable def dMod : D → D → Option D := dI fun i j => ifC (0 < j) (some (.int (i % j))) none
noncomputable def dPow : D → D → Option D := dI fun i j => ifC (0 ≤ j ∧ j ≤ 1000000 ∧ i.natAbs < 18446744073709551616) (some (.int (i ^ j.toNat))) none
noncomputable def dSub : D → D → Option D := dI fun i j => some (.int (i - j))
noncomputable def dLt : D → D → Option D := dI fun i j => some (.bl (decide (i < j)))
noncomputable def dLe : D → D → Option D := dI fun i j => some (.bl (decide (i ≤ j)))
noncomputable def dGt : D → D → Option D := dI fun i j => some (.bl (decide (j < i)))
noncomputable def dGe : D → D → Option D := dI fun i j => some (.bl (decide (j ≤ i)))
noncomputable def dNeg : D → Option D
  | .int i => some (.int (-i))
  | _ => none
section
variable {K : PySem.W.Frag}
theorem r_i {C : Int → Int → Prop} {g : Int → Int → V} {f : Int → Int → Option D} (h : ∀ i j d, f i j = some d → C i j ∧ flat d = some (g i j)) : SR2 K (rI C g) (dI f) := fun S H x y d e z Q s dx dy q k => by
  cases d <;> cases e <;> try cases q
  rename_i i j
  obtain ⟨h1, h2⟩ := h i j z q
  exact ⟨i, j, dx.int, dy.int, h1, k _ S H (Ext.refl s) (den_flat h2)⟩
theorem r_i0 {g : Int → Int → V} {f : Int → Int → Option D} (h : ∀ i j d, f i j = some d → flat d = some (g i j)) : SR2 K (rI0 g) (dI f) := fun S H x y d e z Q s dx dy q k => by
  cases d <;> cases e <;> try cases q
  rename_i i j
  exact ⟨i, j, dx.int, dy.int, k _ S H (Ext.refl s) (den_flat (h i j z q))⟩
theorem r_mul : SR2 K (rI CMul fun i j => .int (i * j)) dMul := r_i fun i j d h => by
  obtain ⟨c, rfl⟩ := ifC_some h
  refine ⟨?_, rfl⟩
  unfold CMul
  have : (2 : Int) ^ 64 = 18446744073709551616 := by decide
  rw [this]
  exact c
theorem r_div : SR2 K (rI CDiv fun i j => .int (i / j)) dDiv := r_i fun i j d h => by
  obtain ⟨c, rfl⟩ := ifC_some h
  exact ⟨c, rfl⟩
theorem r_mod : SR2 K (rI (fun _ j => 0 < j) fun i j => .int (i % j)) dMod := r_i fun i j d h => by
  obtain ⟨c, rfl⟩ := ifC_some h
  exact ⟨c, rfl⟩
theorem r_pow : SR2 K (rI CPow fun i j => .int (i ^ j.toNat)) dPow := r_i fun i j d h => by
  obtain ⟨c, rfl⟩ := ifC_some h
  refine ⟨?_, rfl⟩
  unfold CPow
  have : (2 : Nat) ^ 64 = 18446744073709551616 := by decide
  rw [this]
  exact c
theorem r_sub : SR2 K (rI0 fun i j => .int (i - j)) dSub := r_i0 fun i j d h => by cases h; rfl
theorem r_lt : SR2 K (rI0 fun i j => .bl (decide (i < j))) dLt := r_i0 fun i j d h => by cases h; rfl
theorem r_le : SR2 K (rI0 fun i j => .bl (decide (i ≤ j))) dLe := r_i0 fun i j d h => by cases h; rfl
theorem r_gt : SR2 K (rI0 fun i j => .bl (decide (j < i))) dGt := r_i0 fun i j d h => by cases h; rfl
theorem r_neg : SR1 K (rU fun i => .int (-i)) dNeg := fun S H x d g Q s dx q k => by
  cases d <;> try cases q
  rename_i i
  exact ⟨i, dx.int, k _ S H (Ext.refl s) (den_int.mpr rfl)⟩
end
noncomputable def rCatM : R2 := fun x y H Q => ∃ l b xs zs, x = .ref l ∧ y = .ref b ∧ Rd H l (.lst xs) ∧ Rd H b (.lst zs) ∧ xs.length + zs.length ≤ sizeLine ∧ ∀ p, H p = none → Q (.ref p) (upd H p (.lst (xs ++ zs)))
noncomputable def rTupM (K : PySem.W.Frag) : R2 := fun x y H Q => ∃ a b xs ys, x = .ref a ∧ y = .ref b ∧ SqT K H a xs ∧ SqT K H b ys ∧ xs.length + ys.length ≤ sizeLine ∧
  (ys = [] → Q (.ref a) H) ∧ (xs = [] → Q (.ref b) H) ∧ ∀ p, H p = none → Q (.ref p) (upd H p (.tup (xs ++ ys)))
noncomputable def rStrM : R2 := fun x y H Q => ∃ i j, x = .str i ∧ y = .str j ∧ i.length + j.length ≤ sizeLine ∧ Q (.str (i ++ j)) H
noncomputable def rAddM (K : PySem.W.Frag) : R2 := fun x y H Q => (∃ i j, x = .int i ∧ y = .int j ∧ Q (.int (i + j)) H) ∨ rCatM x y H Q ∨ rTupM K x y H Q ∨ rStrM x y H Q
noncomputable def dAdd : D → D → Option D
  | .int i, .int j => some (.int (i + j))
  | .lst a, .lst b => if a.length + b.length ≤ LIM then some (.lst (a ++ b)) else none
  | .tup a, .tup b => if a.length + b.length ≤ LIM then some (.tup (a ++ b)) else none
  | .str a, .str b => if a.length + b.length ≤ LIM then some (.str (a ++ b)) else none
  | _, _ => none
section
variable {K : PySem.W.Frag}
theorem Dens.nil_iff {S : Hp} {ds : List D} {xs : List V} (h : Dens K S ds xs) : xs = [] ↔ ds = [] := by
  have := h.length
  cases ds <;> cases xs <;> simp_all
theorem lim_le {n : Nat} (h : n ≤ LIM) : n ≤ sizeLine := Nat.le_of_lt (Nat.lt_of_le_of_lt h lim_lt)
theorem r_add : SR2 K (rAddM K) dAdd := fun S H x y d e z Q s dx dy q k => by
  cases d <;> cases e <;> try (cases q; done)
  · rename_i i j
    cases q
    exact .inl ⟨i, j, dx.int, dy.int, k _ S H (Ext.refl s) (den_int.mpr rfl)⟩
  · rename_i i j
    have q' : (if i.length + j.length ≤ LIM then some (D.str (i ++ j)) else none) = some z := q
    split at q'
    · rename_i hl
      cases q'
      exact .inr (.inr (.inr ⟨i, j, dx.str, dy.str, lim_le hl, k _ S H (Ext.refl s) (den_str.mpr rfl)⟩))
    · cases q'
  · rename_i a b
    have q' : (if a.length + b.length ≤ LIM then some (D.lst (a ++ b)) else none) = some z := q
    split at q'
    · rename_i hl
      cases q'
      obtain ⟨p, xs, rfl, h1, h2⟩ := dx.lst s
      obtain ⟨p', ys, rfl, h3, h4⟩ := dy.lst s
      refine .inr (.inl ⟨p, p', xs, ys, rfl, rfl, h1, h3, by rw [← h2.length, ← h4.length]; exact lim_le hl, fun q hq => ?_⟩)
      have z := Ext.new (o := .lst (xs ++ ys)) s hq
      exact k _ _ _ z (den_lst.mpr ⟨q, _, rfl, .inl upd_same, (h2.append h4).mono z.sh⟩)
    · cases q'
  · rename_i a b
    have q' : (if a.length + b.length ≤ LIM then some (D.tup (a ++ b)) else none) = some z := q
    split at q'
    · rename_i hl
      cases q'
      obtain ⟨p, xs, e1, h1, h2⟩ := dx.tup s
      obtain ⟨p', ys, e2, h3, h4⟩ := dy.tup s
      have dx' : Den K S (.tup a) x := dx.elim id fun ⟨_, _, _, e, _⟩ => by cases e
      have dy' : Den K S (.tup b) y := dy.elim id fun ⟨_, _, _, e, _⟩ => by cases e
      subst e1 e2
      refine .inr (.inr (.inl ⟨p, p', xs, ys, rfl, rfl, h1, h3, by rw [← h2.length, ← h4.length]; exact lim_le hl, fun e => ?_, fun e => ?_, fun q hq => ?_⟩))
      · have := h4.nil_iff.mp e
        subst this
        exact k _ S H (Ext.refl s) (by rw [List.append_nil]; exact dx')
      · have := h2.nil_iff.mp e
        subst this
        exact k _ S H (Ext.refl s) (by rw [List.nil_append]; exact dy')
      · have z := Ext.new (o := .tup (xs ++ ys)) s hq
        exact k _ _ _ z (den_tup.mpr ⟨q, _, rfl, TpA.of upd_same, (h2.append h4).mono z.sh⟩)
    · cases q'
end
mutual
noncomputable def eqD : D → D → Bool
  | .non, .non => true
  | .bl a, .bl b => a == b
  | .bl a, .int j => (if a then 1 else 0) == j
  | .int i, .bl b => i == (if b then 1 else 0)
  | .int i, .int j => i == j
  | .str x, .str y => x == y
  | .lst a, .lst b => eqDs a b
  | .tup a, .tup b => eqDs a b
  | _, _ => false
noncomputable def eqDs : List D → List D → Bool
  | [], [] => true
  | x :: xs, y :: ys => eqD x y && eqDs xs ys
  | _, _ => false
end
mutual
noncomputable def okD : Nat → D → Bool
  | _, .non => true
  | _, .bl _ => true
  | _, .int _ => true
  | _, .str x => PyData.strOk x
  | n + 1, .lst l => okDs n l
  | n + 1, .tup l => okDs n l
  | _, _ => false
noncomputable def okDs : Nat → List D → Bool
  | _, [] => true
  | n, d :: l => okD n d && okDs n l
end
noncomputable def rEqM (K : PySem.W.Frag) (neg : Bool) : R2 := fun x y H Q => ∃ S d e, Same S H ∧ DenP K S H d x ∧ DenP K S H e y ∧ okD 50 d = true ∧ okD 50 e = true ∧ Q (.bl (if neg then !eqD d e else eqD d e)) H
noncomputable def dEq (neg : Bool) (d e : D) : Option D := if okD 50 d = true ∧ okD 50 e = true then some (.bl (if neg then !eqD d e else eqD d e)) else none
section
variable {K : PySem.W.Frag}
theorem r_eq (neg : Bool) : SR2 K (rEqM K neg) (dEq neg) := fun S H x y d e z Q s dx dy q k => by
  unfold dEq at q
  split at q
  · rename_i c
    cases q
    exact ⟨S, d, e, s, dx, dy, c.1, c.2, k _ S H (Ext.refl s) (den_bl.mpr rfl)⟩
  · cases q
end
noncomputable def isNon : D → Bool
  | .non => true | _ => false
noncomputable def dIsN (neg : Bool) (d e : D) : Option D := match e with | .non => some (.bl (if neg then !isNon d else isNon d)) | _ => none
section
variable {K : PySem.W.Frag}
end
noncomputable def dIx : D → D → Option D
  | .lst l, .int i => atI l i
  | .tup l, .int i => atI l i
  | .scr l, .int i => atI l i
  | .str x, .int i => if x.length ≤ LIM then (atI x.cps.toList i).map fun c => .str ⟨#[c]⟩ else none
  | _, _ => none
section
variable {K : PySem.W.Frag}
theorem atI_dens {S : Hp} {ds : List D} {xs : List V} {i : Int} {d : D} (h : Dens K S ds xs) (e : atI ds i = some d) : ∃ v, atI xs i = some v ∧ Den K S d v := by
  unfold atI at e ⊢
  rw [← h.length]
  cases q : ixN ds.length i with
  | none => rw [q] at e; cases e
  | some j =>
    rw [q] at e
    exact h.get e
theorem r_ix : SR2 K (rIx K) dIx := fun S H x y d e z Q s dx dy q k => by
  cases d <;> cases e <;> try (cases q; done)
  · rename_i x' i
    have q' : (if x'.length ≤ LIM then (atI x'.cps.toList i).map fun c => D.str ⟨#[c]⟩ else none) = some z := q
    split at q'
    · rename_i hl
      cases qc : atI x'.cps.toList i with
      | none => rw [qc] at q'; cases q'
      | some c =>
        rw [qc] at q'
        cases q'
        exact .inr (.inr ⟨x', i, c, dx.str, dy.int, lim_le hl, qc, k _ S H (Ext.refl s) (den_str.mpr rfl)⟩)
    · cases q'
  · rename_i l i
    obtain ⟨p, xs, rfl, h1, h2⟩ := dx.lst s
    obtain ⟨v, h3, h4⟩ := atI_dens h2 q
    exact .inl ⟨p, xs, i, v, rfl, dy.int, .inl h1, h3, k v S H (Ext.refl s) h4⟩
  · rename_i l i
    obtain ⟨p, xs, rfl, h1, h2⟩ := dx.tup s
    obtain ⟨v, h3, h4⟩ := atI_dens h2 q
    exact .inr (.inl ⟨p, xs, i, v, rfl, dy.int, h1, h3, k v S H (Ext.refl s) h4⟩)
  · rename_i l i
    obtain ⟨p, xs, rfl, h1, h2⟩ := dx.scr s
    obtain ⟨v, h3, h4⟩ := atI_dens h2 q
    exact .inl ⟨p, xs, i, v, rfl, dy.int, h1, h3, k v S H (Ext.refl s) h4⟩
end
noncomputable def cutD {α : Type} (xs : List α) (lo hi : Option Int) : List α := (xs.drop (HT.sIx xs.length 0 lo)).take (HT.sIx xs.length xs.length hi - HT.sIx xs.length 0 lo)
noncomputable abbrev XO := Env → Option (Option Int)
noncomputable def SO (K : PySem.W.Frag) (t : TO) (o : XO) : Prop := ∀ ρ σ S H (Q : Option Int → Hp → Prop) i, Rl K ρ σ S H → o ρ = some i → (∀ S' H', Ext S H S' H' → Q i H') → t σ H Q
@[simp] noncomputable def xNoPart : XO := fun _ => some none
@[simp] noncomputable def xPart (a : XE) : XO := fun ρ => (a ρ).bind fun d => match d with | .int i => some (some i) | _ => none
section
variable {K : PySem.W.Frag}
theorem s_noPart : SO K tNoPart xNoPart := fun ρ σ S H Q i r x k => by cases x; exact k S H (Ext.refl r.sub)
theorem s_part {ta : TE} {a : XE} (h : SPk K ta a) : SO K (tPart ta) (xPart a) := fun ρ σ S H Q i r x k => by
  unfold xPart at x
  cases q : a ρ with
  | none => rw [q] at x; cases x
  | some d =>
    rw [q] at x
    dsimp only [Option.bind] at x
    cases d <;> try (cases x; done)
    rename_i j
    cases x
    exact h ρ σ S H _ _ r q fun v S1 H1 z1 d1 => ⟨j, d1.int, k S1 H1 z1⟩
noncomputable def dSl (d : D) (lo hi : Option Int) : Option D := match d with
  | .lst l => some (.lst (cutD l lo hi))
  | .tup l => some (.tup (cutD l lo hi))
  | .scr l => some (.lst (cutD l lo hi))
  | _ => none
@[simp] noncomputable def xSl (a : XE) (lo hi : XO) : XE := fun ρ => (a ρ).bind fun d => (lo ρ).bind fun l => (hi ρ).bind fun h => dSl d l h
noncomputable def rLenM (K : PySem.W.Frag) : List V → Hp → VK → Prop := fun xs H Q => ∃ x n, xs = [x] ∧ LenV K x H n ∧ Q (.int n) H
noncomputable def bLen : List D → Option D
  | [.lst l] => some (.int l.length)
  | [.tup l] => some (.int l.length)
  | [.scr l] => some (.int l.length)
  | [.str x] => if x.length ≤ LIM then some (.int x.length) else none
  | _ => none
theorem one_of {S H : Hp} {d : D} {vs : List V} (h : DensP K S H [d] vs) : ∃ v, vs = [v] ∧ DenP K S H d v := by
  cases h with
  | cons a b => cases b; exact ⟨_, rfl, a⟩
theorem two_of {S H : Hp} {d e : D} {vs : List V} (h : DensP K S H [d, e] vs) : ∃ v w, vs = [v, w] ∧ DenP K S H d v ∧ DenP K S H e w := by
  cases h with
  | cons a b => cases b with
    | cons c b => cases b; exact ⟨_, _, rfl, a, c⟩
theorem b_len : SRB K (rLenM K) bLen := fun S H vs ds g Q s d q k => by
  unfold bLen at q
  split at q
  · rename_i l
    cases q
    obtain ⟨v, rfl, d1⟩ := one_of d
    obtain ⟨p, xs, rfl, h1, h2⟩ := d1.lst s
    exact ⟨_, xs.length, rfl, .inl ⟨xs, .inl h1, rfl⟩, k _ S H (Ext.refl s) (den_int.mpr (by rw [h2.length]))⟩
  · rename_i l
    cases q
    obtain ⟨v, rfl, d1⟩ := one_of d
    obtain ⟨p, xs, rfl, h1, h2⟩ := d1.tup s
    exact ⟨_, xs.length, rfl, .inr ⟨xs, h1, rfl⟩, k _ S H (Ext.refl s) (den_int.mpr (by rw [h2.length]))⟩
  · rename_i l
    cases q
    obtain ⟨v, rfl, d1⟩ := one_of d
    obtain ⟨p, xs, rfl, h1, h2⟩ := d1.scr s
    exact ⟨_, xs.length, rfl, .inl ⟨xs, h1, rfl⟩, k _ S H (Ext.refl s) (den_int.mpr (by rw [h2.length]))⟩
  · rename_i x
    split at q
    · rename_i hl
      cases q
      obtain ⟨v, rfl, d1⟩ := one_of d
      exact ⟨_, x.length, rfl, by rw [d1.str]; exact ⟨lim_le hl, rfl⟩, k _ S H (Ext.refl s) (den_int.mpr rfl)⟩
    · cases q
  · cases q
noncomputable def bTuple : List D → Option D
  | [.lst l] => some (.tup l)
  | [.tup l] => some (.tup l)
  | [.scr l] => some (.tup l)
  | _ => none
theorem b_tuple : SRB K (rTuple K) bTuple := fun S H vs ds g Q s d q k => by
  unfold bTuple at q
  split at q
  · rename_i l
    cases q
    obtain ⟨v, rfl, d1⟩ := one_of d
    obtain ⟨p, xs, rfl, h1, h2⟩ := d1.lst s
    refine ⟨p, xs, rfl, .inl ⟨.inl h1, fun q hq => ?_⟩⟩
    have z := Ext.new (o := .tup xs) s hq
    exact k _ _ _ z (den_tup.mpr ⟨q, _, rfl, TpA.of upd_same, h2.mono z.sh⟩)
  · rename_i l
    cases q
    obtain ⟨v, rfl, d1⟩ := one_of d
    have d' : Den K S (.tup l) v := d1.elim id fun ⟨_, _, _, e, _⟩ => by cases e
    obtain ⟨p, xs, rfl, h1, h2⟩ := d1.tup s
    exact ⟨p, xs, rfl, .inr ⟨h1, k _ S H (Ext.refl s) d'⟩⟩
  · rename_i l
    cases q
    obtain ⟨v, rfl, d1⟩ := one_of d
    obtain ⟨p, xs, rfl, h1, h2⟩ := d1.scr s
    refine ⟨p, xs, rfl, .inl ⟨h1, fun q hq => ?_⟩⟩
    have z := Ext.new (o := .tup xs) s hq
    exact k _ _ _ z (den_tup.mpr ⟨q, _, rfl, TpA.of upd_same, h2.mono z.sh⟩)
  · cases q
noncomputable def bList : List D → Option (List D)
  | [.lst l] => some l
  | [.tup l] => some l
  | [.scr l] => some l
  | _ => none
noncomputable def bMax2 : List D → Option D
  | [.int i, .int j] => some (.int (if j > i then j else i))
  | _ => none
noncomputable def bMin2 : List D → Option D
  | [.int i, .int j] => some (.int (if j < i then j else i))
  | _ => none
theorem b_max2 : SRB K rMax2 bMax2 := fun S H vs ds g Q s d q k => by
  unfold bMax2 at q
  split at q
  · rename_i i j
    cases q
    obtain ⟨v, w, rfl, d1, d2⟩ := two_of d
    exact ⟨i, j, by rw [d1.int, d2.int], k _ S H (Ext.refl s) (den_int.mpr rfl)⟩
  · cases q
theorem b_min2 : SRB K rMin2 bMin2 := fun S H vs ds g Q s d q k => by
  unfold bMin2 at q
  split at q
  · rename_i i j
    cases q
    obtain ⟨v, w, rfl, d1, d2⟩ := two_of d
    exact ⟨i, j, by rw [d1.int, d2.int], k _ S H (Ext.refl s) (den_int.mpr rfl)⟩
  · cases q
noncomputable def intsOf : List D → Option (List Int)
  | [] => some []
  | .int i :: l => (intsOf l).map fun r => i :: r
  | _ => none
theorem ints_dens {S : Hp} : ∀ {ds : List D} {xs : List V} {ns : List Int}, Dens K S ds xs → intsOf ds = some ns → xs = ns.map V.int ∧ ds = ns.map D.int
  | [], xs, ns, h, e => by cases e; exact ⟨h.nil_of, rfl⟩
  | d :: ds, xs, ns, h, e => by
    obtain ⟨y, ys, rfl, h1, h2⟩ := h.cons_of
    cases d <;> try (cases e; done)
    rename_i i
    have e' : (intsOf ds).map (fun r => i :: r) = some ns := e
    cases q : intsOf ds with
    | none => rw [q] at e'; cases e'
    | some ms =>
      rw [q] at e'
      cases e'
      obtain ⟨k1, k2⟩ := ints_dens h2 q
      rw [den_int.mp h1, k1]
      exact ⟨rfl, congrArg (D.int i :: ·) k2⟩
noncomputable def bSum : List D → Option D
  | [.lst l] => (intsOf l).map fun ns => .int ns.sum
  | _ => none
noncomputable def bInt : List D → Option D
  | [.int i] => some (.int i)
  | [.bl b] => some (.int (if b then 1 else 0))
  | _ => none
@[simp] noncomputable def xRevL (a : XE) : XA := fun ρ => (a ρ).bind fun d => match d with | .lst l => some l.reverse | _ => none
noncomputable def tyD : D → Option String
  | .non => some "NoneType" | .bl _ => some "bool" | .int _ => some "int" | .str _ => some "str" | .lst _ => some "list" | .tup _ => some "tuple" | _ => none
noncomputable def subM (t T : String) : Bool := t == T || (t == "bool" && T == "int")
noncomputable def tyM (K : PySem.W.Frag) (H : Hp) (x : V) (t : String) : Prop := match x with
  | .non => t = "NoneType" | .bl _ => t = "bool" | .int _ => t = "int" | .str _ => t = "str"
  | .ref p => (t = "list" ∧ ∃ xs, Rd H p (.lst xs)) ∨ (t = "tuple" ∧ ∃ xs, SqT K H p xs)
  | _ => False
noncomputable def isiM : List String := ["bool", "int", "str", "list", "tuple"]
noncomputable def rIsiM (K : PySem.W.Frag) : List V → Hp → VK → Prop := fun xs H Q => ∃ x T t, xs = [x, .ty T] ∧ tyM K H x t ∧ T ∈ isiM ∧ Q (.bl (subM t T)) H
noncomputable def bIsi : List D → Option D
  | [d, .ty T] => if T ∈ isiM then (tyD d).map fun t => .bl (subM t T) else none
  | _ => none
theorem ty_of {S H : Hp} {d : D} {v : V} {t : String} (s : Same S H) (h : DenP K S H d v) (e : tyD d = some t) : tyM K H v t := by
  cases d with
  | non => rw [h.non]; cases e; rfl
  | bl b => rw [h.bl]; cases e; rfl
  | int b => rw [h.int]; cases e; rfl
  | str b => rw [h.str]; cases e; rfl
  | lst l =>
    cases e
    obtain ⟨p, xs, rfl, h1, h2⟩ := h.lst s
    exact .inl ⟨rfl, xs, h1⟩
  | tup l =>
    cases e
    obtain ⟨p, xs, rfl, h1, h2⟩ := h.tup s
    exact .inr ⟨rfl, xs, h1⟩
  | _ => cases e
theorem b_isi : SRB K (rIsiM K) bIsi := fun S H vs ds g Q s d q k => by
  unfold bIsi at q
  split at q
  · rename_i d0 T
    split at q
    · rename_i hT
      cases qt : tyD d0 with
      | none => rw [qt] at q; cases q
      | some t =>
        rw [qt] at q
        cases q
        obtain ⟨v, w, rfl, d1, d2⟩ := two_of d
        exact ⟨v, T, t, by rw [d2.ty], ty_of s d1 qt, hT, k _ S H (Ext.refl s) (den_bl.mpr rfl)⟩
    · cases q
  · cases q
end
end M
namespace M
open PySem L2
noncomputable def tupI (k : List Int) : D := .tup (k.map D.int)
noncomputable def keyD : D → Option (List Int)
  | .tup l => if l.isEmpty then none else intsOf l
  | _ => none
noncomputable def keys : List D → Option (List (List Int))
  | [] => some []
  | d :: l => (keyD d).bind fun k => (keys l).map fun r => k :: r
theorem lex_asym : ∀ a b : List Int, HT.lexLt a b = true → HT.lexLt b a = false
  | [], [], h => by cases h
  | [], _ :: _, _ => rfl
  | _ :: _, [], h => by cases h
  | x :: a, y :: b, h => by
    have h' : (if x = y then HT.lexLt a b else decide (x < y)) = true := h
    show (if y = x then HT.lexLt b a else decide (y < x)) = false
    by_cases e : x = y
    · rw [if_pos e] at h'; rw [if_pos e.symm]; exact lex_asym a b h'
    · rw [if_neg e] at h'; rw [if_neg (fun z => e z.symm)]
      have := of_decide_eq_true h'
      exact decide_eq_false (by omega)
theorem lex_total : ∀ a b : List Int, HT.lexLt a b = false → HT.lexLt b a = false → a = b
  | [], [], _, _ => rfl
  | [], _ :: _, h, _ => by cases h
  | _ :: _, [], _, h => by cases h
  | x :: a, y :: b, h, k => by
    have h' : (if x = y then HT.lexLt a b else decide (x < y)) = false := h
    have k' : (if y = x then HT.lexLt b a else decide (y < x)) = false := k
    by_cases e : x = y
    · rw [if_pos e] at h'; rw [if_pos e.symm] at k'
      rw [e, lex_total a b h' k']
    · rw [if_neg e] at h'; rw [if_neg (fun z => e z.symm)] at k'
      have := of_decide_eq_false h'
      have := of_decide_eq_false k'
      omega
theorem lex_trans : ∀ a b c : List Int, HT.lexLt a b = false → HT.lexLt b c = false → HT.lexLt a c = false
  | [], [], _, _, k => k
  | [], _ :: _, _, h, _ => by cases h
  | _ :: _, _, [], _, _ => rfl
  | _ :: _, [], _ :: _, _, k => by cases k
  | x :: a, y :: b, z :: c, h, k => by
    have h' : (if x = y then HT.lexLt a b else decide (x < y)) = false := h
    have k' : (if y = z then HT.lexLt b c else decide (y < z)) = false := k
    show (if x = z then HT.lexLt a c else decide (x < z)) = false
    by_cases e1 : x = y
    · rw [if_pos e1] at h'
      subst e1
      by_cases e2 : x = z
      · rw [if_pos e2] at k' ⊢; exact lex_trans a b c h' k'
      · rw [if_neg e2] at k' ⊢; exact k'
    · rw [if_neg e1] at h'
      have g1 := of_decide_eq_false h'
      by_cases e2 : y = z
      · subst e2
        rw [if_neg e1]; exact h'
      · rw [if_neg e2] at k'
        have g2 := of_decide_eq_false k'
        rw [if_neg (by omega)]
        exact decide_eq_false (by omega)
noncomputable def insK (x : List Int) : List (List Int) → List (List Int)
  | [] => [x]
  | y :: l => if HT.lexLt y x = true then y :: insK x l else x :: y :: l
noncomputable def sortK (ks : List (List Int)) : List (List Int) := ks.foldr insK []
theorem insK_perm (x : List Int) (l : List (List Int)) : (insK x l).Perm (x :: l) := by
  induction l with
  | nil => exact .refl _
  | cons y l ih =>
    unfold insK
    split
    · exact (ih.cons y).trans (.swap x y l)
    · exact .refl _
noncomputable def sortI (ns : List Int) : List Int := ns.mergeSort fun a b => decide (a ≤ b)
theorem sortK_perm (ks : List (List Int)) : (sortK ks).Perm ks := by
  induction ks with
  | nil => exact .refl _
  | cons x l ih => exact (insK_perm x (sortK l)).trans (ih.cons x)
theorem sortI_perm (ns : List Int) : (sortI ns).Perm ns := List.mergeSort_perm _ _
theorem insK_pw (x : List Int) (l : List (List Int)) (h : l.Pairwise fun a b => HT.lexLt b a = false) : (insK x l).Pairwise fun a b => HT.lexLt b a = false := by
  induction l with
  | nil => exact .cons (fun _ z => by cases z) .nil
  | cons y l ih =>
    have hy : ∀ z, z ∈ l → HT.lexLt z y = false := fun z hz => List.rel_of_pairwise_cons h hz
    unfold insK
    cases q : HT.lexLt y x with
    | true =>
      refine .cons (fun z hz => ?_) (ih (List.Pairwise.of_cons h))
      rcases List.mem_cons.mp ((insK_perm x l).mem_iff.mp hz) with rfl | hz
      · exact lex_asym y _ q
      · exact hy z hz
    | false =>
      refine .cons (fun z hz => ?_) h
      rcases List.mem_cons.mp hz with rfl | hz
      · exact q
      · exact lex_trans z y x (hy z hz) q
theorem sortK_pw (ks : List (List Int)) : (sortK ks).Pairwise fun a b => HT.lexLt b a = false := by
  induction ks with
  | nil => exact .nil
  | cons x l ih => exact insK_pw x (sortK l) ih
theorem sortI_pw (ns : List Int) : (sortI ns).Pairwise (· ≤ ·) := by
  have h := List.pairwise_mergeSort (le := fun a b : Int => decide (a ≤ b)) (fun a b c h k => by
    have := of_decide_eq_true h; have := of_decide_eq_true k; exact decide_eq_true (by omega)) (fun a b => by
    by_cases h : a ≤ b
    · simp [h]
    · simp [show b ≤ a by omega]) ns
  exact h.imp fun {a b} e => of_decide_eq_true e
theorem sortK_uniq {ks js : List (List Int)} (hp : js.Perm ks) (hw : js.Pairwise fun a b => HT.lexLt b a = false) : js = sortK ks :=
  List.Perm.eq_of_pairwise (fun a b _ _ h k => lex_total a b k h) hw (sortK_pw ks) (hp.trans (sortK_perm ks).symm)
theorem sortI_uniq {ns ms : List Int} (hp : ms.Perm ns) (hw : ms.Pairwise (· ≤ ·)) : ms = sortI ns :=
  List.Perm.eq_of_pairwise (fun a b _ _ h k => by omega) hw (sortI_pw ns) (hp.trans (sortI_perm ns).symm)
noncomputable def rSortM (K : PySem.W.Frag) : List V → Hp → VK → Prop := fun xs H Q => ∃ p, ∃ yks : List (V × List Int), xs = [.ref p] ∧ SqL K H p (yks.map (·.1)) ∧ yks.length < 64 ∧ (∀ yk ∈ yks, ∃ q, yk.1 = .ref q ∧ SqT K H q (yk.2.map V.int) ∧ yk.2 ≠ []) ∧
  ∀ (zks : List (V × List Int)) l, zks.Perm yks → zks.Pairwise (fun a b => HT.lexLt b.2 a.2 = false) → H l = none → Q (.ref l) (upd H l (.lst (zks.map (·.1))))
noncomputable def rSortedM (K : PySem.W.Frag) : List V → Hp → VK → Prop := fun xs H Q => rSortedI K xs H Q ∨ rSortM K xs H Q
noncomputable def bSorted : List D → Option (List D)
  | [.lst l] => if l.length < 64 then (match intsOf l with
    | some ns => some ((sortI ns).map D.int)
    | none => (keys l).map fun ks => (sortK ks).map tupI) else none
  | _ => none
section
variable {K : PySem.W.Frag}
theorem keyD_of {d : D} {k : List Int} (h : keyD d = some k) : d = tupI k ∧ k ≠ [] := by
  cases d <;> try (cases h; done)
  rename_i l
  have h' : (if l.isEmpty then none else intsOf l) = some k := h
  split at h'
  · cases h'
  · rename_i hne
    have key : ∀ (l : List D) (k : List Int), intsOf l = some k → l = k.map D.int := by
      intro l
      induction l with
      | nil => intro k e; cases e; rfl
      | cons d l ih =>
        intro k e
        cases d <;> try (cases e; done)
        rename_i i
        have e' : (intsOf l).map (fun r => i :: r) = some k := e
        cases q : intsOf l with
        | none => rw [q] at e'; cases e'
        | some m => rw [q] at e'; cases e'; rw [ih m q]; rfl
    have e := key l k h'
    subst e
    exact ⟨rfl, fun z => by subst z; exact hne rfl⟩
theorem keys_of : ∀ {l : List D} {ks : List (List Int)}, keys l = some ks → l = ks.map tupI ∧ ∀ k ∈ ks, k ≠ []
  | [], ks, h => by cases h; exact ⟨rfl, fun _ h => by cases h⟩
  | d :: l, ks, h => by
    have h' : ((keyD d).bind fun k => (keys l).map fun r => k :: r) = some ks := h
    cases q : keyD d with
    | none => rw [q] at h'; cases h'
    | some k =>
      rw [q] at h'
      dsimp only [Option.bind] at h'
      cases q2 : keys l with
      | none => rw [q2] at h'; cases h'
      | some r =>
        rw [q2] at h'
        cases h'
        obtain ⟨a, b⟩ := keys_of q2
        obtain ⟨c, d⟩ := keyD_of q
        refine ⟨by rw [List.map_cons, ← a, ← c], fun k hk => ?_⟩
        rcases List.mem_cons.mp hk with rfl | hk
        · exact d
        · exact b k hk
theorem ints_map_V : ∀ {S : Hp} {k : List Int} {xs : List V}, Dens K S (k.map D.int) xs → xs = k.map V.int
  | S, [], xs, h => h.nil_of
  | S, i :: k, xs, h => by
    obtain ⟨y, ys, rfl, h1, h2⟩ := h.cons_of
    rw [den_int.mp h1, ints_map_V h2]
    rfl
theorem dens_zip {S : Hp} : ∀ {ks : List (List Int)} {xs : List V}, Dens K S (ks.map tupI) xs → (xs.zip ks).map (·.1) = xs ∧ (xs.zip ks).map (·.2) = ks ∧ (xs.zip ks).length = ks.length ∧ ∀ yk ∈ xs.zip ks, Den K S (tupI yk.2) yk.1
  | [], xs, h => by rw [h.nil_of]; exact ⟨rfl, rfl, rfl, fun _ h => by cases h⟩
  | k :: ks, xs, h => by
    obtain ⟨y, ys, rfl, h1, h2⟩ := h.cons_of
    obtain ⟨a, b, c, d⟩ := dens_zip h2
    refine ⟨by rw [List.zip_cons_cons, List.map_cons, a], by rw [List.zip_cons_cons, List.map_cons, b], by rw [List.zip_cons_cons, List.length_cons, c, List.length_cons], fun yk hm => ?_⟩
    rw [List.zip_cons_cons] at hm
    rcases List.mem_cons.mp hm with rfl | hm
    · exact h1
    · exact d yk hm
theorem dens_of_pairs {S : Hp} : ∀ {zks : List (V × List Int)}, (∀ yk ∈ zks, Den K S (tupI yk.2) yk.1) → Dens K S ((zks.map (·.2)).map tupI) (zks.map (·.1))
  | [], _ => .nil
  | yk :: zks, h => .cons (h yk List.mem_cons_self) (dens_of_pairs fun z hz => h z (List.mem_cons_of_mem _ hz))
theorem b_sorted : SRF K (rSortedM K) bSorted := fun S H vs ds g Q s d q k => by
  unfold bSorted at q
  split at q
  · rename_i l
    split at q
    · rename_i hl
      obtain ⟨v, rfl, d1⟩ := one_of d
      obtain ⟨p, xs, rfl, h1, h2⟩ := d1.lst s
      cases qi : intsOf l with
      | some ns =>
        rw [qi] at q
        cases q
        obtain ⟨e1, e2⟩ := ints_dens h2 qi
        subst e1 e2
        refine .inl ⟨p, ns, rfl, .inl h1, by rw [List.length_map] at hl; exact hl, fun ms a pm pw ha => ?_⟩
        rw [sortI_uniq pm pw]
        refine k a _ _ (Ext.own s ha) ha upd_same ?_
        have key : ∀ ns : List Int, Dens K S (ns.map D.int) (ns.map V.int) := by
          intro ns
          induction ns with
          | nil => exact .nil
          | cons n ns ih => exact .cons (den_int.mpr rfl) ih
        exact key _
      | none =>
        rw [qi] at q
        dsimp only at q
        cases qk : keys l with
        | none => rw [qk] at q; cases q
        | some ks =>
          rw [qk] at q
          cases q
          obtain ⟨e1, e2⟩ := keys_of qk
          subst e1
          obtain ⟨a, b, c, dd⟩ := dens_zip h2
          refine .inr ⟨p, xs.zip ks, rfl, by rw [a]; exact .inl h1, by rw [c]; rw [List.length_map] at hl; exact hl, fun yk hm => ?_, fun zks l pm pw hl => ?_⟩
          · obtain ⟨q, ys, e, g1, g2⟩ := den_tupS (dd yk hm)
            have := ints_map_V g2
            subst this
            refine ⟨q, e, sqT_mono s g1, e2 _ ?_⟩
            rw [← b]
            exact List.mem_map.mpr ⟨yk, hm, rfl⟩
          · have e : zks.map (·.2) = sortK ks := by
              refine sortK_uniq ?_ ?_
              · rw [← b]; exact pm.map _
              · rw [List.pairwise_map]; exact pw
            have dz : Dens K S ((zks.map (·.2)).map tupI) (zks.map (·.1)) := dens_of_pairs fun yk hm => dd yk (pm.mem_iff.mp hm)
            rw [e] at dz
            exact k l _ _ (Ext.own s hl) hl upd_same dz
    · cases q
  · cases q
theorem s_truK {ta : TE} {a : XE} (ha : SPk K ta a) : ST K (tTru K ta) (xTru a) := s_tru ha
end
end M
namespace M
open PySem L2
noncomputable def dAddI : D → D → Option D := dI fun i j => some (.int (i + j))
section
variable {K : PySem.W.Frag}
end
end M
namespace M
open PySem L2
theorem s_truQ {K : PySem.W.Frag} {ta : TE} {a : XE} (ha : SQ K ta a) : ST K (tTru K ta) (xTru a) := fun ρ σ S H Q b r x k => by
  unfold xTru at x
  cases qa : a ρ with
  | none => rw [qa] at x; cases x
  | some da =>
    rw [qa] at x
    exact ha ρ σ S H _ da r qa fun v S1 H1 z1 d1 => ⟨b, tru_of (Same.refl H1) (.inl d1) x, k S1 H1 z1⟩
end M
namespace M
open PySem L2
theorem loopF_cons (g : XG) (m : XS) (d : D) (l : List D) (ρ : Env) : loopF g m (d :: l) ρ = (g d ρ).bind fun ρ1 => match m ρ1 with
    | some (.nx ρ2) => loopF g m l ρ2
    | some (.ct ρ2) => loopF g m l ρ2
    | some (.bk ρ2) => some (.nx ρ2)
    | some (.rt d) => some (.rt d)
    | some (.ro d) => some (.ro d)
    | none => none := rfl
theorem loopF_gen {α : Type} {g : XG} {m : XS} (enc : α → D) (P : List α → Env → Prop) (R : D → Prop) (B : Env → Prop) (l : List α) (ρ0 : Env) (h0 : P [] ρ0)
    (step : ∀ pre a post ρ, l = pre ++ a :: post → P pre ρ → ∃ ρ1 o, g (enc a) ρ = some ρ1 ∧ m ρ1 = some o ∧ (match o with | .nx ρ2 => P (pre ++ [a]) ρ2 | .ct ρ2 => P (pre ++ [a]) ρ2 | .bk ρ2 => B ρ2 | .rt d => R d | .ro _ => False)) :
    ∃ o, loopF g m (l.map enc) ρ0 = some o ∧ (match o with | .nx ρ' => P l ρ' ∨ B ρ' | .rt d => R d | _ => False) := by
  have key : ∀ (post pre : List α) (ρ : Env), l = pre ++ post → P pre ρ → ∃ o, loopF g m (post.map enc) ρ = some o ∧ (match o with | .nx ρ' => P l ρ' ∨ B ρ' | .rt d => R d | _ => False) := by
    intro post
    induction post with
    | nil =>
      intro pre ρ e p
      rw [List.append_nil] at e
      subst e
      exact ⟨_, rfl, .inl p⟩
    | cons a post ih =>
      intro pre ρ e p
      obtain ⟨ρ1, o, h1, h2, h3⟩ := step pre a post ρ e p
      rw [List.map_cons, loopF_cons, h1]
      dsimp only [Option.bind]
      rw [h2]
      cases o with
      | nx ρ2 => exact ih (pre ++ [a]) ρ2 (by rw [e, List.append_assoc]; rfl) h3
      | ct ρ2 => exact ih (pre ++ [a]) ρ2 (by rw [e, List.append_assoc]; rfl) h3
      | bk ρ2 => exact ⟨_, rfl, .inr h3⟩
      | rt d => exact ⟨_, rfl, h3⟩
      | ro d => exact h3.elim
  exact key l [] ρ0 rfl h0
theorem loopF_inv {α : Type} {g : XG} {m : XS} (enc : α → D) (P : List α → Env → Prop) (l : List α) (ρ0 : Env) (h0 : P [] ρ0)
    (step : ∀ pre a post ρ, l = pre ++ a :: post → P pre ρ → ∃ ρ1 ρ2, g (enc a) ρ = some ρ1 ∧ (m ρ1 = some (.nx ρ2) ∨ m ρ1 = some (.ct ρ2)) ∧ P (pre ++ [a]) ρ2) :
    ∃ ρ', loopF g m (l.map enc) ρ0 = some (.nx ρ') ∧ P l ρ' := by
  obtain ⟨o, h1, h2⟩ := loopF_gen (g := g) (m := m) enc P (fun _ => False) (fun _ => False) l ρ0 h0 fun pre a post ρ e p => by
    obtain ⟨ρ1, ρ2, k1, k2, k3⟩ := step pre a post ρ e p
    rcases k2 with k2 | k2
    · exact ⟨ρ1, _, k1, k2, k3⟩
    · exact ⟨ρ1, _, k1, k2, k3⟩
  cases o with
  | nx ρ' => exact ⟨ρ', h1, h2.elim id False.elim⟩
  | rt d => exact h2.elim
  | ro d => exact h2.elim
  | bk ρ' => exact h2.elim
  | ct ρ' => exact h2.elim
noncomputable def oneF (g : XG) (c : XT) (e : XE) (ρ0 : Env) (d : D) : Option (Option D) := (g d ρ0).bind fun ρ1 => (c ρ1).bind fun b => if b = true then (e ρ1).map some else some none
theorem compF_fm {α : Type} {g : XG} {c : XT} {e : XE} {ρ0 : Env} (enc : α → D) (f : α → Option D) : ∀ (l : List α), (∀ a ∈ l, oneF g c e ρ0 (enc a) = some (f a)) → compF g c e ρ0 (l.map enc) = some (l.filterMap f)
  | [], _ => rfl
  | a :: l, h => by
    have ih := compF_fm (g := g) (c := c) (e := e) (ρ0 := ρ0) enc f l fun b hb => h b (List.mem_cons_of_mem _ hb)
    have h1 := h a List.mem_cons_self
    unfold oneF at h1
    rw [List.map_cons, compF]
    cases q1 : g (enc a) ρ0 with
    | none => rw [q1] at h1; cases h1
    | some ρ1 =>
      rw [q1] at h1
      dsimp only [Option.bind] at h1 ⊢
      cases q2 : c ρ1 with
      | none => rw [q2] at h1; cases h1
      | some b =>
        rw [q2] at h1
        dsimp only at h1 ⊢
        cases b with
        | false =>
          rw [if_neg (by decide)] at h1 ⊢
          rw [ih, List.filterMap_cons]
          have : f a = none := (Option.some.inj h1).symm
          rw [this]
        | true =>
          rw [if_pos rfl] at h1 ⊢
          cases q3 : e ρ1 with
          | none => rw [q3] at h1; cases h1
          | some y =>
            rw [q3] at h1
            have : f a = some y := (Option.some.inj h1).symm
            rw [ih, List.filterMap_cons, this]
            rfl
theorem compF_map {α : Type} {g : XG} {e : XE} {ρ0 : Env} (enc : α → D) (f : α → D) (l : List α) (h : ∀ a ∈ l, oneF g xYes e ρ0 (enc a) = some (some (f a))) : compF g xYes e ρ0 (l.map enc) = some (l.map f) := by
  rw [compF_fm enc (fun a => some (f a)) l h]
  exact congrArg some (congrFun List.filterMap_eq_map' l)
noncomputable abbrev prD (p : Int × Int) : D := .tup [.int p.1, .int p.2]
noncomputable abbrev rowD (r : List (Int × Int)) : D := .tup (r.map prD)
noncomputable abbrev lstD (r : List (Int × Int)) : D := .lst (r.map prD)
@[simp] theorem atI_neg1 {α : Type} (l : List α) (x : α) : atI (l ++ [x]) (-1) = some x := by
  unfold atI ixN
  rw [if_neg (by decide), List.length_append, List.length_singleton, if_pos (by omega)]
  have : ((-1 : Int) + ((l.length + 1 : Nat) : Int)).toNat = l.length := by omega
  dsimp only [Option.bind]
  rw [this]
  simp
theorem atI_of {α : Type} {l : List α} {j : Nat} {x : α} (h : l[j]? = some x) : atI l (j : Int) = some x := by
  have := (List.getElem?_eq_some_iff.mp h).1
  unfold atI ixN
  rw [if_pos (by omega), if_pos (by omega)]
  dsimp only [Option.bind]
  rw [Int.toNat_natCast]
  exact h
@[simp] theorem putL_last (l : List O) (x : O) (f : O → O) : putL (l ++ [x]) (-1) f = l ++ [f x] := by
  unfold putL ixN
  rw [if_neg (by decide), List.length_append, List.length_singleton, if_pos (by omega)]
  have : ((-1 : Int) + ((l.length + 1 : Nat) : Int)).toNat = l.length := by omega
  dsimp only
  rw [this]
  simp
@[simp] theorem atI_last2 {α : Type} (l : List α) (a b : α) : atI (l ++ [a, b]) (-1) = some b := by
  have := atI_neg1 (l ++ [a]) b
  rw [List.append_assoc] at this
  exact this
@[simp] theorem atI_one {α : Type} (a : α) : atI [a] (-1) = some a := atI_neg1 [] a
@[simp] theorem putL_last2 (l : List O) (a b : O) (f : O → O) : putL (l ++ [a, b]) (-1) f = l ++ [a, f b] := by
  have := putL_last (l ++ [a]) b f
  rw [List.append_assoc, List.append_assoc] at this
  exact this
@[simp] theorem putL_one (a : O) (f : O → O) : putL [a] (-1) f = [f a] := putL_last [] a f
@[simp] theorem flat_int (i : Int) : flat (.int i) = some (.int i) := rfl
@[simp] theorem flat_bl (i : Bool) : flat (.bl i) = some (.bl i) := rfl
@[simp] theorem flat_str (i : Str) : flat (.str i) = some (.str i) := rfl
@[simp] theorem flat_non : flat .non = some .non := rfl
@[simp] theorem putL2_1 (a b : O) (f : O → O) : putL [a, b] 1 f = [a, f b] := rfl
theorem ixN_neg1 {n : Nat} : ixN (n + 1) (-1) = some n := by
  unfold ixN
  rw [if_neg (by decide), if_pos (by omega)]
  congr 1
  omega
section
variable (i j : Int) (a b : List D) (neg : Bool) (ρ : Env)
@[simp] theorem v_sub : dSub (.int i) (.int j) = some (.int (i - j)) := rfl
@[simp] theorem v_add : dAdd (.int i) (.int j) = some (.int (i + j)) := rfl
@[simp] theorem v_addI : dAddI (.int i) (.int j) = some (.int (i + j)) := rfl
@[simp] theorem v_lt : dLt (.int i) (.int j) = some (.bl (decide (i < j))) := rfl
@[simp] theorem v_le : dLe (.int i) (.int j) = some (.bl (decide (i ≤ j))) := rfl
@[simp] theorem v_gt : dGt (.int i) (.int j) = some (.bl (decide (j < i))) := rfl
@[simp] theorem v_ge : dGe (.int i) (.int j) = some (.bl (decide (j ≤ i))) := rfl
@[simp] theorem v_neg : dNeg (.int i) = some (.int (-i)) := rfl
@[simp] theorem v_mulR {i j : Int} (h : -18446744073709551616 < j ∧ j < 18446744073709551616) : dMul (.int i) (.int j) = some (.int (i * j)) := ifC_pos (.inr h)
@[simp] theorem v_mulL {i j : Int} (h : -18446744073709551616 < i ∧ i < 18446744073709551616) : dMul (.int i) (.int j) = some (.int (i * j)) := ifC_pos (.inl h)
@[simp] theorem v_div {i j : Int} (h : 0 < j ∧ j < 1073741824) : dDiv (.int i) (.int j) = some (.int (i / j)) := ifC_pos h
@[simp] theorem v_mod {i j : Int} (h : 0 < j) : dMod (.int i) (.int j) = some (.int (i % j)) := ifC_pos h
@[simp] theorem v_pow {i j : Int} (h : 0 ≤ j ∧ j ≤ 1000000 ∧ i.natAbs < 18446744073709551616) : dPow (.int i) (.int j) = some (.int (i ^ j.toNat)) := ifC_pos h
@[simp] theorem v_isN (d : D) : dIsN neg d .non = some (.bl (if neg then !isNon d else isNon d)) := rfl
@[simp] theorem v_isNon1 : isNon .non = true := rfl
@[simp] theorem v_isNon2 : isNon (.int i) = false := rfl
@[simp] theorem v_isNon3 : isNon (.tup a) = false := rfl
@[simp] theorem v_ixL : dIx (.lst a) (.int i) = atI a i := rfl
@[simp] theorem v_ixT : dIx (.tup a) (.int i) = atI a i := rfl
@[simp] theorem v_ixS : dIx (.scr a) (.int i) = atI a i := rfl
@[simp] theorem v_truL : truD (.lst a) = some (!a.isEmpty) := rfl
@[simp] theorem v_truT : truD (.tup a) = some (!a.isEmpty) := rfl
@[simp] theorem v_truS : truD (.scr a) = some (!a.isEmpty) := rfl
@[simp] theorem v_truB (x : Bool) : truD (.bl x) = some x := rfl
@[simp] theorem v_truI : truD (.int i) = some (i != 0) := rfl
@[simp] theorem v_truN : truD .non = some false := rfl
@[simp] theorem v_lenL : bLen [.lst a] = some (.int a.length) := rfl
@[simp] theorem v_lenT : bLen [.tup a] = some (.int a.length) := rfl
@[simp] theorem v_lenS : bLen [.scr a] = some (.int a.length) := rfl
@[simp] theorem v_tupL : bTuple [.lst a] = some (.tup a) := rfl
@[simp] theorem v_tupT : bTuple [.tup a] = some (.tup a) := rfl
@[simp] theorem v_lstL : bList [.lst a] = some a := rfl
@[simp] theorem v_lstT : bList [.tup a] = some a := rfl
@[simp] theorem v_lstS : bList [.scr a] = some a := rfl
@[simp] theorem v_max : bMax2 [.int i, .int j] = some (.int (if j > i then j else i)) := rfl
@[simp] theorem v_min : bMin2 [.int i, .int j] = some (.int (if j < i then j else i)) := rfl
@[simp] theorem v_int : bInt [.int i] = some (.int i) := rfl
@[simp] theorem v_intB (x : Bool) : bInt [.bl x] = some (.int (if x then 1 else 0)) := rfl
@[simp] theorem v_seqL : seqD (.lst a) = some a := rfl
@[simp] theorem v_seqT : seqD (.tup a) = some a := rfl
@[simp] theorem v_seqS : seqD (.scr a) = some a := rfl
@[simp] theorem v_slL (lo hi : Option Int) : dSl (.lst a) lo hi = some (.lst (cutD a lo hi)) := rfl
@[simp] theorem v_slT (lo hi : Option Int) : dSl (.tup a) lo hi = some (.tup (cutD a lo hi)) := rfl
@[simp] theorem v_slS (lo hi : Option Int) : dSl (.scr a) lo hi = some (.lst (cutD a lo hi)) := rfl
@[simp] theorem v_gT (y : XGs) : xgTup y (.tup a) ρ = y a ρ := rfl
@[simp] theorem v_gC (x : XG) (y : XGs) (d : D) : xgCons x y (d :: a) ρ = (x d ρ).bind (y a) := rfl
@[simp] theorem v_gN : xgNil [] ρ = some ρ := rfl
@[simp] theorem v_isiI : bIsi [.int i, .ty "int"] = some (.bl true) := rfl
@[simp] theorem v_isiB : bIsi [.int i, .ty "bool"] = some (.bl false) := rfl
@[simp] theorem v_isiT : bIsi [.tup a, .ty "tuple"] = some (.bl true) := rfl
@[simp] theorem v_isiL : bIsi [.lst a, .ty "list"] = some (.bl true) := rfl
@[simp] theorem v_isiBB (x : Bool) : bIsi [.bl x, .ty "bool"] = some (.bl true) := rfl
theorem v_rng {j : Int} (h : j < 1000000 ∧ -1000000 < j) : rngD [.int j] = some (intsD 0 j.toNat) := ifC_pos h
end
noncomputable abbrev owl (l : List D) : Sl := .ow (.lst (l.map O.sh))
@[simp] theorem peek_lst (os : List O) : peek (.ow (.lst os)) = (shs os).map D.lst := rfl
@[simp] theorem shs_nil : shs [] = some [] := rfl
@[simp] theorem shs_cons (d : D) (l : List O) : shs (.sh d :: l) = (shs l).map fun r => d :: r := rfl
@[simp] theorem shs_map' (l : List D) : shs (l.map O.sh) = some l := shs_map l
@[simp] theorem shs_mapc {α : Type} (f : α → D) (l : List α) : shs (l.map (O.sh ∘ f)) = some (l.map f) := by rw [← List.map_map]; exact shs_map _
@[simp] theorem shs_mapf {α : Type} (f : α → D) (l : List α) : shs (l.map fun a => O.sh (f a)) = some (l.map f) := shs_mapc f l
@[simp] theorem shs_app : ∀ (a b : List O), shs (a ++ b) = (shs a).bind fun x => (shs b).map fun y => x ++ y
  | [], b => by cases h : shs b <;> simp [h]
  | .sh d :: a, b => by
    rw [List.cons_append, shs_cons, shs_cons, shs_app a b]
    cases shs a with
    | none => rfl
    | some x => cases shs b <;> rfl
  | .dic _ :: _, _ => rfl
  | .lst _ :: a, b => rfl
  | .tup _ :: a, b => rfl
@[simp] theorem subO_nil (o : O) : subO o [] = some o := by unfold subO; rfl
@[simp] theorem subO_lst (l : List O) (k : Int) (r : List Int) : subO (.lst l) (k :: r) = (atI l k).bind fun o => subO o r := rfl
@[simp] theorem subO_tup (l : List O) (k : Int) (r : List Int) : subO (.tup l) (k :: r) = (atI l k).bind fun o => subO o r := rfl
@[simp] theorem putO_nil (o q : O) : putO o [] q = q := by unfold putO; rfl
@[simp] theorem putO_lst (l : List O) (k : Int) (r : List Int) (q : O) : putO (.lst l) (k :: r) q = .lst (putL l k fun o => putO o r q) := rfl
@[simp] theorem putO_tup (l : List O) (k : Int) (r : List Int) (q : O) : putO (.tup l) (k :: r) q = .tup (putL l k fun o => putO o r q) := rfl
@[simp] theorem O_d_sh (d : D) : O.d (.sh d) = d := by unfold O.d; rfl
@[simp] theorem O_d_lst (l : List O) : O.d (.lst l) = .lst (O.ds l) := by rw [O.d]
@[simp] theorem O_d_tup (l : List O) : O.d (.tup l) = .tup (O.ds l) := by rw [O.d]
@[simp] theorem O_ds_nil : O.ds [] = [] := by rw [O.ds]
@[simp] theorem O_ds_cons (o : O) (l : List O) : O.ds (o :: l) = o.d :: O.ds l := by rw [O.ds]
@[simp] theorem O_ds_app : ∀ (a b : List O), O.ds (a ++ b) = O.ds a ++ O.ds b
  | [], b => by simp
  | o :: a, b => by simp [O_ds_app a b]
@[simp] theorem O_ds_map : ∀ l : List D, O.ds (l.map O.sh) = l
  | [] => by simp
  | d :: l => by simp [O_ds_map l]
@[simp] theorem O_ds_mapc {α : Type} (f : α → D) (l : List α) : O.ds (l.map (O.sh ∘ f)) = l.map f := by rw [← List.map_map]; exact O_ds_map _
@[simp] theorem at2_0 {α : Type} (a b : α) : atI [a, b] 0 = some a := rfl
@[simp] theorem at2_1 {α : Type} (a b : α) : atI [a, b] 1 = some b := rfl
@[simp] theorem at3_0 {α : Type} (a b c : α) : atI [a, b, c] 0 = some a := rfl
@[simp] theorem at3_1 {α : Type} (a b c : α) : atI [a, b, c] 1 = some b := rfl
@[simp] theorem at3_2 {α : Type} (a b c : α) : atI [a, b, c] 2 = some c := rfl
theorem lim_is : LIM = 1000000 := by unfold LIM; rfl
@[simp] theorem lim0 : (0 : Nat) ≤ LIM := Nat.zero_le _
@[simp] theorem lim1 : (1 : Nat) ≤ LIM := by rw [lim_is]; decide
@[simp] theorem lim2 : (2 : Nat) ≤ LIM := by rw [lim_is]; decide
@[simp] theorem lim3 : (3 : Nat) ≤ LIM := by rw [lim_is]; decide
@[simp] theorem lim4 : (4 : Nat) ≤ LIM := by rw [lim_is]; decide
@[simp] theorem lim5 : (5 : Nat) ≤ LIM := by rw [lim_is]; decide
@[simp] theorem lim6 : (6 : Nat) ≤ LIM := by rw [lim_is]; decide
@[simp] theorem lim7 : (7 : Nat) ≤ LIM := by rw [lim_is]; decide
@[simp] theorem lim8 : (8 : Nat) ≤ LIM := by rw [lim_is]; decide
@[simp] theorem lim9 : (9 : Nat) ≤ LIM := by rw [lim_is]; decide
@[simp] theorem lim10 : (10 : Nat) ≤ LIM := by rw [lim_is]; decide
@[simp] theorem lim0' : (0 : Nat) < LIM := by rw [lim_is]; decide
@[simp] theorem dEq_int (neg : Bool) (i j : Int) : dEq neg (.int i) (.int j) = some (.bl (if neg then !decide (i = j) else decide (i = j))) := by
  unfold dEq
  rw [if_pos ⟨by simp [okD], by simp [okD]⟩]
  have : eqD (.int i) (.int j) = decide (i = j) := by simp [eqD]; by_cases h : i = j <;> simp [h]
  rw [this]
@[simp] theorem dEq_bl (neg : Bool) (i j : Bool) : dEq neg (.bl i) (.bl j) = some (.bl (if neg then !decide (i = j) else decide (i = j))) := by
  unfold dEq
  rw [if_pos ⟨by simp [okD], by simp [okD]⟩]
  have : eqD (.bl i) (.bl j) = decide (i = j) := by simp [eqD]; by_cases h : i = j <;> simp [h]
  rw [this]
end M
namespace M
open PySem L2
theorem dens_ints {K : PySem.W.Frag} {S : Hp} : ∀ ns : List Int, Dens K S (ns.map D.int) (ns.map V.int)
  | [] => .nil
  | n :: ns => .cons (den_int.mpr rfl) (dens_ints ns)
theorem sp_script {K : PySem.W.Frag} {H : Hp} {a : Addr} {ns : List Int} {m : List D → Option O} {E : XK} (hS : SqL K H a (ns.map V.int)) (h : (m [.scr (ns.map D.int)]).map O.d = some (.bl true)) : spOf K 1 m [.ref a] H (fun v _ => v = .bl true) E := by
  cases q : m [.scr (ns.map D.int)] with
  | none => rw [q] at h; cases h
  | some o =>
    rw [q] at h
    have e : o.d = .bl true := Option.some.inj h
    exact ⟨rfl, H, [.scr (ns.map D.int)], o, Same.refl _, .cons (den_scr.mpr ⟨a, _, rfl, hS, dens_ints ns⟩) .nil, q, fun v fp S' H' z ow _ _ => by
      have dv := ow.denH z.sub
      rw [e] at dv
      exact den_bl.mp dv⟩
end M
namespace L2
open PySem PySem.Spec PyProof.Rows
theorem bt_len : bootBuiltins "len" = some (.builtin "len") := by decide +kernel
theorem bt_sorted : bootBuiltins "sorted" = some (.builtin "sorted") := by decide +kernel
theorem bt_max : bootBuiltins "max" = some (.builtin "max") := by decide +kernel
theorem bt_min : bootBuiltins "min" = some (.builtin "min") := by decide +kernel
theorem bt_isinstance : bootBuiltins "isinstance" = some (.builtin "isinstance") := by decide +kernel
theorem bt_tuple : bootBuiltins "tuple" = some (.type "tuple") := by decide +kernel
theorem bt_int : bootBuiltins "int" = some (.type "int") := by decide +kernel
theorem bt_str : bootBuiltins "str" = some (.type "str") := by decide +kernel
section
variable {X : Cx}
theorem kit_sub {K : PySem.W.Frag} {t T : String} (ht : t ∈ ["NoneType", "bool", "int", "str", "list", "tuple"]) (hT : T ∈ ["bool", "int", "str", "list", "tuple"]) : PySem.W.kitOne K (.type t) (.type T) = some (M.subM t T) := by
  simp only [List.mem_cons, List.not_mem_nil, or_false] at ht hT
  rcases ht with rfl | rfl | rfl | rfl | rfl | rfl <;> rcases hT with rfl | rfl | rfl | rfl | rfl <;> kernel_rfl
theorem lex_same : ∀ a b : List Int, Srt.lexI a b = HT.lexLt a b
  | [], [] => rfl
  | [], _ :: _ => rfl
  | _ :: _, [] => rfl
  | x :: xs, y :: ys => by
    rw [HT.lexLt_cons, ← lex_same xs ys]
    rfl
end
end L2
namespace Rev
open PySem
section
variable {prog : Program} {w : World} {A : Around} {s : Shared} {R : Result → Shared → Prop} {I : Addr} {fp wr : List Addr} {G : Array GenState → Array GenState → Prop} {n : Nat} {P : Nat → Value → Prop} {St : Nat → Shared → Prop}
end
section
variable {prog : Program} {w : World} {A : Around} {E : Value → Shared → Prop} {s : Shared} {I : Addr} {fp wr : List Addr} {G : Array GenState → Array GenState → Prop} {n : Nat} {P : Nat → Value → Prop} {St : Nat → Shared → Prop}
end
end Rev
namespace L2
open PySem PySem.Spec PyProof.Rows
section
variable {X : Cx} {tg : Expr}
theorem pi_seq {l : Expr} {tl : TE} (hl : PE X l tl) : PI X tg l (iSeq X.K tl) := by
  intro pins s σ H R I h
  refine thn (hl pins s σ H _ I h) fun v s1 h1 => ?_
  obtain ⟨x, H1, I1, r1, a, e, q⟩ := h1
  subst e
  cases r1
  rcases q with ⟨⟨xs, hq⟩, q⟩ | ⟨⟨xs, hq⟩, q⟩
  · obtain ⟨its, rv, p, hz⟩ := I1.list hq
    refine wpAny_pyIter_list p.isList ⟨s1.heap.objs.size, [s1.heap.objs.size], _, _, H1, rfl, I1.kept (t' := s1.toks) fun b o e => Heap.get?_push_of_some _ e, turn_list a _, ⟨_, Heap.get?_push_size _ rfl, rfl, rfl⟩, fun b hb => ?_, q⟩
    rw [List.mem_singleton.mp hb]
    exact I1.fpOk (Nat.le_refl _) I1.fresh
  · obtain ⟨its, rv, p, hz⟩ := I1.tuple hq
    refine wpAny_pyIter_tuple (show s1.heap.IsTuple a its.toArray from p) ⟨s1.heap.objs.size, [s1.heap.objs.size], _, _, H1, rfl, I1.kept (t' := s1.toks) fun b o e => Heap.get?_push_of_some _ e, turn_tuple a _, ⟨_, Heap.get?_push_size _ rfl, rfl, rfl⟩, fun b hb => ?_, q⟩
    rw [List.mem_singleton.mp hb]
    exact I1.fpOk (Nat.le_refl _) I1.fresh
end
end L2
namespace L2
open PySem PySem.Spec PyProof.Rows
section
variable {X : Cx} {tg : Expr}
theorem ints_vals : ∀ {vs : List Value} {ns : List Int}, IntsAre vs ns → Vals (ns.map V.int) vs
  | _, _, .nil => .nil
  | _, _, .cons n t h => .cons ⟨t, rfl⟩ (ints_vals h)
theorem call_sortedI : CallR X (.builtin "sorted") (rSortedI X.K) := by
  intro pins s σ H xs us Q I r h
  obtain ⟨p, ns, rfl, hS, h64, k⟩ := h
  obtain ⟨u, rfl, ru⟩ := r.one
  cases ru
  obtain ⟨its, rv, pl, hz⟩ := I.list hS
  have hI : IntsAre its ns := intsAre_of rv
  have hl : its.length = ns.length := by have := rv.length; rw [List.length_map] at this; exact this.symm
  refine sorted_ints pl.isList hI (by omega) fun out ms ho perm pw => ?_
  obtain ⟨e, at1⟩ := sortedAll_at s.heap its out
  have fresh : s.heap.objs.size ≤ s.heap.objs.size + 1 := Nat.le_succ _
  refine ⟨.ref (s.heap.objs.size + 1), upd H (s.heap.objs.size + 1) (.lst (ms.map V.int)), I.laid (t' := s.toks) (fun b o hb => sortedAll_old hb) fresh ?_, rfl, k ms _ perm pw (I.hok.fresh fresh)⟩
  exact ⟨by rw [List.length_map, perm.length_eq, sizeLine_eq]; omega, out.toList, e, ints_vals ho, by simpa using at1⟩
end
end L2
namespace HT
open PySem PySem.Spec PyProof.Rows
section
variable {prog : Program} {w : World} {A : Around} {E : Value → Shared → Prop} {s : Shared}
end
end HT
namespace L2
open PySem PySem.Spec PyProof.Rows M
theorem Inv.rdl {X : Cx} {pins : List (Addr × Obj)} {σ : St} {H : Hp} {s : Shared} {l : Addr} {xs : List V} (I : Inv X pins σ H s) (h : Rd H l (.lst xs)) : xs.length ≤ sizeLine ∧ ∃ (its : List Value) (n : Nat), Vals xs its ∧ xs.length = its.length ∧ s.heap.get? l = some { cls := .type "list", data := .seq its.toArray n } := by
  obtain ⟨h1, its, n, r, e⟩ := (show ObjOk X.prog X.w H s.heap l (.lst xs) from h.ok I.hok)
  exact ⟨h1, its, n, r, r.length, e⟩
section
variable {X : Cx}
theorem op_catM : OpR X (binaryOp .Add) rCatM := by
  intro pins s σ H x y v u Q I rx ry h
  obtain ⟨l, b, xs, zs, rfl, rfl, hH, hB, hz, q⟩ := h
  cases rx
  cases ry
  obtain ⟨z, its, n, r, hl, e⟩ := I.rdl hH
  obtain ⟨z2, its2, n2, r2, hl2, e2⟩ := I.rdl hB
  refine PySem.P.add_list e e2 ?_ (by rw [List.size_toArray, List.size_toArray]; omega)
  have ea : its.toArray ++ its2.toArray = (its ++ its2).toArray := by simp
  rw [ea]
  exact ⟨.ref _, _, I.lnew (t' := s.toks) (r.append r2) (by rw [List.length_append]; omega), rfl, q _ I.fresh⟩
theorem op_tupM : OpR X (binaryOp .Add) (rTupM X.K) := by
  intro pins s σ H x y v u Q I rx ry h
  obtain ⟨a, b, xs, ys, rfl, rfl, ha, hb, hz, q1, q2, q⟩ := h
  cases rx
  cases ry
  obtain ⟨its, r1, p1, _⟩ := I.tuple ha
  obtain ⟨its2, r2, p2, _⟩ := I.tuple hb
  have hz2 : its.length + its2.length ≤ sizeLine := by rw [← r1.length, ← r2.length]; exact hz
  by_cases hv : its = []
  · have hx : xs = [] := r1.nil_iff.mp hv
    obtain ⟨⟨cls, dd, data, sl⟩, ho, hc, n, hd⟩ := id p1
    obtain ⟨⟨cls2, dd2, data2, sl2⟩, ho2, hc2, n2, hd2⟩ := id p2
    simp only at hc hd hc2 hd2; subst hc hd hc2 hd2
    exact concat_meets ⟨_, ho, rfl⟩ ⟨_, ho2, rfl⟩ noFill_tuple_add seq_tuple_add PySem.F.slot_tuple_add PySem.F.entry_tuple_add (PySem.F.args_tuple_add_2 (.ref a) (.ref b)) (tuple_addW0 a b its.toArray its2.toArray n n2 dd dd2 sl sl2 (by simp [hv])) ⟨ho, ho2, ⟨.ref b, H, I, rfl, q2 hx⟩⟩
  · refine HT.cat_tup p1 p2 hv (fun z => ⟨.ref a, H, I, rfl, q1 (r2.nil_iff.mp z)⟩) (fun z => ?_) hz2
    refine ⟨.ref s.heap.objs.size, _, I.laid (t' := s.toks) (o := .tup (xs ++ ys)) (fun b ob e => Heap.get?_push_of_some _ e) (Nat.le_refl _) ?_, rfl, q _ (I.hok.fresh (Nat.le_refl _))⟩
    exact ⟨by rw [List.length_append]; exact hz, _, r1.append r2, IsTup.new _ _⟩
theorem op_strM : OpR X (binaryOp .Add) rStrM := op_add_str
theorem op_addM : OpR X (binaryOp .Add) (rAddM X.K) := op_add.or (op_catM.or (op_tupM.or op_strM))
mutual
noncomputable def pyD : D → PyData
  | .non => .none
  | .bl b => .bool b
  | .int i => .int i
  | .str x => .str x
  | .lst l => .list (pyDs l)
  | .tup l => .tuple (pyDs l)
  | _ => .none
noncomputable def pyDs : List D → List PyData
  | [] => []
  | d :: l => pyD d :: pyDs l
end
mutual
theorem ok_can : ∀ (n : Nat) (d : D), okD n d = true → (pyD d).canLay0 = true ∧ (pyD d).depth ≤ n
  | _, .non, _ => by simp [pyD, PyData.canLay0, PyData.depth]
  | _, .bl _, _ => by simp [pyD, PyData.canLay0, PyData.depth]
  | _, .int _, _ => by simp [pyD, PyData.canLay0, PyData.depth]
  | n, .str x, h => by
    have h' : PyData.strOk x = true := by cases n <;> simpa [okD] using h
    simp [pyD, PyData.canLay0, PyData.depth, h']
  | 0, .lst l, h => by simp [okD] at h
  | n + 1, .lst l, h => by
    obtain ⟨a, b⟩ := oks_can n l (by simpa [okD] using h)
    simp only [pyD, PyData.canLay0, PyData.depth]
    exact ⟨a, by omega⟩
  | 0, .tup l, h => by simp [okD] at h
  | n + 1, .tup l, h => by
    obtain ⟨a, b⟩ := oks_can n l (by simpa [okD] using h)
    simp only [pyD, PyData.canLay0, PyData.depth]
    exact ⟨a, by omega⟩
  | n, .ty _, h => by cases n <;> simp [okD] at h
  | n, .scr _, h => by cases n <;> simp [okD] at h
  | n, .ins _ _ _, h => by cases n <;> simp [okD] at h
theorem oks_can : ∀ (n : Nat) (l : List D), okDs n l = true → PyData.canLayAll0 (pyDs l) = true ∧ PyData.depthAll (pyDs l) ≤ n
  | _, [], _ => by simp [pyDs, PyData.canLayAll0, PyData.depthAll]
  | n, d :: l, h => by
    rw [okDs, Bool.and_eq_true] at h
    obtain ⟨a, b⟩ := ok_can n d h.1
    obtain ⟨c, e⟩ := oks_can n l h.2
    simp only [pyDs, PyData.canLayAll0, PyData.depthAll, a, c]
    exact ⟨rfl, by omega⟩
end
mutual
theorem eqv_is : ∀ (n m : Nat) (d e : D), okD n d = true → okD m e = true → PyData.eqv (pyD d) (pyD e) = eqD d e
  | n, m, .non, e, _, he => by cases e <;> first | (simp [pyD, PyData.eqv, eqD]; done) | (cases m <;> simp [okD] at he)
  | n, m, .bl _, e, _, he => by cases e <;> first | (simp [pyD, PyData.eqv, eqD]; done) | (cases m <;> simp [okD] at he)
  | n, m, .int _, e, _, he => by cases e <;> first | (simp [pyD, PyData.eqv, eqD]; done) | (cases m <;> simp [okD] at he)
  | n, m, .str _, e, _, he => by cases e <;> first | (simp [pyD, PyData.eqv, eqD]; done) | (cases m <;> simp [okD] at he)
  | 0, m, .lst _, e, hd, he => by simp [okD] at hd
  | n + 1, m, .lst l, e, hd, he => by
    cases e with
    | lst l' =>
      cases m with
      | zero => simp [okD] at he
      | succ m =>
        simp only [pyD, PyData.eqv, eqD]
        exact eqvs_is n m l l' (by simpa [okD] using hd) (by simpa [okD] using he)
    | _ => first | (simp [pyD, PyData.eqv, eqD]; done) | (cases m <;> simp [okD] at he)
  | 0, m, .tup _, e, hd, he => by simp [okD] at hd
  | n + 1, m, .tup l, e, hd, he => by
    cases e with
    | tup l' =>
      cases m with
      | zero => simp [okD] at he
      | succ m =>
        simp only [pyD, PyData.eqv, eqD]
        exact eqvs_is n m l l' (by simpa [okD] using hd) (by simpa [okD] using he)
    | _ => first | (simp [pyD, PyData.eqv, eqD]; done) | (cases m <;> simp [okD] at he)
  | n, _, .ty _, _, h, _ => by cases n <;> simp [okD] at h
  | n, _, .scr _, _, h, _ => by cases n <;> simp [okD] at h
  | n, _, .ins _ _ _, _, h, _ => by cases n <;> simp [okD] at h
theorem eqvs_is : ∀ (n m : Nat) (l l' : List D), okDs n l = true → okDs m l' = true → PyData.eqvAll (pyDs l) (pyDs l') = eqDs l l'
  | _, _, [], [], _, _ => by simp [pyDs, PyData.eqvAll, eqDs]
  | _, _, [], _ :: _, _, _ => by simp [pyDs, PyData.eqvAll, eqDs]
  | _, _, _ :: _, [], _, _ => by simp [pyDs, PyData.eqvAll, eqDs]
  | n, m, d :: l, e :: l', hd, he => by
    rw [okDs, Bool.and_eq_true] at hd he
    rw [pyDs, pyDs, PyData.eqvAll, eqDs, eqv_is n m d e hd.1 he.1, eqvs_is n m l l' hd.2 he.2]
end
mutual
theorem den_reads {pins : List (Addr × Obj)} {σ : St} {H : Hp} {s : Shared} (I : Inv X pins σ H s) : ∀ (n : Nat) {d : D} {x : V} {v : Value}, okD n d = true → Den X.K H d x → RelV x v → ∃ as, Reads s.heap v (pyD d) as
  | _, .non, x, v, _, dx, r => by rw [den_non.mp dx] at r; cases r; exact ⟨_, .none⟩
  | _, .bl b, x, v, _, dx, r => by rw [den_bl.mp dx] at r; cases r; exact ⟨_, .bool b⟩
  | _, .int i, x, v, _, dx, r => by rw [den_int.mp dx] at r; obtain ⟨t, rfl⟩ := r; exact ⟨_, .int i t⟩
  | _, .str y, x, v, _, dx, r => by rw [den_str.mp dx] at r; obtain ⟨t, rfl⟩ := r; exact ⟨_, .str y t⟩
  | 0, .lst _, x, v, h, dx, r => by simp [okD] at h
  | n + 1, .lst l, x, v, h, dx, r => by
    obtain ⟨p, xs, rfl, hp, ds⟩ := den_lst.mp dx
    cases r
    obtain ⟨_, its, k, rv, _, e⟩ := I.rdl hp
    obtain ⟨as, ra⟩ := dens_reads I n (by simpa [okD] using h) ds rv
    exact ⟨_, .list e rfl rfl (by simpa using ra)⟩
  | 0, .tup _, x, v, h, dx, r => by simp [okD] at h
  | n + 1, .tup l, x, v, h, dx, r => by
    obtain ⟨p, xs, rfl, hp, ds⟩ := den_tupS dx
    cases r
    obtain ⟨its, rv, ⟨o, e, c, k, d⟩, _⟩ := I.tuple hp
    obtain ⟨as, ra⟩ := dens_reads I n (by simpa [okD] using h) ds rv
    exact ⟨_, .tuple e c d (by simpa using ra)⟩
  | n, .ty _, _, _, h, _, _ => by cases n <;> simp [okD] at h
  | n, .scr _, _, _, h, _, _ => by cases n <;> simp [okD] at h
  | n, .ins _ _ _, _, _, h, _, _ => by cases n <;> simp [okD] at h
theorem dens_reads {pins : List (Addr × Obj)} {σ : St} {H : Hp} {s : Shared} (I : Inv X pins σ H s) : ∀ (n : Nat) {ds : List D} {xs : List V} {vs : List Value}, okDs n ds = true → Dens X.K H ds xs → Vals xs vs → ∃ as, ReadsAll s.heap vs (pyDs ds) as
  | _, [], xs, vs, _, d, r => by
    rw [d.nil_of] at r
    cases r
    exact ⟨_, .nil⟩
  | n, d :: ds, xs, vs, h, dd, r => by
    rw [okDs, Bool.and_eq_true] at h
    obtain ⟨y, ys, rfl, a, b⟩ := dd.cons_of
    cases r with
    | cons r rr =>
      obtain ⟨as, ra⟩ := den_reads I n h.1 a r
      obtain ⟨bs, rb⟩ := dens_reads I n h.2 b rr
      exact ⟨_, .cons ra rb⟩
end
theorem op_eqM (hu : X.A.units + 64 < cLine) : OpR X (compareOp .Eq) (rEqM X.K false) := by
  intro pins s σ H x y v u Q I rx ry h
  obtain ⟨S, d, e, sm, dx, dy, cd, ce, q⟩ := h
  obtain ⟨as, ra⟩ := den_reads I 50 cd (denP_H sm dx) rx
  obtain ⟨bs, rb⟩ := den_reads I 50 ce (denP_H sm dy) ry
  obtain ⟨a1, a2⟩ := ok_can 50 d cd
  obtain ⟨b1, b2⟩ := ok_can 50 e ce
  have hm := Nat.min_le_left (pyD d).depth (pyD e).depth
  refine SeqAt.compareEq_reads ra rb a1 b1 (by omega) ⟨.bl _, H, I, rfl, ?_⟩
  rw [eqv_is 50 50 d e cd ce]
  exact q
theorem op_neM (hu : X.A.units + 64 < cLine) : OpR X (compareOp .NotEq) (rEqM X.K true) := by
  intro pins s σ H x y v u Q I rx ry h
  obtain ⟨S, d, e, sm, dx, dy, cd, ce, q⟩ := h
  obtain ⟨as, ra⟩ := den_reads I 50 cd (denP_H sm dx) rx
  obtain ⟨bs, rb⟩ := den_reads I 50 ce (denP_H sm dy) ry
  obtain ⟨a1, a2⟩ := ok_can 50 d cd
  obtain ⟨b1, b2⟩ := ok_can 50 e ce
  have hm := Nat.min_le_left (pyD d).depth (pyD e).depth
  refine SeqAt.compareNe_reads ra rb a1 b1 (by omega) ⟨.bl _, H, I, rfl, ?_⟩
  rw [eqv_is 50 50 d e cd ce]
  exact q
theorem call_lenM : CallR X (.builtin "len") (rLenM X.K) := call_len
theorem call_isiM : CallR X (.builtin "isinstance") (rIsiM X.K) := by
  intro pins s σ H xs us Q I r h
  obtain ⟨x, T, t, rfl, ht, hm, q⟩ := h
  obtain ⟨u, w', rfl, ru, rw'⟩ := r.two
  cases rw'
  have fin : ∀ tk : Nat, EP X pins σ Q (.bool (subM t T)) { s with toks := tk } := fun tk => ⟨.bl _, H, I.tok tk, rfl, q⟩
  cases x with
  | non => cases ht; exact isinst_ok I ru .non (kit_sub (by decide) hm) fin
  | bl b => cases ht; exact isinst_ok I ru (.bl b) (kit_sub (by decide) hm) fin
  | int i => cases ht; exact isinst_ok I ru (.int i) (kit_sub (by decide) hm) fin
  | str y => cases ht; exact isinst_ok I ru (.str y) (kit_sub (by decide) hm) fin
  | ref p =>
    cases ru
    rcases ht with ⟨rfl, xs, h⟩ | ⟨rfl, xs, h⟩
    · obtain ⟨_, its, n, rv, _, e⟩ := I.rdl h
      exact PySem.W.kia_one PySem.W.kitx_list I.kIn ⟨_, e, rfl⟩ (kit_sub (by decide) hm) (fun z => nomatch z) fin
    · obtain ⟨its, rv, ⟨o, e, c, _⟩, _⟩ := I.tuple h
      exact PySem.W.kia_one PySem.W.kitx_tuple I.kIn ⟨o, e, c⟩ (kit_sub (by decide) hm) (fun z => nomatch z) fin
  | _ => exact (show False from ht).elim
theorem mt_extM : MtM X "list.extend" rExtM := by
  intro pins s σ H x vs v us Q I rx rv h
  obtain ⟨l, b, xs, zs, rfl, rfl, hH, hB, hz, q⟩ := h
  cases rx
  obtain ⟨u, rfl, ru⟩ := rv.one
  cases ru
  obtain ⟨z, its, n, r, hl, e⟩ := I.lstM hH
  obtain ⟨z2, its2, n2, r2, hl2, e2⟩ := I.rdl hB
  have hsz : its.toArray.size + its2.toArray.size ≤ sizeLine := by rw [List.size_toArray, List.size_toArray]; omega
  have hlong : ¬ (!its.toArray.isEmpty && Builtin.List.listTooLong (its.toArray.size + its2.toArray.size)) = true := by
    rw [notLongL hsz, Bool.and_false]
    exact Bool.false_ne_true
  refine call_meets F.slot_list_extend ⟨_, e, rfl⟩ F.entry_list_extend (F.args_list_extend_2 _ _)
    (AutoSeq1.list_extend_list_list_0 l its.toArray n b its2.toArray n2 hlong (by rw [List.size_toArray]; omega) (by omega)) ⟨e, e2, ?_⟩
  refine ⟨.non, _, I.lset (its' := its ++ its2) hH e (by simp) (r.append r2) ?_, rfl, q⟩
  rw [List.length_append]
  omega
theorem call_sortM : CallR X (.builtin "sorted") (rSortM X.K) := by
  intro pins s σ H xs us Q I r h
  obtain ⟨p, yks, rfl, hS, h64, hk, k⟩ := h
  obtain ⟨u, rfl, ru⟩ := r.one
  cases ru
  obtain ⟨its, rv, pl, hz⟩ := I.list hS
  have hl : yks.length = its.length := by rw [← rv.length, List.length_map]
  have atI : ∀ i, i < its.length → ∃ yk, yks[i]? = some yk ∧ yks.getD i (.non, []) = yk ∧ RelV yk.1 (its.getD i Value.none) := fun i hi => by
    have ey : yks[i]? = some yks[i] := List.getElem?_eq_getElem (by omega)
    have ex : (yks.map (·.1))[i]? = some yks[i].1 := by rw [List.getElem?_map, ey]; rfl
    obtain ⟨v, ev, rl⟩ := rv.get ex
    exact ⟨_, ey, by rw [List.getD_eq_getElem?_getD, ey]; rfl, by rw [List.getD_eq_getElem?_getD, ev]; exact rl⟩
  have tup : ∀ i, i < its.length → Srt.TupI s.heap (its.getD i Value.none) (yks.getD i (.non, [])).2 ∧ (yks.getD i (.non, [])).2 ≠ [] := fun i hi => by
    obtain ⟨yk, e1, e2, rl⟩ := atI i hi
    obtain ⟨q, e3, e4, e5⟩ := hk _ (List.mem_of_getElem? e1)
    rw [e2]
    refine ⟨?_, e5⟩
    rw [e3] at rl
    have rl' : its.getD i Value.none = Value.ref q := rl
    obtain ⟨js, rj, ⟨o, ho, hc, n, hd⟩, _⟩ := I.tuple e4
    refine ⟨q, o, js.toArray, n, rl', ho, hc, hd, ?_⟩
    simpa using intsAre_of rj
  refine Srt.sorted_by (Srt.lexI_ord fun i => (yks.getD i (.non, [])).2) pl.isList (by omega) (Srt.known_tups tup) fun q hq ha => ?_
  obtain ⟨pv, pw⟩ := Srt.out_ok (vs := its) (d := Value.none) hq ha
  rw [← hl] at hq ha
  obtain ⟨py, wy⟩ := Srt.out_ok (vs := yks) (d := ((V.non, []) : V × List Int)) hq ha
  obtain ⟨e, at1⟩ := sortedAll_at s.heap its (Srt.outOf its q)
  have hv : Vals ((q.toList.map fun i => yks.getD i (.non, [])).map (·.1)) (q.toList.map fun i => its.getD i Value.none) := by
    have hb : ∀ i ∈ q.toList, i < its.length := fun i hi => by
      have : i < yks.length := by simpa using (Array.perm_iff_toList_perm.mp hq).mem_iff.mp hi
      omega
    revert hb
    generalize q.toList = L
    induction L with
    | nil => exact fun _ => .nil
    | cons i L ih =>
      intro hb
      refine .cons ?_ (ih fun j hj => hb j (List.mem_cons_of_mem _ hj))
      obtain ⟨yk, _, e2, rl⟩ := atI i (hb i List.mem_cons_self)
      dsimp only
      rw [e2]
      exact rl
  have fresh : s.heap.objs.size ≤ s.heap.objs.size + 1 := Nat.le_succ _
  refine ⟨.ref (s.heap.objs.size + 1), upd H (s.heap.objs.size + 1) (.lst ((q.toList.map fun i => yks.getD i (.non, [])).map (·.1))), I.laid (t' := s.toks) (fun b o hb => sortedAll_old hb) fresh ?_, rfl, ?_⟩
  · refine ⟨by rw [List.length_map, py.length_eq, sizeLine_eq]; omega, _, e, hv, at1⟩
  · refine k _ _ py (wy _ fun i j _ _ h => ?_) (I.hok.fresh fresh)
    rw [← lex_same]
    exact h
theorem call_sortedM : CallR X (.builtin "sorted") (rSortedM X.K) := call_sortedI.or call_sortM
end
end L2
namespace M
noncomputable def dStep (a : List Int) (k : Int) : List Int := if a.any (· == k) then a else a ++ [k]
noncomputable def dist (ns : List Int) : List Int := ns.foldl dStep []
end M
namespace L2
open PySem
section
variable {X : Cx}
end
end L2
namespace M
open PySem L2
section
variable {K : PySem.W.Frag}
end
end M
namespace L2
open PySem M
end L2
namespace M
open PySem L2
end M
namespace M
open PySem L2
@[simp] noncomputable def xLenSet (a : XE) : XE := fun ρ => (a ρ).bind fun d => match d with | .lst l => (intsOf l).bind fun ns => if ns.length < 4000 then some (.int ((dist ns).length : Nat)) else none | _ => none
end M
namespace L2
open PySem
section
variable {X : Cx} {o e : Expr} {es : List Expr} {f m : Str} {pos apos p : Pos} {ta : TE} {t : TA} {Ns : List Str} {k : Nat} {g C : Addr} {fd : FuncData} {ps : List Str} {sp : Sp}
structure ClsFn (K : PySem.W.Frag) (C : Addr) (m : Str) (f : Addr) : Prop where
  sp : PySem.W.specialIn K (.ref C) "__getattribute__" = some (some (.builtin "type.__getattribute__"))
  rd : PySem.W.readsIn K C (.type "type") = true
  fn : PySem.W.findCls K (.ref C) (.type "type") m = some (.val (.ref f))
  kp : PySem.W.keepIn K (.ref f) = true
end
end L2
namespace M
open PySem L2
section
variable {K : PySem.W.Frag} {S S' H H' : Hp}
noncomputable def fldD : List Str → List D → Str → Option D
  | n :: ns, d :: l, f => if f = n then some d else fldD ns l f
  | _, _, _ => none
@[simp] noncomputable def xFld (Ns : List Str) (f : Str) (e : XE) : XE := fun ρ => (e ρ).bind fun d => match d with | .ins N ns l => if Ns.contains N then fldD ns l f else none | _ => none
@[simp] noncomputable def xMeth (Ns : List Str) (m : Str) (g : List D → Option D) (e : XE) (a : XA) : XE := fun ρ => (e ρ).bind fun d => match d with | .ins N ns l => if Ns.contains N && !ns.contains m then (a ρ).bind fun ds => g (.ins N ns l :: ds) else none | _ => none
@[simp] noncomputable def xMake (N f : Str) (mi : List D → Option D) (a : XA) : XE := fun ρ => ((a ρ).bind mi).map fun d => .ins N [f] [d]
end
end M
namespace M
end M
namespace L2
open PySem PySem.Spec PyProof.Rows
section
variable {prog : Program} {w : World} {A : Around} {E : Value → Shared → Prop} {s : Shared}
end
section
variable {X : Cx}
end
end L2
namespace M
open PySem L2
section
variable {K : PySem.W.Frag}
end
end M
namespace L2
open PySem
theorem cmpok {XN : List Str} {sc scope : Scope} {N : List Str} {js : List (Option Nat)} (h1 : scope.kind = .function := by rfl) (h2 : ∀ y ∈ scope.names, y.2 ≠ .cell := by decide +kernel) (h3 : ∀ y ∈ scope.names, y.2 = .free → sc.names.lookup y.1 = some .cell ∨ sc.names.lookup y.1 = some .free := by decide +kernel)
    (h4 : ∀ y ∈ scope.names, y.2 = .local → scope.names.lookup y.1 = some .local := by decide +kernel) (h5 : js.length = N.length := by rfl) (h6 : ((N.zip js).all fun p => match p.2 with | none => true | some j => decide (XN[j]? = some p.1) && decide (scope.names.lookup p.1 = some .free)) = true := by decide +kernel) : CmpOk XN sc scope N js := ⟨h1, h2, h3, h4, h5, h6⟩
end L2
namespace M
open PySem L2
@[simp] noncomputable def xCallD (m : List D → Option D) (e : D) (a : XA) : XE := fun ρ => (a ρ).bind fun ds => m (ds ++ [e])
section
variable {K : PySem.W.Frag}
end
end M
namespace L2
open PySem
structure FunD (K : PySem.W.Frag) (x qual : Str) (st : Stmt) (T : Addr) (f : Addr) (fd : FuncData) : Prop where
  ex : ∃ (oc : Value) (od : Option Addr) (kV doc pm : Value) (an : Option Addr) (cdv ct : Value) (osl : Array (Option Value)), fd = PySem.W.fnOf x qual (defArgs st) (defBody st) (defScope st) (.ref T) kV doc pm an cdv ct ∧ K.lookup f = some ⟨oc, od, .func fd, osl⟩ ∧ PySem.W.codeIn K cdv qual = true
section
variable {P : Program} {w : World} {K : PySem.W.Frag} {mg : Str → Option Value} {base : Heap}
theorem FunD.ok {x qual : Str} {st : Stmt} {T f : Addr} {fd : FuncData} {N ps : List Str} {k : Nat} {sp : Sp} (F : FunD K x qual st T f fd) (S : FnScope N ps (defScope st)) (len : ∀ vs H Q E, sp vs H Q E → vs.length = ps.length)
    (hb : ∀ (cdv : Value) (A : Around) (outer : List Env) (s : Shared) (H : Hp) (vs : List V) (Q : VK) (E : XK), Room k (A.deeper (PyProof.Rows.envOfC qual (defScope st) s.heap.objs.size f cdv)) → sp vs H Q E → ∃ t, PSs (cxOf CX0 P w K mg base N qual (defScope st) f cdv A outer s H E).nox (defBody st) t ∧ t { nx := fun _ H' => Q .non H', rt := Q } (start N vs) H) : FnOk P w K mg base CX0 (k + 1) f fd ps sp := by
  obtain ⟨oc, od, kV, doc, pm, an, cdv, ct, osl, rfl, lk, hcd⟩ := F.ex
  exact fn_of lk hcd S len fun A outer s H vs Q E hr hsp => by obtain ⟨t, h, q⟩ := hb cdv A outer s H vs Q E hr hsp; exact ⟨t, h.nox, q⟩
end
end L2
namespace L2
open PySem PySem.Spec PyProof.Rows
structure CmpOkC (XN : List Str) (sc scope : Scope) (N : List Str) (js : List (Option Nat)) (t : Str) : Prop where
  kind : scope.kind = .function
  free : ∀ y ∈ scope.names, y.2 = .free → sc.names.lookup y.1 = some .cell ∨ sc.names.lookup y.1 = some .free
  loc : ∀ y ∈ scope.names, y.2 = .local → scope.names.lookup y.1 = some .local
  len : js.length = N.length
  ix : ((N.zip js).all fun p => match p.2 with | none => true | some j => decide (XN[j]? = some p.1) && decide (scope.names.lookup p.1 = some .free)) = true
  cell1 : ∀ y ∈ scope.names, y.2 = .cell → y.1 = t
  tl : scope.names.lookup t = some .cell
  laid : ∀ n acc, cellsFrom n scope.names acc = (t, n) :: acc
  pushed : ∀ h, pushCells h scope.names = h.push { cls := .type "cell", data := .cell none }
section
variable {X : Cx} {pins : List (Addr × Obj)} {σ : St} {H : Hp} {s : Shared} {XN N : List Str} {sc scope : Scope} {js : List (Option Nat)}
variable {tg iter elt : Expr} {ifs : List Expr} {pos : Pos} {wi : TI} {g : TG} {tt : TIf} {te : TE}
end
end L2
namespace RevT
open PySem PySem.Calls PyProof.Rows
section
variable {prog : Program} {w : World} {A : Around} {E : Value → Shared → Prop} {s : Shared}
end
end RevT
namespace L2
open PySem PySem.Spec PyProof.Rows
section
variable {X : Cx} {tg : Expr}
end
end L2
namespace M
open PySem L2
section
variable {K : PySem.W.Frag} {S S' H H' : Hp}
noncomputable def revD : List D → Option (List D)
  | [.tup l] => some l.reverse | _ => none
@[simp] noncomputable def xRevI (a : XA) : XA := fun ρ => (a ρ).bind revD
end
end M
namespace L2
open PySem
structure IsC (K : PySem.W.Frag) (C : Addr) : Prop where
  cl : Cls K C
  ha : PySem.W.findIn K (.ref C) "__class__" = some (some (.builtin "object.__class__"))
  hn : PySem.W.specialIn K (.builtin "object.__class__") "__get__" = some (some (.builtin "getset_descriptor.__get__"))
  htk : PySem.W.takesIn K (.builtin "object.__class__") = some true
  hm : PySem.W.mroIn K C (.type "object") = some true
section
variable {X : Cx} {e : Expr} {pos p p' : Pos} {ta : TE} {T : Addr} {N : Str} {ans : List (Str × Bool)}
end
end L2
namespace M
open PySem L2
section
variable {K : PySem.W.Frag} {S S' H H' : Hp}
@[simp] noncomputable def xIsiN (ans : List (Str × Bool)) (e : XE) : XE := fun ρ => (e ρ).bind fun d => match d with | .ins N _ _ => (ans.lookup N).map .bl | _ => none
end
end M
namespace L2
open PySem PySem.Spec PyProof.Rows Builtin Builtin.ObjectAttr Builtin.Getset_descriptor
noncomputable def XAt (C a : Addr) (h : Heap) : Prop := ∃ o vs, h.get? a = some o ∧ o.cls = .ref C ∧ o.data = .fields vs
noncomputable abbrev excO (C a : Addr) : HO := .ext (XAt C a)
structure XCls (K : PySem.W.Frag) (C : Addr) : Prop where
  cl : PySem.W.hasDictIn K C = true
  ga : PySem.W.findIn K (.ref C) "__getattribute__" = some (some (.builtin "BaseException.__getattribute__"))
  gx : PySem.W.findIn K (.ref C) "__getattr__" = some none
  ca : PySem.W.findIn K (.ref C) "__class__" = some (some (.builtin "object.__class__"))
  hn : PySem.W.specialIn K (.builtin "object.__class__") "__get__" = some (some (.builtin "getset_descriptor.__get__"))
  tk : PySem.W.takesIn K (.builtin "object.__class__") = some true
  ob : PySem.W.mroIn K C (.type "object") = some true
  be : PySem.W.mroIn K C (.type "BaseException") = some true
section
variable {prog : Program} {w : World} {A : Around} {E : Value → Shared → Prop} {s : Shared} {K : PySem.W.Frag} {C a : Addr}
theorem XAt.type {M : Model} {h : Heap} (x : XAt C a h) : PySem.W.Looks M h (typeOf (.ref a)) (.ref C) := by
  obtain ⟨o, vs, e, c, d⟩ := x
  exact c ▸ (PySem.W.Looks.ld e).andThen .now
theorem exc_find {M : Model} {h : Heap} (X : K.In h) (c : XCls K C) : PySem.W.Looks M h (find (.ref a) (.ref C) "__class__") (.bind (.builtin "getset_descriptor.__get__") (.builtin "object.__class__")) := by
  refine (PySem.W.looks_findIn (M := M) X c.ca).andThen ((show PySem.W.Looks M h (getOf (some (.builtin "object.__class__"))) (some (.builtin "getset_descriptor.__get__")) from PySem.W.looks_specialIn X c.hn).andThen ?_)
  exact (show PySem.W.Looks M h (dataDescriptor? (some (.builtin "object.__class__")) (some (.builtin "getset_descriptor.__get__"))) (some (.builtin "getset_descriptor.__get__", .builtin "object.__class__")) from (PySem.W.looks_takesIn (M := M) X c.tk).andThen .now).andThen (PySem.W.Looks.tag .now)
theorem exc_class_get {tp : Value} {R : Result → Shared → Prop} (X : K.In s.heap) (c : XCls K C) (x : XAt C a s.heap) (h : R (.ok (.ret (.ref C))) s) :
    codeAny (model prog w) A (.call (.builtin "getset_descriptor.__get__") ⟨[.builtin "object.__class__", .ref a, tp], []⟩) R s := by
  obtain ⟨hp, gn, dr, tt, oss⟩ := s
  have T0 := x.type (M := model prog w)
  have T1 := PySem.W.looks_mroIn (M := model prog w) X c.ob
  refine codeAny_call_builtin PySem.W.KF.slot_gs.plain PySem.W.KF.entry_gs (PySem.W.KF.slot_gs.check _ _ _ _ _ _ _ _ PySem.W.KF.type_class (PySem.W.KF.args_gs _ _ _) ?_)
  unfold Builtin.«getset_descriptor.__get__» descrGet
  rw [PySem.W.dga_obj]
  refine wpAny_bind (wpAny_pure ?_)
  unfold descrGetter descrCheckInstance descrNameAndClass isInstance
  simp only [PySem.W.KF.owner_class]
  repeat lk
  refine ⟨Code.quiet_builtin _ (by decide +kernel), codeAny_builtin PySem.W.KF.entry_class ?_⟩
  unfold Builtin.«object.__class__» shownTypeOf
  repeat lk
  exact h
theorem exc_ga_check {nv : Value} {Q : Unit → Shared → Prop} {M : Model} (X : K.In s.heap) (c : XCls K C) (x : XAt C a s.heap) (h : Q () s) : wpAny M A (checkBuiltinCall "BaseException.__getattribute__" ⟨[.ref a, nv], []⟩) Q E s := by
  obtain ⟨hp, gn, dr, tt, oss⟩ := s
  have T0 := x.type (M := M)
  have T1 := PySem.W.looks_mroIn (M := M) X c.be
  have kk : builtinKind "BaseException.__getattribute__" = some .slot := by decide +kernel
  have sp : splitId "BaseException.__getattribute__" = some ("BaseException", "__getattribute__") := by decide +kernel
  have ar := F.args_bexc_ga (.ref a) nv
  simp only [checkBuiltinCall, kk, sp]
  refine wpAny_bind ?_
  unfold isInstance
  repeat (first | lk | wp_step)
  exact h
theorem exc_class {Q : Option Value → Shared → Prop} (X : K.In s.heap) (c : XCls K C) (x : XAt C a s.heap) (h : Q (some (.ref C)) { s with toks := s.toks + 1 }) : wpAny (model prog w) A (getAttr? (.ref a) "__class__") Q E s := by
  obtain ⟨hp, gn, dr, tt, oss⟩ := s
  have T0 := x.type (M := model prog w)
  have T1 := PySem.W.looks_findIn (M := model prog w) X c.ga
  have T2 := PySem.W.looks_findIn (M := model prog w) X c.gx
  have T3 := exc_find (M := model prog w) (a := a) X c
  unfold getAttr? getAttrBy? getAttrBy
  refine wpAny_bind (wpAny_mkText (wpAny_bind (wpAny_attempt (wpAny_holding (wpAny_bind (T0.at (wpAny_bind (T1.at ?_))))))))
  show wpAny _ _ (getAttrByItsOwn _ _ _ _ _ _) _ _ _
  unfold getAttrByItsOwn hookBefore
  refine wpAny_bind (T2.at ?_)
  refine wpAny_bind (wpAny_attempt (wpAny_holding ?_))
  show wpAny _ _ (boundAndCalled _ _ _) _ _ _
  have hbd := PySem.F.attr_ValueError.ga.bind (.ref a)
  unfold boundAndCalled
  rw [hbd]
  refine wpAny_bind (wpAny_pure ?_)
  refine wpAny_call (codeAny_call_builtin PySem.F.attr_ValueError.ga.plain F.entry_bexc_ga (exc_ga_check X c x ?_))
  unfold Builtin.«object.__getattribute__»
  repeat (first | with_reducible refine wpAny_call ?_ | lk | wp_step)
  refine exc_class_get (s := ⟨hp, gn, dr, tt + 1, oss⟩) X c x ?_
  refine wpAny_pure (wpAny_pure ?_)
  exact wpAny_pure h
theorem kitx_exc (c : XCls K C) : PySem.W.KitX K (.ref a) (.ref C) (XAt C a) where
  ty := fun _ _ _ x => x.type
  it := fun M h X _ => by
    obtain ⟨cd, hc, _⟩ := PySem.W.any_some c.cl
    unfold PySem.W.clsIn at hc
    split at hc
    · rename_i ho
      intro A' Q' E' s' k q
      unfold isType loadHead
      exact wpAny_bind (wpAny_loadPart (k _ _ (X _ _ ho)) (wpAny_pure q))
    · cases hc
  ne := fun h tp dd its n sl X htp => by
    obtain ⟨cd, hc, _⟩ := PySem.W.any_some c.cl
    refine Bool.eq_false_iff.mpr fun q => ?_
    obtain rfl : C = tp := Value.ref.inj (beq_iff_eq.mp q)
    unfold PySem.W.clsIn at hc
    split at hc
    · rename_i ho
      have z := (X _ _ ho).symm.trans htp
      cases z
    · cases hc
  ca := fun X x k => exc_class X c x k
end
end L2
namespace L2
open PySem PySem.Spec PyProof.Rows
theorem ObjOk.at_ {P : Program} {w : World} {H : Hp} {h : Heap} {a : Addr} {o : HO} (x : ObjOk P w H h a o) : ∃ u, h.get? a = some u := by
  cases o with
  | lst xs => obtain ⟨_, _, _, _, e⟩ := x; exact ⟨_, e⟩
  | tup xs => obtain ⟨_, _, _, _, e, _⟩ := x; exact ⟨_, e⟩
  | dK kvs => obtain ⟨_, _, _, _, o, _, _, e, _⟩ := x; exact ⟨_, e⟩
  | dT kvs => obtain ⟨_, _, _, _, o, _, _, e, _⟩ := x; exact ⟨_, e⟩
  | set S n => obtain ⟨o, _, _, _, e, _⟩ := x; exact ⟨_, e⟩
  | ins C dx fs => obtain ⟨_, _, _, e, _⟩ := x; exact ⟨_, e⟩
  | own y => exact x
  | xd fs => obtain ⟨_, ⟨_, _, _, e, _⟩, _⟩ := x; exact ⟨_, e⟩
  | rng lo hi => obtain ⟨_, _, _, e⟩ := x; exact ⟨_, e⟩
  | frz ob u => exact ⟨_, x.1⟩
  | tbl ps => exact ⟨_, (show h.get? a = some _ from x)⟩
  | met f y => exact ⟨_, (show h.get? a = some _ from x)⟩
  | ext φ => exact x.2.1
noncomputable def CXe (P : Program) (w : World) : CXT := fun outer H s E v s' => ∃ (e : Addr) (cls a0 : Value) (H' : Hp) (B : Heap), v = .ref e ∧ s'.os = s.os ∧ AllBare s'.gens ∧ Un (frs outer) [] H H' s.heap s'.heap ∧ HOk P w H' s'.heap ∧ E cls none H' ∧
  Heap.FlyingW B outer e cls a0 s'.heap ∧ (∀ b u, H' b = some u → ∃ o, B.get? b = some o) ∧ ∀ b o, s.heap.get? b = some o → b ∉ frs outer → ∃ o', B.get? b = some o'
section
variable {H H' : Hp} {B h0 h h' : Heap} {fs : List Addr}
theorem hok_fly {P : Program} {w : World} (x : HOk P w H h) (hB : B.StaysIn h) (hB' : B.StaysIn h') (k : ∀ b u, H b = some u → ∃ o, B.get? b = some o) : HOk P w H h' := fun a o ha =>
  (x a o ha).stay (fun b u hb q => by
    obtain ⟨v, hv⟩ : ∃ v, H b = some v := by
      rcases hb with rfl | hb
      · exact ⟨o, ha⟩
      · exact ⟨_, hb⟩
    obtain ⟨ob, q1⟩ := k b v hv
    have q2 := hB b ob q1
    rw [q] at q2
    cases q2
    exact hB' b _ q1) (fun _ q => q) fun _ _ q => q
theorem fly_un (un : Un fs [] H H' h0 h) (k2 : ∀ b o, h0.get? b = some o → b ∉ fs → ∃ o', B.get? b = some o') (nf : ∀ b ∈ fs, ∀ o, h0.get? b = some o → ∀ vs, o.data ≠ .fields vs) (fr : ∀ b ∈ fs, H b = none)
    (hB : B.StaysIn h) (hB' : B.StaysIn h') (sm : h.UpToSlots h') : Un fs [] H H' h0 h' := by
  have no : ∀ b : Addr, b ∉ ([] : List Addr) := fun b z => by cases z
  have both : ∀ b o, h0.get? b = some o → b ∉ fs → ∃ o', h.get? b = some o' ∧ h'.get? b = some o' := fun b o q z => by
    obtain ⟨o', q'⟩ := k2 b o q z
    exact ⟨o', hB b o' q', hB' b o' q'⟩
  have slots : ∀ b o, h0.get? b = some o → b ∈ fs → ∃ sl, h'.get? b = some { o with slots := sl } := fun b o q z => by
    obtain ⟨sl, q2⟩ := un.slot b o q (fr b z) z (no b)
    obtain ⟨sl', q3⟩ := sm b _ q2 (nf b z o q)
    exact ⟨sl', q3⟩
  refine ⟨fun b o q n z _ => ?_, fun b o q _ z _ => slots b o q z, un.free, fun b o q _ => ?_, un.tups, un.frzs, un.tbls⟩
  · obtain ⟨o', q1, q2⟩ := both b o q z
    have q3 := un.keep b o q n z (no b)
    rw [q3] at q1
    cases q1
    exact q2
  · by_cases z : b ∈ fs
    · obtain ⟨sl, q1⟩ := slots b o q z
      exact ⟨_, q1⟩
    · obtain ⟨o', _, q2⟩ := both b o q z
      exact ⟨o', q2⟩
end
section
variable {X : Cx} {pins : List (Addr × Obj)} {σ : St} {H : Hp} {s : Shared} {E : XK} {B : Heap} {e : Addr} {cls a0 : Value}
theorem Inv.nf (I : Inv X pins σ H s) : ∀ b ∈ X.fs, ∀ o, X.s₀.heap.get? b = some o → ∀ vs, o.data ≠ .fields vs := fun b z o q => by
  obtain ⟨_, o1, q1, nf⟩ := I.ok.funs.mem z
  rw [q] at q1
  cases q1
  exact nf
theorem Inv.nfS (I : Inv X pins σ H s) : ∀ b ∈ frs X.stack, ∀ o, s.heap.get? b = some o → ∀ vs, o.data ≠ .fields vs := fun b z o q => by
  obtain ⟨_, o1, q1, nf⟩ := I.stack.mem z
  rw [q] at q1
  cases q1
  exact nf
theorem fly_out {h' : Heap} (I : Inv X pins σ H s) (hex : X.ex = []) (hE : E cls none H) (hB : B.StaysIn s.heap) (k1 : ∀ b u, H b = some u → ∃ o, B.get? b = some o)
    (k2 : ∀ b o, X.s₀.heap.get? b = some o → b ∉ X.fs → ∃ o', B.get? b = some o') (fl : Heap.FlyingW B X.outer e cls a0 h') (sm : s.heap.UpToSlots h') : CXe X.prog X.w X.outer X.H₀ X.s₀ E (.ref e) { s with heap := h' } :=
  ⟨e, cls, a0, H, B, rfl, I.os, I.bare, fly_un (by have := I.base; rw [hex] at this; exact this) k2 I.nf I.ok.frf hB fl.1 sm, hok_fly I.hok hB fl.1 k1, hE, fl, k1, k2⟩
theorem Inv.notStk (I : Inv X pins σ H s) {b : Addr} {o : Obj} (q : X.s₀.heap.get? b = some o) (z : b ∉ X.fs) : b ∉ frs X.stack := fun hb => by
  rcases List.mem_cons.mp (I.stkSub b hb) with r | r
  · exact absurd (Heap.lt_size q) (by rw [r]; exact Nat.not_lt.mpr I.ok.above)
  · exact z r
end
section
variable {P : Program} {w : World} {K : PySem.W.Frag} {mg : Str → Option Value} {base : Heap} {N : List Str} {qual : Str} {scope : Scope} {f : Addr} {cdv : Value} {A : Around} {outer : List Env} {s : Shared} {H : Hp} {E : XK}
theorem pass_e : Passes (CXe P w) (cxOf (CXe P w) P w K mg base N qual scope f cdv A outer s H E) E := by
  intro pins σ H1 s1 v s' I hx
  obtain ⟨e, cls, a0, H', B, rfl, ho, hg, un, hok, hE, fl, k1, k2⟩ := hx
  have I2 := I.call' ho un hok hg (fun b z => by cases z)
  refine wpAny_leaves_onW I.ok.frames rfl fl fun h' fl' sm => fly_out (X := cxOf (CXe P w) P w K mg base N qual scope f cdv A outer s H E) I2 rfl hE fl.1 k1 (fun b o q z => ?_) fl' sm
  obtain ⟨o1, q1⟩ := I.base.there b o q (by intro y; cases y)
  exact k2 b o1 q1 (I.notStk q z)
noncomputable def Raises (X : Cx) (E : XK) : Prop := ∀ (pins : List (Addr × Obj)) (σ : St) (H : Hp) (s : Shared) (h' : Heap) (e C : Addr) (vs : List Value), Inv X pins σ H s → Heap.MadeExcOf s.heap h' e (.ref C) vs → E (.ref C) none H → X.xe (.ref e) { s with heap := h' }
theorem raise_e : Raises (cxOf (CXe P w) P w K mg base N qual scope f cdv A outer s H E) E := by
  intro pins σ H1 s1 h' e C vs I hx hE
  have hin : ∀ env ∈ (cxOf (CXe P w) P w K mg base N qual scope f cdv A outer s H E).stack, ∀ b, env.frame = some b → b ∈ frs (cxOf (CXe P w) P w K mg base N qual scope f cdv A outer s H E).stack := fun env he b hb => List.mem_filterMap.mpr ⟨env, he, hb⟩
  have I2 := I.kept (t' := s1.toks) hx.keeps
  refine wpAny_leaves_madeW (base := PySem.W.hideAll s1.heap (frs (cxOf (CXe P w) P w K mg base N qual scope f cdv A outer s H E).stack)) I.ok.frames rfl (fun b o q => PySem.W.of_hideAll _ q) (PySem.W.funFrames_hide I.stack hin) hx fun h2 t fl _ _ sm => ?_
  refine fly_out (X := cxOf (CXe P w) P w K mg base N qual scope f cdv A outer s H E) (s := { s1 with heap := h' }) I2 rfl hE (fun b o q => hx.keeps b o (PySem.W.of_hideAll _ q)) (fun b u q => ?_) (fun b o q z => ?_) fl sm
  · obtain ⟨o, q1⟩ := (I.hok b u q).at_
    exact ⟨o, PySem.W.hideAll_get _ q1 fun hb => by rw [I.stkFree b hb] at q; cases q⟩
  · obtain ⟨o1, q1⟩ := I.base.there b o q (by intro y; cases y)
    exact ⟨o1, PySem.W.hideAll_get _ q1 (I.notStk q z)⟩
end
theorem exc_obj {K : PySem.W.Frag} {h : Heap} {C : Addr} {bmB : List Value} {newId : String} (X : K.In h) (q : PySem.W.excIn K C bmB newId = true) : ∃ bm N nm qn bs hdct sn sub ab col dd k0 k1 k2 k3 k5 mN,
    h.get? C = some (excClassObj nm qn C N bs bm hdct sn sub ab col dd k0 k1 k2 k3 k5 newId) ∧ h.Ns N mN ∧ mN "__init__" = none ∧ OwnTail h bmB bm := by
  unfold PySem.W.excIn at q
  split at q <;> try (cases q; done)
  rename_i dd cd sl ho
  split at q <;> try (cases q; done)
  rename_i C' bm k0 k1 k2 k3 n k5 hm hs
  simp only [Bool.and_eq_true, beq_iff_eq, Bool.not_eq_true'] at q
  obtain ⟨⟨⟨⟨⟨rfl, rfl⟩, qd⟩, qt⟩, qo⟩, qi⟩ := q
  obtain ⟨nm, bs, mro, ns, qn, hd, sn, sub, ab, col, del⟩ := cd
  obtain ⟨l⟩ := sl
  dsimp only at hm hs qd qo qi
  subst hm hs qd
  exact ⟨bm, ns, nm, qn, bs, hd, sn, sub, ab, col, dd, k0, k1, k2, k3, k5, _, X _ _ ho, .of_isNs (PySem.W.isNs_of_in X qo), PySem.W.nsMap_none_of_in X qo qi, PySem.W.tail_of_in X qt⟩
abbrev bmV : List Value := [.type "ValueError", .type "Exception", .type "BaseException", .type "object"]
noncomputable def tRaise (K : PySem.W.Frag) (N : Str) (te : TE) (E : XK) : TS := fun _ σ H => ∀ C, PySem.W.nsIn K mainGlobals N = some (some (.ref C)) → tCons te tNil σ H fun vs H1 => vs.length = 1 ∧ E (.ref C) none H1
section
variable {X : Cx} {E : XK} {x : Str} {e : Expr} {te : TE} {np cpos pos : Pos}
theorem ps_raise (hz : Raises X E) (hE : ∃ C : Addr, PySem.W.nsIn X.K mainGlobals x = some (some (.ref C)) ∧ PySem.W.excIn X.K C bmV "ValueError.__new__" = true ∧ X.mg x = some (.ref C)) (hh : X.A.handled = none) (hg : Gl X x) (he : PE X e te)
    (hdb : (x == ("__debug__" : Str)) = false := by decide) (h1 : starEach [e] X.env = (false, eval e X.env) :: starEach [] X.env := by rfl) (h2 : (backTo cpos (starEach [] X.env)).any (·.1) = false := by rfl) :
    PS X (.Raise (some (.Call (.Name x np) [e] [] cpos)) none pos) (tRaise X.K x te E) := by
  intro pins s σ H D I h
  obtain ⟨C, hN, hq, hm⟩ := hE
  have h := h C hN
  obtain ⟨tl, N, nm, q, bs, hdct, sn, sub, ab, col, dd, k0, k1, k2, k3, k5, mN, hC, hNs, hni, T⟩ := exc_obj I.ok.mod.kin hq
  refine wpAny_Raise_call_subT (C := C) (nm := nm) (q := q) (N := N) (bs := bs) (bm := tl) (hdct := hdct) (sn := sn) (sub := sub) (ab := ab) (col := col) (dd := dd) (k0 := k0) (k1 := k1) (k2 := k2) (k3 := k3) (k5 := k5)
    PySem.F.excBase_ValueError (mN := mN) (T.hasType PySem.F.excBase_ValueError.hasBase) hh (by rw [h1]; show (false || (backTo cpos (starEach [] X.env)).any (·.1)) = false; rw [h2]; rfl) hni (ld_glob I hg hm ⟨rfl, ?_⟩ hdb)
  have hp := pa_cons (X := X) he pa_nil h1 cpos pins s σ H (fun vs H1 => vs.length = 1 ∧ E (.ref C) none H1) I h
  rw [h1] at hp ⊢
  exact Calls.evalArgs_plain (thn hp fun us s2 ⟨vs, H2, I2, r, ql, q2⟩ => ⟨rfl, by rw [← r.length, ql]; exact Nat.le_trans (show 1 ≤ 1000 by decide) (by rw [sizeLine_eq]; decide), I2.bk _ _ hC, hNs.keeps I2.bk, T.keeps I2.bk, fun h' e' hx => hz pins σ H2 s2 h' e' C us I2 hx q2⟩)
end
end L2
namespace L2
open PySem PySem.Spec PyProof.Rows
noncomputable abbrev Cx.hold (X : Cx) (e : Addr) : Cx := { X with A := X.A.mark (some (.ref e)), calm := false, xe := fun _ _ => False }
noncomputable abbrev Cx.pin (X : Cx) (ps : List (Addr × Obj)) : Cx := { X with pn := X.pn ++ ps }
section
variable {X : Cx} {pins : List (Addr × Obj)} {σ : St} {H H' : Hp} {s s' : Shared} {e : Addr}
theorem Cx.Ok.hold (ok : X.Ok) (e : Addr) : (X.hold e).Ok :=
  ⟨ok.mod, ok.kind, ok.glob, ok.blt, ok.above, ok.inj, ok.has, ok.cab, (fun z => by cases z), ok.frames, ok.stk, ok.exf, ok.bs, ok.bsz, ok.noex, ok.exfs, ok.funs, ok.frf⟩
theorem Inv.hold (I : Inv X pins σ H s) (e : Addr) : Inv (X.hold e) pins σ H s := ⟨I.ok.hold e, I.os, I.bare, I.base, I.loc, I.cell, I.free, I.freeC, I.pin, I.hok, I.len⟩
theorem Inv.unhold (ok : X.Ok) (I : Inv (X.hold e) pins σ H s) : Inv X pins σ H s := ⟨ok, I.os, I.bare, I.base, I.loc, I.cell, I.free, I.freeC, I.pin, I.hok, I.len⟩
theorem Inv.toPin (I : Inv X pins σ H s) : Inv (X.pin pins) [] σ H s :=
  ⟨⟨I.ok.mod, I.ok.kind, I.ok.glob, I.ok.blt, I.ok.above, I.ok.inj, I.ok.has, I.ok.cab, I.ok.hd, I.ok.frames, I.ok.stk, I.ok.exf, I.ok.bs, I.ok.bsz, I.ok.noex, I.ok.exfs, I.ok.funs, I.ok.frf⟩, I.os, I.bare, I.base, I.loc, I.cell, I.free, I.freeC, fun p hp => I.pin p (by rw [List.append_nil] at hp; exact hp), I.hok, I.len⟩
theorem Inv.ofPin {ps : List (Addr × Obj)} (ok : X.Ok) (I : Inv (X.pin pins) ps σ H s) : Inv X pins σ H s :=
  ⟨ok, I.os, I.bare, I.base, I.loc, I.cell, I.free, I.freeC, fun p hp => I.pin p (List.mem_append_left _ hp), I.hok, I.len⟩
theorem gone_ok {M : Model} {A : Around} {E : Value → Shared → Prop} {i : Nat} {n : Str} {pos : Pos} {Q : Unit → Shared → Prop} (I : Inv X pins σ H s) (hN : X.N.Nodup) (hi : X.N[i]? = some n) (hk : X.env.kindOf n = some .local)
    (h : ∀ s', Inv X pins (σ.set i none) H s' → Q () s') : wpAny M A (do bindName X.env n .none; unbindBehindTheSuite X.env n pos) Q E s := by
  have hcls : (X.env.scope.kind == .class || (X.env.scope.kind == .module && X.env.locals != X.env.globals)) = false := by rw [I.ok.kind]; rfl
  obtain ⟨m, hn, hl⟩ := id I.loc
  refine wpAny_bind (wpAny_bindName (wpAny_storeName_local hk hn (fun h1 hn1 hs1 => ?_) hcls))
  unfold unbindBehindTheSuite
  refine wpAny_onRaise ?_
  unfold unbindName
  refine wpAny_bind (wpAny_point (wpAny_bind ?_))
  unfold deleteName
  simp only [hk, hcls]
  rw [if_neg (by decide)]
  refine wpAny_bind (wpAny_nsDel_keeps hn1 fun h2 v hn2 hs2 => ?_)
  simp only [if_true, Option.isSome_some, Bool.not_true, Bool.false_eq_true, if_false]
  have hs := hs1.trans hs2
  have cne := I.cne
  obtain ⟨oL, _, _, hoL, _⟩ := id hn
  refine wpAny_pure (wpAny_point (h _ ⟨I.ok, I.os, I.bare, ⟨fun b o q z hb hx => ?_, fun b o q z hb hx => ?_, I.base.free, fun b o q hx => ?_, I.base.tups, I.base.frzs, I.base.tbls⟩, ⟨_, hn2, fun j y v' e1 e2 e3 => ?_⟩, fun y c q => ?_, I.free, I.freeC, fun p hp => ?_, fun b ob q => ?_, by rw [List.length_set]; exact I.len⟩))
  · exact (hs.2 b (Nat.ne_of_lt (Nat.lt_of_lt_of_le (Heap.lt_size q) I.ok.above))).trans (I.base.keep b o q z hb hx)
  · obtain ⟨sl, q1⟩ := I.base.slot b o q z hb hx
    exact ⟨sl, (hs.2 b (Nat.ne_of_lt (Nat.lt_of_lt_of_le (Heap.lt_size q) I.ok.above))).trans q1⟩
  · obtain ⟨o', q1⟩ := I.base.there b o q hx
    exact ⟨o', (hs.2 b (Nat.ne_of_lt (Nat.lt_of_lt_of_le (Heap.lt_size q) I.ok.above))).trans q1⟩
  · have hj : j ≠ i := fun z => by
      subst z
      by_cases hlt : j < σ.length
      · rw [List.getElem?_set_self hlt] at e2; cases e2
      · rw [List.getElem?_eq_none (by rw [List.length_set]; omega)] at e2; cases e2
    rw [List.getElem?_set_ne (Ne.symm hj)] at e2
    have hy : y ≠ n := fun z => hj (nodup_ix hN e1 (z ▸ hi))
    obtain ⟨u', r', q⟩ := hl j y v' e1 e2 e3
    refine ⟨u', r', ?_⟩
    rcases q with ⟨k, q⟩ | ⟨k, c, q, z⟩
    · exact .inl ⟨k, by simp [hy, q]⟩
    · exact .inr ⟨k, c, q, z.sameBut hs (cne y c q)⟩
  · obtain ⟨w', z⟩ := I.cell y c q
    exact ⟨w', z.sameBut hs (cne y c q)⟩
  · obtain ⟨q, z, ne, nf, d⟩ := I.pin p hp
    exact ⟨(hs.2 p.1 ne).trans q, z, ne, nf, d⟩
  · refine (I.hok b ob q).stay (fun c w' hc z => (hs.2 c ?_).trans z) (fun _ z => z) fun _ _ z => z
    rintro rfl
    rcases hc with rfl | hc
    · rw [I.free] at q; cases q
    · rw [I.free] at hc; cases hc
end
noncomputable def tTry (K : PySem.W.Frag) (L : List Str) (i : Nat) (tb : XK → TS) (ts : TS) : TS := fun D σ H =>
  tb (fun cls _ H' => ∃ N C, N ∈ L ∧ cls = .ref C ∧ PySem.W.nsIn K mainGlobals N = some (some (.ref C)) ∧ ∀ e, H' e = none →
    ts { nx := fun σ' H2 => D.nx (σ'.set i none) H2, rt := fun _ _ => False } ((List.replicate σ.length none).set i (some (.ref e))) (upd H' e (excO C e))) D σ H
section
variable {X : Cx} {body suite : List Stmt} {b0 : Stmt} {x n : Str} {i : Nat} {L : List Str} {tb : XK → TS} {ts : TS} {np hp pos : Pos}
theorem ps_try (hst : X.stack = X.env :: X.outer) (hfr : X.env.frame = some X.env.locals) (hN : X.N.Nodup) (hi : X.N[i]? = some n) (hl : X.env.kindOf n = some .local) (hm : ∃ T : Addr, X.mg x = some (.ref T) ∧ ∀ N ∈ L, ∀ C : Addr, PySem.W.nsIn X.K mainGlobals N = some (some (.ref C)) → PySem.W.exmOne X.K (.ref C) (.ref T) = some true) (hg : Gl X x)
    (hb : ∀ (ps : List (Addr × Obj)) (W : Value → Shared → Prop) (E : XK), Passes (CXe X.prog X.w) ((X.pin ps).wish W) E → PSs ((X.pin ps).wish W) body (tb E)) (hs : ∀ e, PSs (X.hold e) (b0 :: suite) ts) (hdb : (x == ("__debug__" : Str)) = false := by decide)
    (hf : X.fn n = true ∨ X.env.scope.names.lookup n = some .local := by first | exact .inl rfl | exact .inr rfl | assumption) :
    PS X (.Try body [.ExceptHandler (some (.Name x np)) (some n) (b0 :: suite) hp] [] [] pos) (tTry X.K L i tb ts) := by
  intro pins s σ H D I h
  have hlen : σ.length = X.N.length := I.len
  refine wpAny_Try_except ?_
  refine wpAny_mono (hb pins (fun v s1 => wpAny (model X.prog X.w) X.A (noteFrame v X.env) (fun _ s2 => wpAny (model X.prog X.w) X.A (setFlight v none) (fun _ s3 => wpAny (model X.prog X.w) X.A (handleBy v X.env [.ExceptHandler (some (.Name x np)) (some n) (b0 :: suite) hp]) (SP X pins D) X.xe s3) X.xe s2) X.xe s1) _ ?_ [] s σ H D (I.toPin.wish _) h) (fun f s1 q => ?_) fun _ _ z => z
  · intro ps σ1 H1 s1 v s' J hx
    obtain ⟨e, cls, a0, H', B, rfl, ho, hgn, un, hok, hE, fl, k1, k2⟩ := hx
    obtain ⟨M, C, hM, rfl, hC, hh⟩ := hE
    obtain ⟨T, hm, hmt⟩ := hm
    have hmt := hmt M hM C hC
    have J1 : Inv X pins σ1 H1 s1 := Inv.ofPin I.ok J.unwish
    have J1 : Inv X pins (List.replicate X.N.length none) H1 s1 := J1.weak (by rw [List.length_replicate, J1.len]) fun j v' q => by
      rw [List.getElem?_replicate] at q
      split at q <;> cases q
    have fl : Heap.FlyingW B (X.env :: X.outer) e (.ref C) a0 s'.heap := hst ▸ fl
    have hfrm : X.A.frames = some (X.env :: X.outer) := by rw [I.ok.frames, hst]
    refine wpAny_looks_onW hfrm hfr fl fun h4 held sm4 => ?_
    refine wpAny_landsW held fun h5 fl5 sm5 => ?_
    have sm5 := sm4.trans sm5
    -- the state ahead of the clause
    have J5 : Inv X pins (List.replicate X.N.length none) H' { s' with heap := h5 } := J1.call' ho (fly_un un k2 J1.nfS J1.stkFree fl.1 fl5.1 sm5) (hok_fly hok fl.1 fl5.1 k1) hgn (fun b z => by cases z)
    obtain ⟨oe, vs, he, hc, hd, _⟩ := fl5.first
    refine wpAny_handleBy_cons (codeAny_handlers_test (ld_glob (X := X.hold e) (J5.hold e) hg hm ?_ hdb)) (by intro z; cases z)
    have LT : PySem.W.Looks (model X.prog X.w) h5 (typeOf (.ref e)) (.ref C) := hc ▸ (PySem.W.Looks.ld he).andThen .now
    refine (PySem.W.exm_one (J5.kIn) LT hmt).here ?_
    refine codeAny_handlers_suite_as ?_
    refine lands_againW fl5 fun h6 fl6 sm6 => ?_
    have sm6 := sm5.trans sm6
    obtain ⟨oe, vs, he, hc, hd, _⟩ := fl6.first
    have heB : H' e = none := by
      cases q : H' e with
      | none => rfl
      | some u =>
        obtain ⟨o, q1⟩ := k1 e u q
        rw [fl6.2.1] at q1
        cases q1
    have un6 := fly_un un k2 J1.nfS J1.stkFree fl.1 fl6.1 sm6
    have hnew : ∀ b o, s1.heap.get? b = some o → b ≠ e := fun b o q z => by
      subst z
      by_cases hz : b ∈ frs X.stack
      · obtain ⟨sl, q2⟩ := un6.slot b o q (J1.stkFree b hz) hz (by intro y; cases y)
        rw [he] at q2
        cases q2
        exact J1.nfS b hz o q _ hd
      · obtain ⟨o', q1⟩ := k2 b o q hz
        rw [fl6.2.1] at q1
        cases q1
    have J6 : Inv X pins (List.replicate X.N.length none) (upd H' e (excO C e)) { s' with heap := h6 } := by
      refine J1.call' ho (ch := []) ⟨un6.keep, un6.slot, fun b o q z y => ?_, un6.there, fun b xs q => ?_, fun b o u q => ?_, fun b ps' q => ?_⟩ (fun b u q => ?_) hgn (fun b z => by cases z)
      · rw [upd_ne (hnew b o q)]; exact un6.free b o q z y
      · have := un6.tups b xs q; rw [upd_ne (ne_of_none this heB)]; exact this
      · have := un6.frzs b o u q; rw [upd_ne (ne_of_none this heB)]; exact this
      · obtain ⟨mr, this⟩ := un6.tbls b ps' q; exact ⟨mr, by rw [upd_ne (ne_of_none this heB)]; exact this⟩
      · have hok6 := hok_fly hok fl.1 fl6.1 k1
        by_cases hbe : b = e
        · subst hbe
          rw [upd_same] at q
          cases q
          refine ⟨⟨oe, vs, he, hc, hd⟩, ⟨oe, he⟩, fun h1 h2 ⟨o1, v1, z1, z2, z3⟩ kk => ⟨o1, v1, kk _ z1, z2, z3⟩⟩
        · rw [upd_ne hbe] at q
          exact (hok6 b u q).stay (fun _ _ _ z => z) (fun c z => by rw [upd_ne (ne_of_none z heB)]; exact z) fun c xs z => by rw [upd_ne (ne_of_none z heB)]; exact z
    refine store_ok (X := X.hold e) (J6.hold e) hN hi (.inl hl) (v := .ref e) rfl (fun s7 J7 => ?_) hf
    refine wpAny_mono (hs e pins s7 _ _ _ J7 (by rw [hlen] at hh; exact hh e heB)) (fun f s8 q => ?_) fun _ _ z => z.elim
    cases f with
    | next =>
      obtain ⟨σ8, H8, J8, q8⟩ := q
      exact gone_ok (Inv.unhold I.ok J8) hN hi hl fun s9 J9 => ⟨_, H8, J9, q8⟩
    | brk => obtain ⟨_, _, _, z⟩ := q; exact z.elim
    | cont => obtain ⟨_, _, _, z⟩ := q; exact z.elim
    | ret u => obtain ⟨_, _, _, _, _, z⟩ := q; exact z.elim
  · have q : SP X pins D f s1 := by
      have q := q.unwish
      cases f with
      | next => obtain ⟨σ', H', J, z⟩ := q; exact ⟨σ', H', Inv.ofPin I.ok J, z⟩
      | brk => obtain ⟨σ', H', J, z⟩ := q; exact ⟨σ', H', Inv.ofPin I.ok J, z⟩
      | cont => obtain ⟨σ', H', J, z⟩ := q; exact ⟨σ', H', Inv.ofPin I.ok J, z⟩
      | ret u => obtain ⟨v, σ', H', J, r, z⟩ := q; exact ⟨v, σ', H', Inv.ofPin I.ok J, r, z⟩
    cases f with
    | next => exact wpAny_execs_nil q
    | brk => exact q
    | cont => exact q
    | ret u => exact q
end
end L2
namespace L2
open PySem PySem.Spec PyProof.Rows
noncomputable def AnsX (K : PySem.W.Frag) (ans : List (Str × Bool)) (u : Value) : Prop := ∀ N b, ans.lookup N = some b → ∀ C : Addr, PySem.W.nsIn K mainGlobals N = some (some (.ref C)) → XCls K C ∧ PySem.W.kitOne K (.ref C) u = some b
theorem ansX_nil {K : PySem.W.Frag} {u : Value} : AnsX K [] u := fun N b h => by cases h
theorem ansX_cons {K : PySem.W.Frag} {u : Value} {N : Str} {b0 : Bool} {ans : List (Str × Bool)} (h0 : ∀ C : Addr, PySem.W.nsIn K mainGlobals N = some (some (.ref C)) → XCls K C ∧ PySem.W.kitOne K (.ref C) u = some b0) (h : AnsX K ans u) : AnsX K ((N, b0) :: ans) u := fun M b hl C hC => by
  rw [List.lookup] at hl
  split at hl
  · rename_i hb
    have e : M = N := by simpa using hb
    subst e
    cases hl
    exact h0 C hC
  · exact h M b hl C hC
noncomputable def rIsX (K : PySem.W.Frag) (ans : List (Str × Bool)) (vv : V) : List V → Hp → VK → Prop := fun xs H Q => ∃ e C N b, xs = [.ref e, vv] ∧ H e = some (excO C e) ∧ PySem.W.nsIn K mainGlobals N = some (some (.ref C)) ∧ ans.lookup N = some b ∧ Q (.bl b) H
noncomputable def tIsX (K : PySem.W.Frag) (i : Nat) (ans : List (Str × Bool)) : TE := fun σ H Q => ∃ e C N b, σ[i]? = some (some (.ref e)) ∧ H e = some (excO C e) ∧ PySem.W.nsIn K mainGlobals N = some (some (.ref C)) ∧ ans.lookup N = some b ∧ Q (.bl b) H
noncomputable def tIsXs (K : PySem.W.Frag) (i : Nat) : List (List (Str × Bool)) → TA
  | [] => tNil
  | a :: l => tCons (tIsX K i a) (tIsXs K i l)
section
variable {X : Cx} {e : Expr} {pos p p' : Pos} {i : Nat} {N : Str} {ans : List (Str × Bool)} {vv : V} {u : Value}
theorem call_isX (hv : ∀ v, RelV vv v → v = u) (hc : AnsX X.K ans u) : CallR X (.builtin "isinstance") (rIsX X.K ans vv) := by
  intro pins s σ H xs us Q I r h
  obtain ⟨a, C, N, b, rfl, ea, hC, hb, q⟩ := h
  obtain ⟨u1, v, rfl, r1, r2⟩ := Vals.two r
  have eu : u1 = Value.ref a := r1
  subst eu
  have ev := hv v r2
  subst ev
  obtain ⟨c, hk⟩ := hc N b hb C hC
  exact PySem.W.kia_one (kitx_exc c) I.kIn (I.hok a _ ea).1 hk (fun z => nomatch z) fun tk => ⟨.bl b, H, I.tok _, rfl, q⟩
theorem isX_tc {K : PySem.W.Frag} {σ : St} {H : Hp} {Q : VK} (h : tIsX K i ans σ H Q) : tCB (rIsX K ans vv) (tCons (tVar i) (tCons (tC vv) tNil)) σ H Q := by
  obtain ⟨a, C, N, b, h1, ea, hC, hb, q⟩ := h
  exact ⟨.ref a, h1, a, C, N, b, rfl, ea, hC, hb, q⟩
theorem pe_isX (h : ∃ T : Addr, X.mg N = some (.ref T) ∧ AnsX X.K ans (.ref T)) (hg : Gl X "isinstance") (hm : X.mg "isinstance" = none) (gT : Gl X N) (he : PE X e (tVar i)) (hdb : (N == ("__debug__" : Str)) = false := by decide)
    (h1 : starEach [e, .Name N p'] X.env = (false, eval e X.env) :: starEach [.Name N p'] X.env := by rfl) (h2 : starEach [.Name N p'] X.env = (false, eval (.Name N p') X.env) :: starEach [] X.env := by rfl) (hpl : (backTo pos (starEach [.Name N p'] X.env)).any (·.1) = false := by rfl) :
    PE X (.Call (.Name "isinstance" p) [e, .Name N p'] [] pos) (tIsX X.K i ans) := by
  obtain ⟨T, k2, k3⟩ := h
  exact fun a b c d q I h => pe_callB (call_isX (vv := .ref T) (fun v r => r) k3) hg hm bt_isinstance (pa_cons he (pa_cons (pe_glob (v := .ref T) gT k2 rfl hdb) pa_nil h2) h1) (by decide) (by decide) h1 hpl a b c d q I (isX_tc h)
theorem pe_isXB {M : String} (k2 : X.mg N = none) (hv : bootBuiltins N = some (.type M)) (k3 : AnsX X.K ans (.type M)) (hg : Gl X "isinstance") (hm : X.mg "isinstance" = none) (gT : Gl X N) (he : PE X e (tVar i)) (hn : N ≠ "__name__" := by decide) (hdb : (N == ("__debug__" : Str)) = false := by decide)
    (h1 : starEach [e, .Name N p'] X.env = (false, eval e X.env) :: starEach [.Name N p'] X.env := by rfl) (h2 : starEach [.Name N p'] X.env = (false, eval (.Name N p') X.env) :: starEach [] X.env := by rfl) (hpl : (backTo pos (starEach [.Name N p'] X.env)).any (·.1) = false := by rfl) :
    PE X (.Call (.Name "isinstance" p) [e, .Name N p'] [] pos) (tIsX X.K i ans) :=
  fun a b c d q I h => pe_callB (call_isX (vv := .ty M) (fun v r => r) k3) hg hm bt_isinstance (pa_cons he (pa_cons (pe_bltn (v := .ty M) gT k2 hv rfl hn hdb) pa_nil h2) h1) (by decide) (by decide) h1 hpl a b c d q I (isX_tc h)
theorem pss_stop {st : Stmt} {rest : List Stmt} {t : TS} (h : PS X st t) : PSs X (st :: rest) (fun D => t { D with nx := fun _ _ => False }) := by
  intro pins s σ H D I q
  refine wpAny_execs_cons (thn (h pins s σ H _ I q) fun f s1 z => ?_)
  cases f with
  | next => obtain ⟨_, _, _, y⟩ := z; exact y.elim
  | brk => exact z
  | cont => exact z
  | ret u => exact z
theorem bt_abs : bootBuiltins "abs" = some (.builtin "abs") := by decide +kernel
noncomputable def rAbs : List V → Hp → VK → Prop := fun xs H Q => ∃ i, xs = [.int i] ∧ Q (.int (if i < 0 then -i else i)) H
theorem call_absM : CallR X (.builtin "abs") rAbs := call_abs
theorem Fun.okX {P : Program} {w : World} {K : PySem.W.Frag} {mg : Str → Option Value} {base : Heap} {x qual : Str} {st : Stmt} {f : Addr} {fd : FuncData} {N ps : List Str} {k : Nat} {sp : Sp} (F : Fun K x qual st f fd) (S : FnScope N ps (defScope st)) (len : ∀ vs H Q E, sp vs H Q E → vs.length = ps.length)
    (hbody : ∀ (cdv : Value) (A : Around) (outer : List Env) (s : Shared) (H : Hp) (vs : List V) (Q : VK) (E : XK), Room k (A.deeper (envOfC qual (defScope st) s.heap.objs.size f cdv)) → sp vs H Q E →
      ∃ t, PSs (cxOf (CXe P w) P w K mg base N qual (defScope st) f cdv A outer s H E) (defBody st) t ∧ t { nx := fun _ H' => Q .non H', rt := Q } (start N vs) H) : FnOk P w K mg base (CXe P w) (k + 1) f fd ps sp := by
  obtain ⟨oc, od, kV, doc, pm, an, cdv, ct, osl, rfl, lk, hcd⟩ := F.ex
  exact fn_of lk hcd S len fun A outer s H vs Q E hr hsp => hbody cdv A outer s H vs Q E hr hsp
end
end L2
namespace M
open PySem L2
section
variable {K : PySem.W.Frag} {S S' H H' : Hp}
noncomputable def bAbs : List D → Option D
  | [.int i] => some (.int (if i < 0 then -i else i))
  | _ => none
theorem b_abs : SRB K rAbs bAbs := fun S H vs ds g Q s h x k => by
  match ds, x with
  | [.int i], x =>
    cases x
    cases h with
    | cons a b =>
      cases b
      exact ⟨i, by rw [a.int], k _ S H (Ext.refl s) (den_int.mpr rfl)⟩
inductive RO where
  | rz (N : Str) | nx (ρ : Env)
noncomputable abbrev XR := Env → Option RO
noncomputable def XDone (K : PySem.W.Frag) (A S : Hp) (E : XK) (N : Str) : Prop := ∀ C S' H', Same S S' → Same S' H' → Same A H' → (∀ b, S' b = none ∨ A b = none) → PySem.W.nsIn K mainGlobals N = some (some (.ref C)) → E (.ref C) none H'
theorem XDone.mono {A : Hp} {E : XK} {N : Str} (s : Same S S') (h : XDone K A S E N) : XDone K A S' E N := fun C S1 H1 z => h C S1 H1 (s.trans z)
noncomputable def DoneX (K : PySem.W.Frag) (A : Hp) (Λ : Nat → Option Addr) (S : Hp) (E : XK) (D : Ends) : RO → Prop
  | .rz N => XDone K A S E N
  | .nx ρ => ∀ σ' S' H', RlA K A Λ ρ σ' S' H' → Same S S' → D.nx σ' H'
theorem DoneX.mono {A : Hp} {Λ : Nat → Option Addr} {E : XK} {D : Ends} {o : RO} (s : Same S S') (h : DoneX K A Λ S E D o) : DoneX K A Λ S' E D o := by
  cases o with
  | rz N => exact XDone.mono s h
  | nx ρ => exact fun σ1 S1 H1 r z => h σ1 S1 H1 r (s.trans z)
noncomputable def SX (K : PySem.W.Frag) (E : XK) (t : TS) (m : XR) : Prop := ∀ A Λ ρ σ S H (D : Ends) o, RlA K A Λ ρ σ S H → m ρ = some o → DoneX K A Λ S E D o → t D σ H
noncomputable def SXE (K : PySem.W.Frag) (E : XK) (t : TE) (m : Env → Option Str) : Prop := ∀ A Λ ρ σ S H (Q : VK) N, RlA K A Λ ρ σ S H → m ρ = some N → XDone K A S E N → t σ H Q
variable {E : XK}
@[simp] noncomputable def xrNext : XR := fun ρ => some (.nx ρ)
theorem sx_next : SX K E tNext xrNext := fun A Λ ρ σ S H D o r x k => by cases x; exact k σ S H r (Same.refl _)
@[simp] noncomputable def xrRaise (N : Str) : XR := fun _ => some (.rz N)
theorem sx_raise {N : Str} {v : V} : SX K E (tRaise K N (tC v) E) (xrRaise N) := fun A Λ ρ σ S H D o r x k => by
  cases x
  exact fun C hC => ⟨rfl, k C S H (Same.refl _) r.sub r.asub r.adis hC⟩
@[simp] noncomputable def xrIf (c : XT) (m n : XR) : XR := fun ρ => (c ρ).bind fun b => if b = true then m ρ else n ρ
theorem sx_if {tc : TT} {t u : TS} {c : XT} {m n : XR} (hc : ST K tc c) (ht : SX K E t m) (hu : SX K E u n) : SX K E (tIfS tc t u) (xrIf c m n) := fun A Λ ρ σ S H D o r x k => by
  unfold xrIf at x
  cases qc : c ρ with
  | none => rw [qc] at x; cases x
  | some q =>
    rw [qc] at x
    dsimp only [Option.bind] at x
    refine hc ρ σ S H _ q r.toRl qc fun S1 H1 z1 => ?_
    cases q with
    | true => exact iteT (ht A Λ ρ σ S1 H1 D o (r.ext z1) (by simpa using x) (k.mono z1.sh))
    | false => exact iteF (hu A Λ ρ σ S1 H1 D o (r.ext z1) (by simpa using x) (k.mono z1.sh))
@[simp] noncomputable def xrSeq (m n : XR) : XR := fun ρ => (m ρ).bind fun o => match o with | .nx ρ' => n ρ' | .rz N => some (.rz N)
theorem sx_seq {t u : TS} {m n : XR} (ht : SX K E t m) (hu : SX K E u n) : SX K E (tSeq t u) (xrSeq m n) := fun A Λ ρ σ S H D o r x k => by
  unfold xrSeq at x
  cases q : m ρ with
  | none => rw [q] at x; cases x
  | some om =>
    rw [q] at x
    dsimp only [Option.bind] at x
    refine ht A Λ ρ σ S H _ om r q ?_
    cases om with
    | nx ρ' => exact fun σ' S' H' r' z => hu A Λ ρ' σ' S' H' D o r' x (k.mono z)
    | rz N => cases x; exact k
@[simp] noncomputable def xrStop (m : XR) : XR := fun ρ => (m ρ).bind fun o => match o with | .nx _ => none | .rz N => some (.rz N)
theorem sx_stop {t : TS} {m : XR} (ht : SX K E t m) : SX K E (fun D => t { D with nx := fun _ _ => False }) (xrStop m) := fun A Λ ρ σ S H D o r x k => by
  unfold xrStop at x
  cases q : m ρ with
  | none => rw [q] at x; cases x
  | some om =>
    rw [q] at x
    dsimp only [Option.bind] at x
    cases om with
    | nx ρ' => cases x
    | rz N => cases x; exact ht A Λ ρ σ S H _ _ r q k
@[simp] noncomputable def xrE (m : Env → Option Str) : XR := fun ρ => (m ρ).map .rz
theorem sx_ret {t : TE} {m : Env → Option Str} (h : SXE K E t m) : SX K E (tRet t) (xrE m) := fun A Λ ρ σ S H D o r x k => by
  unfold xrE at x
  cases q : m ρ with
  | none => rw [q] at x; cases x
  | some N => rw [q] at x; cases x; exact h A Λ ρ σ S H _ N r q k
theorem sx_drop {t : TE} {m : Env → Option Str} (h : SXE K E t m) : SX K E (tDrop t) (xrE m) := fun A Λ ρ σ S H D o r x k => by
  unfold xrE at x
  cases q : m ρ with
  | none => rw [q] at x; cases x
  | some N => rw [q] at x; cases x; exact h A Λ ρ σ S H _ N r q k
noncomputable def spX (K : PySem.W.Frag) (n : Nat) (m : List D → Option Str) : Sp := fun vs H _ E => vs.length = n ∧ ∃ S ds N, Same S H ∧ Dens K S ds vs ∧ m ds = some N ∧ ∀ C S' H', Ext S H S' H' → PySem.W.nsIn K mainGlobals N = some (some (.ref C)) → E (.ref C) none H'
theorem ext_of {A S H S1 H1 : Hp} {Λ : Nat → Option Addr} {ρ : Env} {σ : St} (r : RlA K A Λ ρ σ S H) (z : Ext S H S1 H1) : Same S S1 ∧ Same S1 H1 ∧ Same A H1 ∧ ∀ b, S1 b = none ∨ A b = none := ⟨z.sh, z.sub, (r.ext z).asub, (r.ext z).adis⟩
@[simp] noncomputable def xeCall (m : List D → Option Str) (a : XA) : Env → Option Str := fun ρ => (a ρ).bind m
theorem sxe_call {n : Nat} {m : List D → Option Str} {t : TA} {a : XA} (h : SA K t a) (hn : ∀ ρ ds, a ρ = some ds → ds.length = n) : SXE K E (tCall (spX K n m) [] E t) (xeCall m a) := fun A Λ ρ σ S H Q N r x k => by
  unfold xeCall at x
  cases q : a ρ with
  | none => rw [q] at x; cases x
  | some ds =>
    rw [q] at x
    refine h ρ σ S H _ ds r.toRl q fun vs S1 H1 z1 d1 => ?_
    rw [List.append_nil]
    refine ⟨by rw [← d1.length]; exact hn ρ ds q, S1, ds, N, z1.sub, d1, x, fun C S2 H2 z2 hC => ?_⟩
    obtain ⟨e1, e2, e3, e4⟩ := ext_of r (z1.trans z2)
    exact k C S2 H2 e1 e2 e3 e4 hC
theorem sxe_arg {sp : Sp} {dvs : List V} {E' : XK} {t : TE} {tr : TA} {m : Env → Option Str} (h : SXE K E t m) : SXE K E (tCall sp dvs E' (tCons t tr)) m := fun A Λ ρ σ S H Q N r x k => h A Λ ρ σ S H _ N r x k
noncomputable def fnX (n : Nat) (m : XR) (ds : List D) : Option Str := match m (ds.map .sh ++ List.replicate (n - ds.length) .un) with
  | some (.rz N) => some N
  | _ => none
theorem ext_al {S1 H1 : Hp} (s1 : Same S S1) (s2 : Same S1 H1) (s3 : Same (alien S H) H1) (s4 : ∀ b, S1 b = none ∨ alien S H b = none) : Ext S H S1 H1 := ⟨s1, s2, fun b o hb hn => by
  have ha := alien_of hb hn
  refine ⟨s3 b o ha, ?_⟩
  rcases s4 b with z | z
  · exact z
  · rw [ha] at z; cases z⟩
theorem rdX_of {t : TS} {m : XR} {N : List Str} {n k : Nat} {vs : List V} {H : Hp} {Q : VK} (hs : SX K E t m) (hN : N.length = n) (h : spX K k (fnX n m) vs H Q E) : t { nx := fun _ H' => Q .non H', rt := Q } (L2.start N vs) H := by
  obtain ⟨_, S, ds, M, s, dd, y, q⟩ := h
  subst hN
  unfold fnX at y
  have r := rl_start (N := N) s dd
  split at y <;> cases y
  rename_i qx
  exact hs _ _ _ _ S H _ _ r qx fun C S' H' s1 s2 s3 s4 hC => q C S' H' (ext_al s1 s2 s3 s4) hC
theorem dens_bl : ∀ bs : List Bool, Dens K S (bs.map D.bl) (bs.map V.bl)
  | [] => .nil
  | b :: bs => .cons (den_bl.mpr rfl) (dens_bl bs)
noncomputable def lookN (N : Str) : List (List (Str × Bool)) → Option (List Bool)
  | [] => some []
  | a :: l => (a.lookup N).bind fun b => (lookN N l).map fun bs => b :: bs
theorem s_isXs {i : Nat} {N : Str} : ∀ {l : List (List (Str × Bool))} {bs : List Bool}, lookN N l = some bs → ∀ σ H (Q : List V → Hp → Prop) e C, σ[i]? = some (some (.ref e)) → H e = some (excO C e) → PySem.W.nsIn K mainGlobals N = some (some (.ref C)) → Q (bs.map V.bl) H → tIsXs K i l σ H Q
  | [], bs, h, σ, H, Q, e, C, _, _, _, q => by cases h; exact q
  | a :: l, bs, h, σ, H, Q, e, C, h1, h2, h3, q => by
    unfold lookN at h
    cases qa : a.lookup N with
    | none => rw [qa] at h; cases h
    | some b =>
      rw [qa] at h
      cases ql : lookN N l with
      | none => rw [ql] at h; cases h
      | some bs' =>
        rw [ql] at h
        cases h
        exact ⟨e, C, N, b, h1, h2, h3, qa, s_isXs ql σ H _ e C h1 h2 h3 q⟩
noncomputable def tSets (K : PySem.W.Frag) (i : Nat) : List (Nat × List (List (Str × Bool))) → TS
  | [] => tNext
  | [p] => tAsg (tLst (tIsXs K i p.2)) (gName p.1)
  | p :: l => tSeq (tAsg (tLst (tIsXs K i p.2)) (gName p.1)) (tSets K i l)
noncomputable def hSets (i : Nat) (N : Str) : List (Nat × List (List (Str × Bool))) → Env → Option Env
  | [], ρ => some ρ
  | p :: l, ρ => if p.1 = i then none else (lookN N p.2).bind fun bs => if bs.length ≤ 1000 then hSets i N l (ρ.set p.1 (.sh (.lst (bs.map .bl)))) else none
noncomputable def SU (K : PySem.W.Frag) (i : Nat) (N : Str) (t : TS) (f : Env → Option Env) : Prop := ∀ A Λ ρ σ S H (D : Ends) e C ρ', RlA K A Λ ρ σ S H → f ρ = some ρ' → σ[i]? = some (some (.ref e)) → H e = some (excO C e) → PySem.W.nsIn K mainGlobals N = some (some (.ref C)) →
  (∀ σ' S' H', RlA K A Λ ρ' σ' S' H' → Same S S' → σ'[i]? = some (some (.ref e)) → H' e = some (excO C e) → D.nx σ' H') → t D σ H
theorem su_one {i : Nat} {N : Str} (p : Nat × List (List (Str × Bool))) : SU K i N (tAsg (tLst (tIsXs K i p.2)) (gName p.1)) (hSets i N [p]) := fun A Λ ρ σ S H D e C ρ' r hf h1 h2 h3 k => by
  unfold hSets at hf
  split at hf
  · cases hf
  · rename_i hij
    cases ql : lookN N p.2 with
    | none => rw [ql] at hf; cases hf
    | some bs =>
      rw [ql] at hf
      dsimp only [Option.bind] at hf
      split at hf
      · rename_i hl
        cases hf
        refine s_isXs ql σ H _ e C h1 h2 h3 ⟨by rw [List.length_map]; exact Nat.le_trans hl (by rw [sizeLine_eq]; decide), fun a ha => ?_⟩
        have z : Ext S H (upd S a (.lst (bs.map V.bl))) (upd H a (.lst (bs.map V.bl))) := Ext.new r.sub ha
        refine k _ (upd S a (.lst (bs.map V.bl))) _ ((r.ext z).set p.1 (den_lst.mpr ⟨a, bs.map V.bl, rfl, .inl upd_same, dens_bl bs⟩)) z.sh ?_ ?_
        · rw [List.getElem?_set_ne hij]; exact h1
        · rw [upd_ne (ne_of_none h2 ha)]; exact h2
      · cases hf
theorem hSets_cons {i : Nat} {N : Str} {p : Nat × List (List (Str × Bool))} {l : List (Nat × List (List (Str × Bool)))} {ρ ρ' : Env} (h : hSets i N (p :: l) ρ = some ρ') : ∃ ρ1, hSets i N [p] ρ = some ρ1 ∧ hSets i N l ρ1 = some ρ' := by
  rw [hSets] at h
  split at h
  · cases h
  · rename_i hij
    cases ql : lookN N p.2 with
    | none => rw [ql] at h; cases h
    | some bs =>
      rw [ql] at h
      dsimp only [Option.bind] at h
      split at h
      · rename_i hl
        refine ⟨ρ.set p.1 (.sh (.lst (bs.map .bl))), ?_, h⟩
        rw [hSets, if_neg hij, ql]
        show (if bs.length ≤ 1000 then _ else none) = _
        rw [if_pos hl]
        rfl
      · cases h
theorem su_sets {i : Nat} {N : Str} : ∀ l : List (Nat × List (List (Str × Bool))), SU K i N (tSets K i l) (hSets i N l)
  | [] => fun A Λ ρ σ S H D e C ρ' r hf h1 h2 h3 k => by cases hf; exact k σ S H r (Same.refl _) h1 h2
  | [p] => su_one p
  | p :: q :: l => fun A Λ ρ σ S H D e C ρ' r hf h1 h2 h3 k => by
    obtain ⟨ρ1, f1, f2⟩ := hSets_cons hf
    refine su_one p A Λ ρ σ S H _ e C ρ1 r f1 h1 h2 h3 fun σ' S' H' r' z a b => ?_
    exact su_sets (q :: l) A Λ ρ1 σ' S' H' D e C ρ' r' f2 a b h3 fun σ2 S2 H2 r2 z2 a2 b2 => k σ2 S2 H2 r2 (z.trans z2) a2 b2
theorem RlA.drop {A : Hp} {Λ : Nat → Option Addr} {ρ : Env} {σ : St} (r : RlA K A Λ ρ σ S H) (i : Nat) : RlA K A Λ (ρ.set i .un) (σ.set i none) S H := by
  obtain ⟨Φ, f⟩ := r
  have ge : ∀ (j : Nat) t, (ρ.set i .un)[j]? = some t → t ≠ .un → j ≠ i ∧ ρ[j]? = some t := fun j t h n => by
    rcases set_inv h with ⟨_, e, _⟩ | ⟨hij, h⟩
    · exact absurd e n
    · exact ⟨Ne.symm hij, h⟩
  exact ⟨Φ, {
    len := by rw [List.length_set, List.length_set]; exact f.len
    sub := f.sub
    sh := fun j d h => by
      obtain ⟨hj, h⟩ := ge j _ h (by intro z; cases z)
      rw [List.getElem?_set_ne (Ne.symm hj)]
      exact f.sh j d h
    ow := fun j o h => by
      obtain ⟨hj, h⟩ := ge j _ h (by intro z; cases z)
      rw [List.getElem?_set_ne (Ne.symm hj)]
      exact f.ow j o h
    dj := fun j k o o' hjk h1 h2 => f.dj j k o o' hjk (ge j _ h1 (by intro z; cases z)).2 (ge k _ h2 (by intro z; cases z)).2
    lo := fun j h => by
      obtain ⟨hj, h⟩ := ge j _ h (by intro z; cases z)
      rw [List.getElem?_set_ne (Ne.symm hj)]
      exact f.lo j h
    asub := f.asub
    adis := f.adis }⟩
@[simp] noncomputable def xTry (L : List Str) (i : Nat) (m : XR) (l : List (Nat × List (List (Str × Bool)))) : XS := fun ρ => if i < ρ.length then (m ρ).bind fun o => match o with
  | .rz N => if L.contains N then (hSets i N l (ρ.map fun _ => .un)).map fun ρ' => .nx (ρ'.set i .un) else none
  | .nx ρ' => some (.nx ρ') else none
theorem s_try {L : List Str} {i : Nat} {tb : XK → TS} {m : XR} {l : List (Nat × List (List (Str × Bool)))} (hb : ∀ E, SX K E (tb E) m) : SS K (tTry K L i tb (tSets K i l)) (xTry L i m l) := fun A Λ ρ σ S H D o r q k => by
  unfold xTry at q
  split at q <;> try (cases q; done)
  rename_i hi
  cases qm : m ρ with
  | none => rw [qm] at q; cases q
  | some om =>
    rw [qm] at q
    dsimp only [Option.bind] at q
    have hlen : σ.length = ρ.length := by obtain ⟨_, f⟩ := r; exact f.len
    refine hb _ A Λ ρ σ S H D om r qm ?_
    cases om with
    | nx ρ' => cases q; exact k
    | rz N =>
      dsimp only at q
      split at q <;> try (cases q; done)
      rename_i hN
      cases qf : hSets i N l (ρ.map fun _ => .un) with
      | none => rw [qf] at q; cases q
      | some ρ' =>
        rw [qf] at q
        cases q
        intro C S1 H1 s1 s2 s3 s4 hC
        refine ⟨N, C, by simpa using hN, rfl, hC, fun e he => ?_⟩
        have r0 : RlA K A Λ (ρ.map fun _ => Sl.un) ((List.replicate σ.length none).set i (some (.ref e))) S1 (upd H1 e (excO C e)) := by
          have no : ∀ (j : Nat) t, (ρ.map fun _ => Sl.un)[j]? = some t → t = .un := fun j t h => by
            rw [List.getElem?_map] at h
            cases qj : ρ[j]? with
            | none => rw [qj] at h; cases h
            | some _ => rw [qj] at h; cases h; rfl
          exact ⟨fun _ => [], {
            len := by rw [List.length_set, List.length_replicate, List.length_map]; exact hlen
            sub := fun b o h => by rw [upd_ne (ne_of_none (s2 b o h) he)]; exact s2 b o h
            sh := fun j d h => by cases no j _ h
            ow := fun j d h => by cases no j _ h
            dj := fun j _ d _ _ h => by cases no j _ h
            lo := fun j h => by cases no j _ h
            asub := fun b o h => by rw [upd_ne (ne_of_none (s3 b o h) he)]; exact s3 b o h
            adis := s4 }⟩
        refine su_sets l A Λ _ _ S1 _ _ e C ρ' r0 qf (List.getElem?_set_self (by rw [List.length_replicate, hlen]; exact hi)) upd_same hC fun σ' S' H' r' z _ _ => ?_
        exact k _ S' H' (r'.drop i) (s1.trans z)
end
end M
namespace L2
open PySem PySem.Spec PyProof.Rows
section
variable {X : Cx} {tg : Expr}
end
end L2
namespace M
open PySem L2
section
variable {K : PySem.W.Frag} {S S' H H' : Hp}
noncomputable def rngA : List D → Option (List D)
  | [.int i, .int j] => some (intsD i (j - i).toNat)
  | _ => none
@[simp] noncomputable def xRngA (a : XA) : XA := fun ρ => (a ρ).bind rngA
end
end M
namespace L2
open PySem PySem.Spec PyProof.Rows
noncomputable def Its (x : Str) : It := ⟨fun i _ => i < x.cps.size, fun i H v H' => H' = H ∧ ∃ c, x.cps[i]? = some c ∧ v = .str ⟨#[c]⟩, fun i _ => x.cps.size ≤ i⟩
theorem turn_ascii {P : Program} {w : World} {K : PySem.W.Frag} {tg : Expr} (it : Addr) (x : Str) (t : Tok) : Turn P w K tg (Its x) [it] it (fun i h => h.IsStrIter it "str_ascii_iterator" x t i) where
  mem := by simp
  obj := fun i h st b hb => by
    obtain rfl : b = it := by simpa using hb
    obtain ⟨o, e, c, d⟩ := st
    exact ⟨o, e, fun v z => by rw [d] at z; cases z⟩
  keep := fun i h h' st k => by
    obtain ⟨o, e, r⟩ := st
    exact ⟨o, k it (by simp) o e, r⟩
  item := by
    intro X hP hw hK hc i pins s σ H E I hf st hg
    subst hP hw hK
    have ⟨g0, g1, g2, g3, g4, g5⟩ := hf it (by simp)
    refine (Walks.strAscii (prog := X.prog) (w := X.w) (I.ok.hd hc) it x t).item i s _ _ hg st fun v h' tk hv st' kk => ?_
    obtain ⟨c, u, hx, rfl⟩ := hv
    have J : Inv X pins σ H { s with heap := h', toks := tk } := I.turned (fun b o hb q => kk b o (by simpa using hb) q) g0 g1 g3 g4 g5
    obtain ⟨o, e, c1, d1⟩ := id st'
    exact ⟨_, rfl, go_of (s := { s with heap := h', toks := tk }) e c1 d1 (by decide) ⟨.str ⟨#[c]⟩, H, J, ⟨u, rfl⟩, ⟨rfl, c, hx, rfl⟩, st', fun b hb => (hf b hb).1⟩⟩
  done := by
    intro X hP hw hK hc i pins s σ H E I hf st hg
    subst hP hw hK
    have ⟨g0, g1, g2, g3, g4, g5⟩ := hf it (by simp)
    exact wpAny_pyNext_ascii_end (I.ok.hd hc) st (by have : x.cps.size ≤ i := hg; simp; omega) fun h' eb => ⟨rfl, I.turned (t' := s.toks) (fun b o hb q => eb b o hb q) g0 g1 g3 g4 g5⟩
  self := fun _ _ _ _ _ st h => wpAny_pyIter_striter_ascii st h
theorem turn_wide {P : Program} {w : World} {K : PySem.W.Frag} {tg : Expr} (it : Addr) (x : Str) (t : Tok) : Turn P w K tg (Its x) [it] it (fun i h => h.IsStrIter it "str_iterator" x t i) where
  mem := by simp
  obj := fun i h st b hb => by
    obtain rfl : b = it := by simpa using hb
    obtain ⟨o, e, c, d⟩ := st
    exact ⟨o, e, fun v z => by rw [d] at z; cases z⟩
  keep := fun i h h' st k => by
    obtain ⟨o, e, r⟩ := st
    exact ⟨o, k it (by simp) o e, r⟩
  item := by
    intro X hP hw hK hc i pins s σ H E I hf st hg
    subst hP hw hK
    have ⟨g0, g1, g2, g3, g4, g5⟩ := hf it (by simp)
    refine (Walks.strWide (prog := X.prog) (w := X.w) (I.ok.hd hc) it x t).item i s _ _ hg st fun v h' tk hv st' kk => ?_
    obtain ⟨c, u, hx, rfl⟩ := hv
    have J : Inv X pins σ H { s with heap := h', toks := tk } := I.turned (fun b o hb q => kk b o (by simpa using hb) q) g0 g1 g3 g4 g5
    obtain ⟨o, e, c1, d1⟩ := id st'
    exact ⟨_, rfl, go_of (s := { s with heap := h', toks := tk }) e c1 d1 (by decide) ⟨.str ⟨#[c]⟩, H, J, ⟨u, rfl⟩, ⟨rfl, c, hx, rfl⟩, st', fun b hb => (hf b hb).1⟩⟩
  done := by
    intro X hP hw hK hc i pins s σ H E I hf st hg
    subst hP hw hK
    have ⟨g0, g1, g2, g3, g4, g5⟩ := hf it (by simp)
    exact wpAny_pyNext_wide_end (I.ok.hd hc) st (by have : x.cps.size ≤ i := hg; simp; omega) fun h' eb => ⟨rfl, I.turned (t' := s.toks) (fun b o hb q => eb b o hb q) g0 g1 g3 g4 g5⟩
  self := fun _ _ _ _ _ st h => wpAny_pyIter_striter_wide st h
section
variable {X : Cx} {tg : Expr}
noncomputable def iStr (tl : TE) : TI := fun σ H R => tl σ H fun v H1 => ∃ x, v = .str x ∧ R (Its x) H1
theorem pi_str {l : Expr} {tl : TE} (hl : PE X l tl) : PI X tg l (iStr tl) := by
  intro pins s σ H R I h
  refine thn (hl pins s σ H _ I h) fun v s1 hpt9 => ?_
  obtain ⟨y, H1, I1, r1, q1⟩ := hpt9
  obtain ⟨x, rfl, q⟩ := q1
  obtain ⟨t, rfl⟩ := r1
  have fp : ∀ (o : Obj) (b : Addr), b ∈ [s1.heap.objs.size] → FpOk X pins H1 b := fun o b hb => by
    obtain rfl : b = s1.heap.objs.size := by simpa using hb
    exact I1.fpOk (Nat.le_refl _) (I1.hok.fresh (Nat.le_refl _))
  cases ha : x.cps.all (· < 128)
  · exact wpAny_pyIter_wide ha ⟨_, [s1.heap.objs.size], _, _, H1, rfl, I1.kept (t' := s1.toks) fun b o z => Heap.get?_push_of_some _ z, turn_wide _ x t, ⟨_, Heap.get?_push_size _ rfl, rfl, rfl⟩, fun b hb => fp default b hb, q⟩
  · exact wpAny_pyIter_ascii ha ⟨_, [s1.heap.objs.size], _, _, H1, rfl, I1.kept (t' := s1.toks) fun b o z => Heap.get?_push_of_some _ z, turn_ascii _ x t, ⟨_, Heap.get?_push_size _ rfl, rfl, rfl⟩, fun b hb => fp default b hb, q⟩
noncomputable def rSlS : V → Option Int → Option Int → Hp → VK → Prop := fun x lo hi H Q => ∃ y, x = .str y ∧ y.length ≤ sizeLine ∧ Q (.str (Txt.slice y lo hi)) H
theorem sl_str : SlR X rSlS := by
  intro pins s σ H x v vl vu lo hi sl Q I rx hs pl pu h
  obtain ⟨y, rfl, hz, q⟩ := h
  obtain ⟨t, rfl⟩ := rx
  have fin : ∀ t' k, EP X pins σ Q (.str (Txt.slice y lo hi) t') { s with toks := k } := fun t' k => ⟨.str _, H, I.tok k, ⟨t', rfl⟩, q⟩
  refine ⟨"str", _, F.slot_str_getitem.lookup, typeIs_str _ _ _, ?_⟩
  cases pl <;> cases pu
  · exact wpAny_getItem_str_slice (l := none) (u := none) (st := none) hs rfl (post_val_or_str ⟨Nat.le_trans (Txt.slice_le y _ _) hz, fin⟩)
  · exact wpAny_getItem_str_slice (l := none) (u := some (_, _)) (st := none) hs rfl (post_val_or_str ⟨Nat.le_trans (Txt.slice_le y _ _) hz, fin⟩)
  · exact wpAny_getItem_str_slice (l := some (_, _)) (u := none) (st := none) hs rfl (post_val_or_str ⟨Nat.le_trans (Txt.slice_le y _ _) hz, fin⟩)
  · exact wpAny_getItem_str_slice (l := some (_, _)) (u := some (_, _)) (st := none) hs rfl (post_val_or_str ⟨Nat.le_trans (Txt.slice_le y _ _) hz, fin⟩)
noncomputable def rStarts : V → List V → Hp → VK → Prop := fun x vs H Q => ∃ y z, x = .str y ∧ vs = [.str z] ∧ Q (.bl (decide (z.length ≤ y.length) && Builtin.Str.subAt y z 0)) H
theorem mt_starts : MtR X "str.startswith" rStarts := by
  intro pins s σ H x vs v us Q I rx rv h
  obtain ⟨y, z, rfl, rfl, q⟩ := h
  obtain ⟨t, rfl⟩ := rx
  obtain ⟨u, rfl, ru⟩ := rv.one
  obtain ⟨t', rfl⟩ := ru
  refine call_gives F.slot_str_startswith (typeIs_str _ _ _) F.entry_str_startswith (F.args_str_startswith_2 _ _) (gives_str_startswith y z t t') ?_
  refine ⟨.bl _, H, I, ?_, q⟩
  show Value.bool _ = Value.bool _
  rw [Nat.zero_add]
noncomputable def rIntS : List V → Hp → VK → Prop := fun xs H Q => ∃ x n, xs = [.str x] ∧ PySem.intText? x = some n ∧ x.length ≤ 640 ∧ Q (.int n) H
theorem call_intS : CallR X (.type "int") rIntS := by
  intro pins s σ H xs us Q I r h
  obtain ⟨x, n, rfl, hn, hl, q⟩ := h
  obtain ⟨u, rfl, t, rfl⟩ := vals1 r
  exact PySem.W.KIN.call_text hn hl ⟨.int n, H, I.tok _, ⟨_, rfl⟩, q⟩
noncomputable def rStrI : List V → Hp → VK → Prop := fun xs H Q => ∃ i, xs = [.int i] ∧ i.natAbs.log2 < 1920 ∧ Q (.str (toString i)) H
theorem call_strI : CallR X (.type "str") rStrI := call_str_int
theorem rep_size (z : Array Nat) (h : z.size = 1) : ∀ (n : Nat) (a : Array Nat), ((List.replicate n z).foldl (· ++ ·) a).size = a.size + n
  | 0, _ => rfl
  | n + 1, a => by
    rw [List.replicate_succ, List.foldl_cons, rep_size z h n, Array.size_append, h]
    omega
noncomputable def rInS : R2 := fun x y H Q => ∃ i j, x = .str i ∧ y = .str j ∧ Q (.bl (!(Builtin.Str.occurrences j i 0 j.length 1).isEmpty)) H
theorem op_inS : OpR X (compareOp .In) rInS := op_in_str
noncomputable def rMulS : R2 := fun x y H Q => ∃ z i, x = .str z ∧ y = .int i ∧ z.length = 1 ∧ 1 < i ∧ i ≤ 1000 ∧ Q (.str ⟨(List.replicate i.toNat z.cps).foldl (· ++ ·) #[]⟩) H
theorem op_mulS : OpR X (binaryOp .Mult) rMulS := by
  intro pins s σ H x y v u Q I rx ry h
  obtain ⟨z, i, rfl, rfl, hz, h1, h2, q⟩ := h
  obtain ⟨t, rfl⟩ := rx
  obtain ⟨t', rfl⟩ := ry
  have n1 : ¬ i < 1 := by omega
  have n2 : ¬ (i == 1 || z.length == 0) = true := by
    rw [hz]
    simp
    omega
  refine P.mul_str ?_ (fun _ _ => ?_) (fun _ _ => ?_) ?_
  · have a : ¬ i < -(2 ^ 63 : Int) := by omega
    have b : ¬ i ≥ 2 ^ 63 := by omega
    rw [decide_eq_false a, decide_eq_false b]; rfl
  · rw [hz]
    have : (1 : Int) ≤ (2 ^ 63 - 1) / i := by
      rw [Int.le_ediv_iff_mul_le (by omega)]
      omega
    show ¬ ((1 : Nat) : Int) > _
    omega
  · rw [hz]
    unfold Builtin.Str.tooLong
    have := sizeLine_eq
    simp
    omega
  · rw [if_neg n1, if_neg n2]
    refine ⟨?_, .str _, H, I.tok _, ⟨_, rfl⟩, q⟩
    have := sizeLine_eq
    have := rep_size z.cps hz i.toNat #[]
    show ((List.replicate i.toNat z.cps).foldl (· ++ ·) #[]).size ≤ sizeLine
    rw [this, sizeLine_eq]
    simp
    omega
noncomputable def rAll (K : PySem.W.Frag) : List V → Hp → VK → Prop := fun xs H Q => ∃ p, ∃ bs : List Bool, xs = [.ref p] ∧ SqL K H p (bs.map V.bl) ∧ Q (.bl (bs.all id)) H
theorem range_all_of (bs : List Bool) : (List.range bs.length).all (fun i => bs.getD i true) = bs.all id := by
  rw [Bool.eq_iff_iff, List.all_eq_true, List.all_eq_true]
  constructor
  · intro h b hb
    obtain ⟨i, hi, rfl⟩ := List.getElem_of_mem hb
    have := h i (List.mem_range.mpr hi)
    simpa [hi] using this
  · intro h i hi
    have hi := List.mem_range.mp hi
    have := h bs[i] (List.getElem_mem hi)
    simpa [hi] using this
theorem call_allM (hc : X.calm = true) : CallR X (.builtin "all") (rAll X.K) := by
  intro pins s σ H xs us Q I r h
  obtain ⟨p, bs, rfl, hS, q⟩ := h
  obtain ⟨u, rfl, ru⟩ := r.one
  cases ru
  obtain ⟨its, rv, pl, hz⟩ := I.list hS
  have hl := pl.isList
  have hlen : bs.length = its.length := by have := rv.length; simpa using this
  refine call_all_walk (wpAny_pyIter_list hl ?_)
  have hne : p ≠ s.heap.objs.size := Nat.ne_of_lt pl.lt
  refine ⟨_, _, _, _, _, _, fun i => bs.getD i true, rfl, Walks.list (A := X.A.in1) (I.ok.hd hc) _ p hne its.toArray, ⟨⟨_, Heap.get?_push_size _ rfl, rfl, rfl⟩, hl.push _⟩, ?_, ?_⟩
  · intro i v s' Q' E' hv hQ
    have hv : its[i]? = some v := by simpa using hv
    have hi : i < bs.length := by
      rw [hlen]
      exact (List.getElem?_eq_some_iff.mp hv).1
    obtain ⟨u, hu, ru⟩ := rv.get (i := i) (x := .bl (bs[i])) (by simp [hi])
    rw [hu] at hv
    cases hv
    cases ru
    have e : bs.getD i true = bs[i] := by simp [hi]
    dsimp only at hQ
    rw [e] at hQ
    exact wpAny_truthy_bool hQ
  · intro h' tk hk
    rw [List.size_toArray, ← hlen, range_all_of]
    exact ⟨.bl _, H, I.kept (old_kept hk), rfl, q⟩
end
end L2
namespace M
open PySem L2
section
variable {K : PySem.W.Frag} {S S' H H' : Hp}
noncomputable def signsD (x : Str) : List D := x.cps.toList.map fun c => D.str ⟨#[c]⟩
noncomputable def sgD : D → Option (List D)
  | .str x => some (signsD x)
  | _ => none
@[simp] noncomputable def xItS (e : XE) : XA := fun ρ => (e ρ).bind sgD
theorem walks_str (x : Str) : Walks K (Its x) S (signsD x) := fun S' H' _ _ => ⟨fun i d h => by
  unfold signsD at h
  rw [List.getElem?_map] at h
  cases q : x.cps.toList[i]? with
  | none => rw [q] at h; cases h
  | some c =>
    rw [q] at h
    cases h
    have q' : x.cps[i]? = some c := by simpa using q
    refine ⟨?_, fun v H'' y => ⟨y.1, ?_⟩⟩
    · exact (Array.getElem?_eq_some_iff.mp q').1
    · obtain ⟨_, c', e, rfl⟩ := y
      rw [q'] at e
      cases e
      exact den_str.mpr rfl, by
  show x.cps.size ≤ (signsD x).length
  unfold signsD
  rw [List.length_map, Array.length_toList]
  exact Nat.le_refl _⟩
theorem i_str {tl : TE} {e : XE} (h : SE K tl e) : SI K (iStr tl) (xItS e) := fun ρ σ S H R l r x k => by
  unfold xItS at x
  cases q : e ρ with
  | none => rw [q] at x; cases x
  | some d =>
    rw [q] at x
    cases d <;> try (cases x; done)
    cases x
    exact h ρ σ S H _ _ r q fun v S1 H1 z1 d1 => ⟨_, den_str.mp d1, k _ S1 H1 z1 (walks_str _)⟩
noncomputable def dSlS (d : D) (lo hi : Option Int) : Option D := match d with
  | .str x => if x.length ≤ LIM then some (.str (Txt.slice x lo hi)) else none
  | _ => none
@[simp] noncomputable def xSlS (a : XE) (lo hi : XO) : XE := fun ρ => (a ρ).bind fun d => (lo ρ).bind fun l => (hi ρ).bind fun h => dSlS d l h
theorem s_slS {te : TE} {tl th : TO} {a : XE} {lo hi : XO} (ha : SPk K te a) (hl : SO K tl lo) (hh : SO K th hi) : SE K (tSl rSlS te tl th) (xSlS a lo hi) := fun ρ σ S H Q g r x k => by
  unfold xSlS at x
  cases q : a ρ with
  | none => rw [q] at x; cases x
  | some d =>
    rw [q] at x
    dsimp only [Option.bind] at x
    cases ql : lo ρ with
    | none => rw [ql] at x; cases x
    | some l =>
      rw [ql] at x
      dsimp only at x
      cases qh : hi ρ with
      | none => rw [qh] at x; cases x
      | some h =>
        rw [qh] at x
        dsimp only at x
        refine ha ρ σ S H _ d r q fun v S1 H1 z1 d1 => ?_
        have r1 := r.ext z1
        refine hl ρ σ S1 H1 _ l r1 ql fun S2 H2 z2 => ?_
        have r2 := r1.ext z2
        refine hh ρ σ S2 H2 _ h r2 qh fun S3 H3 z3 => ?_
        cases d <;> try (cases x; done)
        rename_i y
        have x : (if y.length ≤ LIM then some (D.str (Txt.slice y l h)) else none) = some g := x
        split at x
        · rename_i hy
          cases x
          exact ⟨y, d1.str, lim_le hy, k _ S3 H3 (z1.trans (z2.trans z3)) (den_str.mpr rfl)⟩
        · cases x
noncomputable def dStarts : D → D → Option D
  | .str y, .str z => some (.bl (decide (z.length ≤ y.length) && Builtin.Str.subAt y z 0))
  | _, _ => none
theorem s_starts {ta tb : TE} {a b : XE} (ha : SPk K ta a) (hb : SPk K tb b) : SE K (tBM K "str" rStarts ta (tCons tb tNil)) (xOp dStarts a b) := fun ρ σ S H Q g r x k => by
  unfold xOp at x
  cases qa : a ρ with
  | none => rw [qa] at x; cases x
  | some da =>
    rw [qa] at x
    dsimp only [Option.bind] at x
    cases qb : b ρ with
    | none => rw [qb] at x; cases x
    | some db =>
      rw [qb] at x
      cases da <;> try (cases x; done)
      cases db <;> try (cases x; done)
      cases x
      refine ha ρ σ S H _ _ r qa fun v S1 H1 z1 d1 => ?_
      rw [d1.str]
      refine ⟨rfl, ?_⟩
      refine hb ρ σ S1 H1 _ _ (r.ext z1) qb fun v S2 H2 z2 d2 => ?_
      rw [d2.str]
      exact ⟨_, _, rfl, rfl, k _ S2 H2 (z1.trans z2) (den_bl.mpr rfl)⟩
noncomputable def bIntS : List D → Option D
  | [.str x] => if x.length ≤ 640 then (PySem.intText? x).map D.int else none
  | _ => none
theorem b_intS : SRB K rIntS bIntS := fun S H vs ds g Q s h x k => by
  unfold bIntS at x
  split at x
  · rename_i y
    obtain ⟨v, rfl, d1⟩ := one_of h
    split at x
    · rename_i hy
      cases q : PySem.intText? y with
      | none => rw [q] at x; cases x
      | some n =>
        rw [q] at x
        cases x
        exact ⟨y, n, by rw [d1.str], q, hy, k _ S H (Ext.refl s) (den_int.mpr rfl)⟩
    · cases x
  · cases x
noncomputable def bStrI : List D → Option D
  | [.int i] => if i.natAbs.log2 < 1920 then some (.str (toString i)) else none
  | _ => none
theorem b_strI : SRB K rStrI bStrI := fun S H vs ds g Q s h x k => by
  unfold bStrI at x
  split at x
  · rename_i y
    obtain ⟨v, rfl, d1⟩ := one_of h
    split at x
    · rename_i hy
      cases x
      exact ⟨y, by rw [d1.int], hy, k _ S H (Ext.refl s) (den_str.mpr rfl)⟩
    · cases x
  · cases x
noncomputable def dMulS : D → D → Option D
  | .str z, .int i => if z.length = 1 ∧ 1 < i ∧ i ≤ 1000 then some (.str ⟨(List.replicate i.toNat z.cps).foldl (· ++ ·) #[]⟩) else none
  | _, _ => none
theorem r_mulS : SR2 K rMulS dMulS := fun S H x y d e z Q s dx dy q k => by
  unfold dMulS at q
  split at q
  · rename_i u i
    split at q
    · rename_i c
      cases q
      exact ⟨u, i, dx.str, dy.int, c.1, c.2.1, c.2.2, k _ S H (Ext.refl s) (den_str.mpr rfl)⟩
    · cases q
  · cases q
noncomputable def dInS : D → D → Option D
  | .str i, .str j => some (.bl (!(Builtin.Str.occurrences j i 0 j.length 1).isEmpty))
  | _, _ => none
theorem r_inS : SR2 K rInS dInS := fun S H x y d e z Q s dx dy q k => by
  unfold dInS at q
  split at q
  · cases q
    exact ⟨_, _, dx.str, dy.str, k _ S H (Ext.refl s) (den_bl.mpr rfl)⟩
  · cases q
noncomputable def boolsOf : List D → Option (List Bool)
  | [] => some []
  | .bl b :: l => (boolsOf l).map fun r => b :: r
  | _ :: _ => none
theorem boolsOf_is : ∀ {l : List D} {bs : List Bool}, boolsOf l = some bs → l = bs.map D.bl
  | [], bs, h => by cases h; rfl
  | d :: l, bs, h => by
    cases d <;> try (cases h; done)
    rename_i b
    have h : (boolsOf l).map (fun r => b :: r) = some bs := h
    cases q : boolsOf l with
    | none => rw [q] at h; cases h
    | some r => rw [q] at h; cases h; rw [boolsOf_is q]; rfl
theorem dens_bls : ∀ {bs : List Bool} {xs : List V}, Dens K S (bs.map D.bl) xs → xs = bs.map V.bl
  | [], xs, h => h
  | b :: bs, xs, h => by
    obtain ⟨y, ys, rfl, a, r⟩ := h
    rw [den_bl.mp a, dens_bls r]; rfl
noncomputable def bAll : List D → Option D
  | [.lst l] => (boolsOf l).map fun bs => .bl (bs.all id)
  | _ => none
theorem b_all : SRB K (rAll K) bAll := fun S H vs ds g Q s h x k => by
  unfold bAll at x
  split at x
  · rename_i l
    obtain ⟨v, rfl, d1⟩ := one_of h
    cases q : boolsOf l with
    | none => rw [q] at x; cases x
    | some bs =>
      rw [q] at x
      cases x
      obtain ⟨p, xs, rfl, h1, h2⟩ := d1.lst s
      have e := boolsOf_is q
      subst e
      have e := dens_bls h2
      subst e
      exact ⟨p, bs, rfl, .inl h1, k _ S H (Ext.refl s) (den_bl.mpr rfl)⟩
  · cases x
end
end M
namespace L2
open PySem
theorem bt_all : bootBuiltins "all" = some (.builtin "all") := by decide +kernel
end L2
namespace L2
open PySem PySem.Spec PyProof.Rows
section
variable {X : Cx}
noncomputable def rJoin (K : PySem.W.Frag) : V → List V → Hp → VK → Prop := fun x vs H Q => ∃ sep p, ∃ ys : List Str, x = .str sep ∧ vs = [.ref p] ∧ SqL K H p (ys.map V.str) ∧ (ys.map (·.length)).sum + ys.length * sep.length ≤ 16777216 ∧ Q (.str (Txt.join sep ys)) H
theorem strs_of : ∀ {ys : List Str} {us : List Value}, Vals (ys.map V.str) us → StrsAre us ys
  | [], us, h => by cases h; exact .nil
  | y :: ys, us, h => by
    cases h with
    | cons a r =>
      obtain ⟨t, rfl⟩ := a
      exact .cons _ _ (strs_of r)
theorem mt_join : MtR X "str.join" (rJoin X.K) := by
  intro pins s σ H x vs v us Q I rx rv h
  obtain ⟨sep, p, ys, rfl, rfl, hS, hz, q⟩ := h
  obtain ⟨t, rfl⟩ := rx
  obtain ⟨u, rfl, ru⟩ := rv.one
  cases ru
  obtain ⟨its, rl, pl, _⟩ := I.list hS
  exact join_list (items := its.toArray) pl.isList (by simpa using strs_of rl) hz fun t' k => ⟨.str _, H, I.tok k, ⟨t', rfl⟩, q⟩
noncomputable def rSplit : V → List V → Hp → VK → Prop := fun x vs H Q => ∃ y z, x = .str y ∧ vs = [.str z] ∧ z.length ≠ 0 ∧ y.length + 2 ≤ sizeLine ∧ ∀ l, H l = none → Q (.ref l) (upd H l (.lst ((Txt.split y z).map V.str)))
theorem vals_from : ∀ (ys : List Str) (n : Nat), Vals (ys.map V.str) (strsFrom n ys)
  | [], _ => .nil
  | _ :: ys, n => .cons ⟨_, rfl⟩ (vals_from ys (n + 1))
theorem mt_split : MtR X "str.split" rSplit := by
  intro pins s σ H x vs v us Q I rx rv h
  obtain ⟨y, z, rfl, rfl, hz, hy, q⟩ := h
  obtain ⟨t, rfl⟩ := rx
  obtain ⟨u, rfl, ru⟩ := rv.one
  obtain ⟨t', rfl⟩ := ru
  have hz' : (z.length == 0) = false := by simpa using hz
  have fin : ∀ (ys : List Str) (its : List Value) (tk : Nat), Txt.split y z = ys → Vals (ys.map V.str) its → ys.length ≤ sizeLine → EP X pins σ Q (.ref s.heap.objs.size) { s with heap := s.heap.push { cls := .type "list", data := .seq its.toArray }, toks := tk } := fun ys its tk e r hl => by
    subst e
    refine ⟨.ref s.heap.objs.size, _, I.laid (o := .lst ((Txt.split y z).map V.str)) (fun b ob q => Heap.get?_push_of_some _ q) (Nat.le_refl _) ?_, rfl, q _ (I.hok.fresh (Nat.le_refl _))⟩
    exact ⟨by rw [List.length_map]; exact hl, its, 0, r, Heap.get?_push_size _ rfl⟩
  cases h1 : (decide (y.length < z.length) || decide (Builtin.Str.strKind y < Builtin.Str.strKind z)) with
  | true =>
    refine call_meets F.slot_str_split (typeIs_str _ _ _) F.entry_str_split (F.args_str_split_2 _ _) (meets_str_split_cannot_occur y z t t' h1) ?_
    exact fin [y] [.str y t] s.toks (by unfold Txt.split; simp [h1]) (.cons ⟨t, rfl⟩ .nil) (by show 1 ≤ sizeLine; decide)
  | false =>
    cases hf : (Builtin.Str.occurrences y z 0 y.length (y.length + 1)).isEmpty with
    | true =>
      refine call_meets F.slot_str_split (typeIs_str _ _ _) F.entry_str_split (F.args_str_split_2 _ _) (meets_str_split_not_found y z t t' h1 hz' hf) ?_
      exact fin [y] [.str y t] s.toks (by unfold Txt.split; simp [h1, hf]) (.cons ⟨t, rfl⟩ .nil) (by show 1 ≤ sizeLine; decide)
    | false =>
      have hl : (Builtin.Str.partsBetween y (Builtin.Str.occurrences y z 0 y.length (y.length + 1)) z.length).length ≤ sizeLine := by
        rw [length_partsBetween]
        have := StrLaws.occ_length_le_len y z 0 y.length (y.length + 1)
        omega
      refine call_meets F.slot_str_split (typeIs_str _ _ _) F.entry_str_split (F.args_str_split_2 _ _) (meets_str_split_sep y z t t' h1 hz' hf (Nat.le_trans (Nat.le_add_right _ _) hy) hl) ?_
      exact fin _ _ _ (by unfold Txt.split; simp [h1, hf]) (vals_from _ _) hl
noncomputable def rPart : V → List V → Hp → VK → Prop := fun x vs H Q => ∃ y z, x = .str y ∧ vs = [.str z] ∧ z.length ≠ 0 ∧ y.length ≤ sizeLine ∧ ∀ l, H l = none → Q (.ref l) (upd H l (.tup [.str (Txt.partition y z).1, .str (Txt.partition y z).2.1, .str (Txt.partition y z).2.2]))
theorem mt_part : MtR X "str.partition" rPart := by
  intro pins s σ H x vs v us Q I rx rv h
  obtain ⟨y, z, rfl, rfl, hz, hy, q⟩ := h
  obtain ⟨t, rfl⟩ := rx
  obtain ⟨u, rfl, ru⟩ := rv.one
  obtain ⟨t', rfl⟩ := ru
  have hz' : (z.length == 0) = false := by simpa using hz
  have fin : ∀ (a b c : Str) (ta tb tc : Tok) (tk : Nat), Txt.partition y z = (a, b, c) → EP X pins σ Q (.ref s.heap.objs.size) { s with heap := s.heap.push { cls := .type "tuple", data := .seq [.str a ta, .str b tb, .str c tc].toArray }, toks := tk } := fun a b c ta tb tc tk e => by
    rw [e] at q
    refine ⟨.ref s.heap.objs.size, _, I.laid (o := .tup [.str a, .str b, .str c]) (fun b ob q => Heap.get?_push_of_some _ q) (Nat.le_refl _) ?_, rfl, q _ (I.hok.fresh (Nat.le_refl _))⟩
    exact ⟨by show 3 ≤ sizeLine; decide, _, .cons ⟨_, rfl⟩ (.cons ⟨_, rfl⟩ (.cons ⟨_, rfl⟩ .nil)), ⟨_, Heap.get?_push_size _ rfl, rfl, _, rfl⟩⟩
  refine call_meets F.slot_str_partition (typeIs_str _ _ _) F.entry_str_partition (F.args_str_partition_2 _ _) (meets_str_partition y z t t' hz' hy) ?_
  cases ho : Builtin.Str.occurrences y z 0 y.length 1 with
  | nil => exact fin _ _ _ _ _ _ _ (by unfold Txt.partition; rw [ho])
  | cons i r => exact fin _ _ _ _ _ _ _ (by unfold Txt.partition; rw [ho])
noncomputable def tFv (te : TE) : TE := fun σ H Q => te σ H fun x H1 => (∃ i, x = .int i ∧ i.natAbs.log2 < 1920 ∧ Q (.str (toString i)) H1) ∨ ∃ y, x = .str y ∧ y.length ≤ sizeLine ∧ Q (.str y) H1
theorem pe_fv {e : Expr} {te : TE} {pos : Pos} (he : PE X e te) : PE X (.FormattedValue e (-1) none pos) (tFv te) := by
  intro pins s σ H Q I h
  refine FormattedValue_plain (thn (he pins s σ H _ I h) fun v s1 hpt9 => ?_)
  obtain ⟨x, H1, I1, r1, q1⟩ := hpt9
  rcases q1 with ⟨i, rfl, hi, q⟩ | ⟨y, rfl, hy, q⟩
  · obtain ⟨t, rfl⟩ := r1
    exact formatField_int_small hi ⟨.str _, H1, I1.tok _, ⟨_, rfl⟩, q⟩
  · obtain ⟨t, rfl⟩ := r1
    exact formatField_str (fun t' tk => ⟨.str _, H1, I1.tok tk, ⟨t', rfl⟩, q⟩) hy
theorem pe_js1 {e : Expr} {te : TE} {pos : Pos} (he : PE X e te) : PE X (.JoinedStr [e] pos) te := fun pins s σ H Q I h => JoinedStr_one (he pins s σ H Q I h)
noncomputable def tJs : List TE → Str → TE
  | [], acc => fun _ H Q => acc.length ≤ sizeLine ∧ Q (.str acc) H
  | t :: ts, acc => fun σ H Q => t σ H fun x H1 => ∃ y, x = .str y ∧ (acc ++ y).length ≤ sizeLine ∧ tJs ts (acc ++ y) σ H1 Q
inductive PJ (X : Cx) : List Expr → List TE → Prop
  | nil : PJ X [] []
  | cons {e : Expr} {t : TE} {es : List Expr} {ts : List TE} : PE X e t → PJ X es ts → PJ X (e :: es) (t :: ts)
theorem pj_run {es : List Expr} {ts : List TE} (h : PJ X es ts) : ∀ (acc : Str) (pins : List (Addr × Obj)) (s : Shared) (σ : St) (H : Hp) (Q : VK), Inv X pins σ H s → tJs ts acc σ H Q → wpAny (model X.prog X.w) X.A (joinParts acc (evalEach es X.env)) (EP X pins σ Q) X.xe s := by
  induction h with
  | nil =>
    intro acc pins s σ H Q I q
    exact joinParts_nil ⟨.str acc, H, I.tok _, ⟨_, rfl⟩, q.2⟩ q.1
  | cons he _ ih =>
    intro acc pins s σ H Q I q
    refine joinParts_cons (thn (he pins s σ H _ I q) fun v s1 hv => ?_)
    obtain ⟨x, H1, I1, r1, y, rfl, hy, q1⟩ := hv
    obtain ⟨t, rfl⟩ := r1
    exact ⟨hy, ih _ pins s1 σ H1 Q I1 q1⟩
theorem pe_js {a b : Expr} {es : List Expr} {ts : List TE} {pos : Pos} (h : PJ X (a :: b :: es) ts) : PE X (.JoinedStr (a :: b :: es) pos) (tJs ts Str.empty) := fun pins s σ H Q I q => JoinedStr_many (pj_run h Str.empty pins s σ H Q I q)
end
end L2
namespace M
open PySem L2
section
variable {K : PySem.W.Frag} {S S' H H' : Hp}
noncomputable def strsOf : List D → Option (List Str)
  | [] => some []
  | .str x :: l => (strsOf l).map fun r => x :: r
  | _ :: _ => none
theorem strsOf_is : ∀ {l : List D} {ys : List Str}, strsOf l = some ys → l = ys.map D.str
  | [], ys, h => by cases h; rfl
  | d :: l, ys, h => by
    cases d <;> try (cases h; done)
    rename_i x
    have h : (strsOf l).map (fun r => x :: r) = some ys := h
    cases q : strsOf l with
    | none => rw [q] at h; cases h
    | some r => rw [q] at h; cases h; rw [strsOf_is q]; rfl
theorem dens_strs : ∀ {ys : List Str} {xs : List V}, Dens K S (ys.map D.str) xs → xs = ys.map V.str
  | [], xs, h => h
  | b :: bs, xs, h => by
    obtain ⟨y, ys, rfl, a, r⟩ := h
    rw [den_str.mp a, dens_strs r]; rfl
theorem strs_dens : ∀ ys : List Str, Dens K S (ys.map D.str) (ys.map V.str)
  | [] => .nil
  | _ :: ys => .cons (den_str.mpr rfl) (strs_dens ys)
noncomputable def dJoin : D → D → Option D
  | .str sep, .lst l => (strsOf l).bind fun ys => if (ys.map (·.length)).sum + ys.length * sep.length ≤ LIM then some (.str (Txt.join sep ys)) else none
  | _, _ => none
theorem s_bm2 {T : String} {r : V → List V → Hp → VK → Prop} {f : D → D → Option D} {ta tb : TE} {a b : XE} (ht : ∀ {d e : D} {g : D}, f d e = some g → ∃ x, d = .str x) (hT : T = "str")
    (hr : ∀ S H y e g (Q : VK) v, Same S H → DenP K S H e v → f (.str y) e = some g → (∀ v S' H', Ext S H S' H' → Den K S' g v → Q v H') → r (.str y) [v] H Q)
    (ha : SPk K ta a) (hb : SPk K tb b) : SE K (tBM K T r ta (tCons tb tNil)) (xOp f a b) := fun ρ σ S H Q g rl x k => by
  unfold xOp at x
  cases qa : a ρ with
  | none => rw [qa] at x; cases x
  | some da =>
    rw [qa] at x
    dsimp only [Option.bind] at x
    cases qb : b ρ with
    | none => rw [qb] at x; cases x
    | some db =>
      rw [qb] at x
      have x : f da db = some g := x
      obtain ⟨y, rfl⟩ := ht x
      refine ha ρ σ S H _ _ rl qa fun v S1 H1 z1 d1 => ?_
      rw [d1.str]
      refine ⟨hT, ?_⟩
      refine hb ρ σ S1 H1 _ _ (rl.ext z1) qb fun v S2 H2 z2 d2 => ?_
      exact hr S2 H2 y db g Q v z2.sub d2 x fun v S3 H3 z3 d3 => k v S3 H3 (z1.trans (z2.trans z3)) d3
theorem s_join {ta tb : TE} {a b : XE} (ha : SPk K ta a) (hb : SPk K tb b) : SE K (tBM K "str" (rJoin K) ta (tCons tb tNil)) (xOp dJoin a b) := s_bm2 (fun {d e g} h => by
    cases d <;> first | (cases h; done) | exact ⟨_, rfl⟩) rfl (fun S H y e g Q v s d x k => by
    cases e <;> try (cases x; done)
    rename_i l
    have x : ((strsOf l).bind fun ys => if (ys.map (·.length)).sum + ys.length * y.length ≤ LIM then some (D.str (Txt.join y ys)) else none) = some g := x
    cases q : strsOf l with
    | none => rw [q] at x; cases x
    | some ys =>
      rw [q] at x
      dsimp only [Option.bind] at x
      split at x
      · rename_i hl
        cases x
        obtain ⟨p, xs, rfl, h1, h2⟩ := d.lst s
        have e := strsOf_is q
        subst e
        have e := dens_strs h2
        subst e
        have := lim_is
        exact ⟨y, p, ys, rfl, rfl, .inl h1, by rw [lim_is] at hl; omega, k _ S H (Ext.refl s) (den_str.mpr rfl)⟩
      · cases x) ha hb
noncomputable def dPart : D → D → Option D
  | .str y, .str z => if z.length ≠ 0 ∧ y.length ≤ LIM then some (.tup [.str (Txt.partition y z).1, .str (Txt.partition y z).2.1, .str (Txt.partition y z).2.2]) else none
  | _, _ => none
theorem s_partn {ta tb : TE} {a b : XE} (ha : SPk K ta a) (hb : SPk K tb b) : SE K (tBM K "str" rPart ta (tCons tb tNil)) (xOp dPart a b) := s_bm2 (fun {d e g} h => by
    cases d <;> first | (cases h; done) | exact ⟨_, rfl⟩) rfl (fun S H y e g Q v s d x k => by
    cases e <;> try (cases x; done)
    rename_i z
    have x : (if z.length ≠ 0 ∧ y.length ≤ LIM then some (D.tup [.str (Txt.partition y z).1, .str (Txt.partition y z).2.1, .str (Txt.partition y z).2.2]) else none) = some g := x
    split at x
    · rename_i c
      cases x
      rw [d.str]
      refine ⟨y, z, rfl, rfl, c.1, lim_le c.2, fun l hl => ?_⟩
      have z4 := Ext.new (o := .tup [.str (Txt.partition y z).1, .str (Txt.partition y z).2.1, .str (Txt.partition y z).2.2]) s hl
      exact k _ _ _ z4 (den_tup.mpr ⟨l, _, rfl, TpA.of upd_same, .cons (den_str.mpr rfl) (.cons (den_str.mpr rfl) (.cons (den_str.mpr rfl) .nil))⟩)
    · cases x) ha hb
noncomputable def dSplit : D → D → Option D
  | .str y, .str z => if z.length ≠ 0 ∧ y.length + 2 ≤ LIM then some (.lst ((Txt.split y z).map D.str)) else none
  | _, _ => none
theorem s_split {ta tb : TE} {a b : XE} (ha : SPk K ta a) (hb : SPk K tb b) : SE K (tBM K "str" rSplit ta (tCons tb tNil)) (xOp dSplit a b) := s_bm2 (fun {d e g} h => by
    cases d <;> first | (cases h; done) | exact ⟨_, rfl⟩) rfl (fun S H y e g Q v s d x k => by
    cases e <;> try (cases x; done)
    rename_i z
    have x : (if z.length ≠ 0 ∧ y.length + 2 ≤ LIM then some (D.lst ((Txt.split y z).map D.str)) else none) = some g := x
    split at x
    · rename_i c
      cases x
      rw [d.str]
      refine ⟨y, z, rfl, rfl, c.1, lim_le c.2, fun l hl => ?_⟩
      have z4 := Ext.new (o := .lst ((Txt.split y z).map V.str)) s hl
      exact k _ _ _ z4 (den_lst.mpr ⟨l, _, rfl, .inl upd_same, strs_dens _⟩)
    · cases x) ha hb
noncomputable def fvD : D → Option D
  | .int i => if i.natAbs.log2 < 1920 then some (.str (toString i)) else none
  | .str y => if y.length ≤ LIM then some (.str y) else none
  | _ => none
@[simp] noncomputable def xFv (e : XE) : XE := fun ρ => (e ρ).bind fvD
theorem s_fv {te : TE} {e : XE} (h : SPk K te e) : SE K (tFv te) (xFv e) := fun ρ σ S H Q g r x k => by
  unfold xFv at x
  cases q : e ρ with
  | none => rw [q] at x; cases x
  | some d =>
    rw [q] at x
    replace x : fvD d = some g := x
    refine h ρ σ S H _ _ r q fun v S1 H1 z1 d1 => ?_
    cases d <;> try (cases x; done)
    · rename_i i
      replace x : (if i.natAbs.log2 < 1920 then some (D.str (toString i)) else none) = some g := x
      split at x
      · rename_i c
        cases x
        exact .inl ⟨i, d1.int, c, k _ S1 H1 z1 (den_str.mpr rfl)⟩
      · cases x
    · rename_i y
      replace x : (if y.length ≤ LIM then some (D.str y) else none) = some g := x
      split at x
      · rename_i c
        cases x
        exact .inr ⟨y, d1.str, lim_le c, k _ S1 H1 z1 (den_str.mpr rfl)⟩
      · cases x
noncomputable def xJs : List XE → Str → XE
  | [], acc => fun _ => if acc.length ≤ LIM then some (.str acc) else none
  | a :: as, acc => fun ρ => (a ρ).bind fun d => match d with
    | .str y => if (acc ++ y).length ≤ LIM then xJs as (acc ++ y) ρ else none
    | _ => none
inductive SJ (K : PySem.W.Frag) : List TE → List XE → Prop
  | nil : SJ K [] []
  | cons {t : TE} {a : XE} {ts : List TE} {as : List XE} : SPk K t a → SJ K ts as → SJ K (t :: ts) (a :: as)
theorem s_js {ts : List TE} {as : List XE} (h : SJ K ts as) : ∀ acc : Str, SE K (tJs ts acc) (xJs as acc) := by
  induction h with
  | nil =>
    intro acc ρ σ S H Q g r x k
    have x : (if acc.length ≤ LIM then some (D.str acc) else none) = some g := x
    split at x
    · rename_i c
      cases x
      exact ⟨lim_le c, k _ S H (Ext.refl r.sub) (den_str.mpr rfl)⟩
    · cases x
  | @cons t a ts as ha _ ih =>
    intro acc ρ σ S H Q g r x k
    cases q : a ρ with
    | none => rw [xJs] at x; dsimp only at x; rw [q] at x; cases x
    | some d =>
      rw [xJs] at x
      dsimp only at x
      rw [q] at x
      dsimp only [Option.bind] at x
      cases d <;> try (cases x; done)
      rename_i y
      dsimp only at x
      split at x
      · rename_i c
        refine ha ρ σ S H _ _ r q fun v S1 H1 z1 d1 => ?_
        exact ⟨y, d1.str, lim_le c, ih _ ρ σ S1 H1 Q g (r.ext z1) x fun v S2 H2 z2 d2 => k v S2 H2 (z1.trans z2) d2⟩
      · cases x
end
end M
namespace L2
open PySem PySem.Spec PyProof.Rows
section
variable {M : Model} {A : Around} {Ex : Value → Shared → Prop} {s : Shared}
theorem note_any {base : Heap} {env : Env} {outer : List Env} {L e : Addr} {cls a0 fl : Value} {Q : Unit → Shared → Prop}
    (hfr : A.frames = some (env :: outer)) (hl : s.heap.FunFrames base (env :: outer)) (hf : env.frame = some L) (ht : s.heap.TracedAtW base e cls a0 fl) (hkb : base.StaysIn s.heap) (hen : base.get? e = none)
    (h : ∀ h', Heap.NotedW base (env :: outer) e cls a0 (rawInt L) s.heap h' → Q () { s with heap := h' }) : wpAny M A (noteFrame (.ref e) env) Q Ex s := by
  by_cases q : (fl == rawInt L) = true
  · have e1 : fl = rawInt L := beq_iff_eq.mp q
    subst e1
    exact wpAny_noteFrame_againW hf ht (h s.heap ⟨hkb, hl, ht, fun b o e _ => ⟨o.slots, e⟩⟩)
  · obtain ⟨oe, vs, T, oT, ts, he, ⟨hcls, h0⟩, hd, h1, hnT, hTe, hT, hdT, h3⟩ := ht
    subst hcls
    unfold noteFrame
    simp only [hf]
    refine wpAny_bind (wpAny_field he hd h1 ?_)
    rw [if_pos (show (Value.ref T != Value.none) = true from by simp)]
    refine wpAny_bind (wpAny_field hT hdT h3 ?_)
    rw [if_neg q]
    refine wpAny_bind (wpAny_setField hT hdT (Array.getElem?_eq_some_iff.mp h3).1 ?_)
    have other : ∀ b, b ≠ T → (s.heap.update T (Obj.mapFields (·.setIfInBounds 3 Value.none))).get? b = s.heap.get? b := fun b hb => Heap.get?_update_other _ _ (Ne.symm hb)
    have noRecord : ∀ b o, s.heap.get? b = some o → (∀ vs, o.data ≠ .fields vs) → b ≠ T := fun b o hb hnf q => by
      rw [q, hT] at hb; injection hb with hb; subst hb; exact hnf ts hdT
    refine wpAny_entryW hfr (hl.of_keeps fun b o hb hnf => ⟨o, (other b (noRecord b o hb hnf)).trans hb, rfl⟩) hf ((other e (Ne.symm hTe)).trans he)
      (fun b o hbo => (other b fun q => by rw [q, hnT] at hbo; cases hbo).trans (hkb b o hbo)) hen hd (Array.getElem?_eq_some_iff.mp h1).1 h0
      fun h' ⟨x1, x2, x3, x4⟩ => h h' ⟨x1, x2, x3, fun b o hb hnf => x4 b o ((other b (noRecord b o hb hnf)).trans hb) hnf⟩
theorem pass_any {α : Type} {base : Heap} {l : List Env} {e : Addr} {cls a0 fl : Value} {what : String} {env : Env} {Q : α → Shared → Prop} (hkb : base.StaysIn s.heap) (hl : s.heap.FunFrames base l) (ht : s.heap.TracedAtW base e cls a0 fl)
    (h : ∀ h' fl', base.StaysIn h' → h'.FunFrames base l → h'.TracedAtW base e cls a0 fl' → s.heap.UpToSlots h' → Ex (.ref e) { s with heap := h' }) :
    wpAny M A (PySem.passOn what (.ref e) env : Sem α) Q Ex s := by
  obtain ⟨oe, vs, T, oT, ts, he, hcls, hd, h1, hnT, hTe, hT, hdT, h3⟩ := ht
  have hsz3 : 3 < ts.size := (Array.getElem?_eq_some_iff.mp h3).1
  have other : ∀ b, b ≠ T → (s.heap.update T (Obj.mapFields (·.setIfInBounds 3 (env.frame.elim Value.none fun f => rawInt f)))).get? b = s.heap.get? b :=
    fun b hb => Heap.get?_update_other _ _ (Ne.symm hb)
  have noRecord : ∀ b o, s.heap.get? b = some o → (∀ vs, o.data ≠ .fields vs) → b ≠ T := fun b o hb hnf q => by
    rw [q, hT] at hb; injection hb with hb; subst hb; exact hnf ts hdT
  unfold PySem.passOn
  refine wpAny_bind (wpAny_field he hd h1 ?_)
  rw [if_neg (show ¬ ((Value.ref T == Value.none) = true) from by simp)]
  refine wpAny_bind (?_ : wpAny M A (setFlight (.ref e) env.frame) _ _ _)
  unfold setFlight
  refine wpAny_bind (wpAny_field he hd h1 ?_)
  rw [if_pos (show (Value.ref T != Value.none) = true from by simp)]
  refine wpAny_setField hT hdT hsz3 (wpAny_throw (h _ (env.frame.elim Value.none fun f => rawInt f) (fun b o hbo => (other b fun q => by rw [q, hnT] at hbo; cases hbo).trans (hkb b o hbo))
    (hl.of_keeps fun b o hb hnf => ⟨o, (other b (noRecord b o hb hnf)).trans hb, rfl⟩) ?_ fun b o hb hnf => ⟨o.slots, (other b (noRecord b o hb hnf)).trans hb⟩))
  exact ⟨oe, vs, T, _, _, (other e (Ne.symm hTe)).trans he, hcls, hd, h1, hnT, hTe, Heap.get?_update_self _ hT (Obj.isFreed_of_fields (Obj.data_mapFields hdT _)), Obj.data_mapFields hdT _, by simp [hsz3]⟩
theorem funFrames_less {B B' h h' : Heap} {C : Addr} (k : ∀ b, B.get? b = none → B'.get? b = none) (k' : ∀ b o, b ≠ C → h.get? b = some o → h'.get? b = some o) : ∀ {l : List Env}, C ∉ frs l → h.FunFrames B l → h'.FunFrames B' l
  | [], _, _ => trivial
  | env :: l, hC, hpt0 => by
    obtain ⟨hk, ⟨L, o, hf, hn, ho, hd⟩, hr⟩ := hpt0
    have e1 : frs (env :: l) = L :: frs l := by unfold frs; rw [List.filterMap_cons, hf]
    rw [e1] at hC
    exact ⟨hk, ⟨L, o, hf, k L hn, k' L o (fun z => hC (by rw [z]; exact .head _)) ho, hd⟩, funFrames_less k k' (fun z => hC (.tail _ z)) hr⟩
end
noncomputable def Lands (X : Cx) (E : XK) : Prop := ∀ (pins : List (Addr × Obj)) (σ : St) (H : Hp) (s : Shared) (e : Addr) (cls a0 fl : Value) (B : Heap), Inv X pins σ H s → E cls none H → B.StaysIn s.heap → B.get? e = none → s.heap.FunFrames B X.stack → s.heap.TracedAtW B e cls a0 fl →
  (∀ b u, H b = some u → ∃ o, B.get? b = some o) → (∀ b o, X.s₀.heap.get? b = some o → b ∉ X.fs → ∃ o', B.get? b = some o') → X.xe (.ref e) s
section
variable {P : Program} {w : World} {K : PySem.W.Frag} {mg : Str → Option Value} {base : Heap} {N : List Str} {qual : Str} {scope : Scope} {f : Addr} {cdv : Value} {A : Around} {outer : List Env} {s : Shared} {H : Hp} {E : XK}
theorem lands_e : Lands (cxOf (CXe P w) P w K mg base N qual scope f cdv A outer s H E) E := by
  intro pins σ H1 s1 e cls a0 fl B I hE hB hen hl ht k1 k2
  show wpAny _ _ (leaving _ _) _ _ _
  unfold leaving
  refine wpAny_bind (note_any I.ok.frames hl rfl ht hB hen fun h1 hpt9 => ?_)
  obtain ⟨x1, x2, x3, x4⟩ := hpt9
  refine wpAny_setFlight_noneW x1 x2 x3 fun h2 y1 y2 y3 y4 => ?_
  obtain ⟨_, _, y2⟩ := y2
  exact fly_out (X := cxOf (CXe P w) P w K mg base N qual scope f cdv A outer s H E) (s := s1) I rfl hE hB k1 k2 ⟨y1, hen, y2, y3⟩ (Heap.UpToSlots.trans x4 fun b o q nf => ⟨o.slots, y4 b o q nf⟩)
end
noncomputable def XW (X : Cx) (N : List Str) (scope : Scope) (z : CxZ) (E : XK) : Value → Shared → Prop := fun v s' => ∃ pins σ H1 s1, Inv (cxC X N scope z) pins σ H1 s1 ∧ CXe X.prog X.w X.stack H1 s1 E v s'
section
variable {X : Cx} {pins : List (Addr × Obj)} {σ : St} {H : Hp} {s : Shared} {XN N : List Str} {sc scope : Scope} {js : List (Option Nat)}
variable {tg iter elt : Expr} {ifs : List Expr} {pos : Pos} {wi : TI} {g : TG} {tt : TIf} {te : TE} {E : XK}
theorem comp_loopX {WX : Value → Shared → Prop} {R : Result → Shared → Prop} {it D : Addr} {fp : List Addr} {tn : Nat → Heap → Prop} {J : It} {z : CxZ} {W : Nat → Nat → Hp → Prop} {n : Nat}
    (hc : X.calm = true) (T : Turn X.prog X.w X.K tg J fp it tn) (hz : ∀ b ∈ fp, ∀ H', H' b = none → FpOk (cxC X N scope z) [] H' b)
    (hW : ∀ v s', WX v s' → notedBy (model X.prog X.w) X.A (compEnvC scope z.cl z.C X.env) (fun e s' => R (.error e) s') v s')
    (hg : PG ((cxC X N scope z).wish WX) tg g) (hs : Sets js g) (ht : PIf ((cxC X N scope z).wish WX) ifs tt) (he : PE ((cxC X N scope z).wish WX) elt te)
    (turn : ∀ i m H, W i m H → (J.stop i H ∧ ∀ s', Inv (cxC X N scope z) [] (inn js σ) H s' → R (.ok .next) s') ∨ (J.go i H ∧ ∀ x H', J.yld i H x H' → g x (inn js σ) H' fun σ2 H2 => tt σ2 H2 fun b H3 =>
      if b = true then te σ2 H3 fun y H4 => ∃ ys, H4 D = some (.lst ys) ∧ ys.length < sizeLine ∧ ∃ m', m' < m ∧ W (i + 1) m' (upd H4 D (.lst (ys ++ [y]))) else ∃ m', m' < m ∧ W (i + 1) m' H3))
    {s1 : Shared} {H1 : Hp} (I1 : Inv (cxC X N scope z) [] (inn js σ) H1 s1) (t1 : tn 0 s1.heap) (f1 : ∀ b ∈ fp, H1 b = none) (w1 : W 0 n H1) :
    codeAny (model X.prog X.w) X.A (.compLoop (.ListComp elt [⟨tg, iter, ifs, 0⟩] scope pos) 0 (.ref it) (.ref D) (compEnvC scope z.cl z.C X.env)) R s1 := by
  refine codeAny_loop (c := .compLoop (.ListComp elt [⟨tg, iter, ifs, 0⟩] scope pos) 0 (.ref it) (.ref D) (compEnvC scope z.cl z.C X.env)) rfl
    (fun k s' => ∃ i H', Inv (cxC X N scope z) [] (inn js σ) H' s' ∧ tn i s'.heap ∧ (∀ b ∈ fp, H' b = none) ∧ W i k H') ?_ n ⟨0, H1, I1, t1, f1, w1⟩
  rintro k s2 ⟨i, H2, I2, t2, f2, w2⟩
  show wpAny (model X.prog X.w) X.A ((compTurn (.ListComp elt [⟨tg, iter, ifs, 0⟩] scope pos) 0 (.ref it) (.ref D) (compEnvC scope z.cl z.C X.env)).onRaise fun x => do noteFrame x (compEnvC scope z.cl z.C X.env); theTreesLotGoes x) _ _ s2
  refine wpAny_noted ?_
  rw [compTurn_list]
  refine wpAny_bind (wpAny_standAt ?_)
  rcases turn i k H2 w2 with ⟨stop, fin⟩ | ⟨go, step⟩
  · refine wpAny_bind (thn (T.done (cxC X N scope z) rfl rfl rfl hc i [] s2 (inn js σ) H2 _ I2 (fun b hb => hz b hb H2 (f2 b hb)) t2 stop) fun r s3 h3 => ?_)
    obtain ⟨rfl, I3⟩ := h3
    exact wpAny_pure (fin s3 I3)
  · refine wpAny_bind (thn (T.item (cxC X N scope z) rfl rfl rfl hc i [] s2 (inn js σ) H2 _ I2 (fun b hb => hz b hb H2 (f2 b hb)) t2 go) fun r s3 h3 => ?_)
    obtain ⟨u, rfl, h3⟩ := h3
    refine wpAny_bind (thn h3 fun _ s4 h4 => ?_)
    obtain ⟨x, H4, I4, r4, y4, t4, f4⟩ := h4
    have P4 := I4.pinned (fun b hb => hz b hb H4 (f4 b hb)) (T.obj _ _ t4)
    refine wpAny_bind (wpAny_mono (hg _ s4 (inn js σ) H4 x u _ (P4.wish _) r4 (hs σ x (inn js σ) H4 _ (Lev.refl _) (step x H4 y4))) (fun _ s5 h5 => ?_) fun v s' h => hW v s' h)
    obtain ⟨σ5, H5, I5, lev, q5⟩ := h5
    refine wpAny_bind (wpAny_mono (ht _ s5 σ5 H5 _ I5 q5) (fun ok s6 h6 => ?_) fun v s' h => hW v s' h)
    obtain ⟨H6, I6, q6⟩ := h6
    have again : ∀ {s7 : Shared} {H7 : Hp}, Inv (cxC X N scope z) ([] ++ pinsAt fp s4.heap) σ5 H7 s7 → (∃ m', m' < k ∧ W (i + 1) m' H7) → ∃ m, m < k ∧ ∃ i H', Inv (cxC X N scope z) [] (inn js σ) H' s7 ∧ tn i s7.heap ∧ (∀ b ∈ fp, H' b = none) ∧ W i m H' := fun {s7 H7} I7 h7 => by
      obtain ⟨m', hm, w7⟩ := h7
      refine ⟨m', hm, i + 1, H7, (I7.unpinned).weak lev.1 lev.2, T.keep _ _ _ t4 fun b hb o e => (I7.pin (b, o) (List.mem_append_right _ (List.mem_append_right _ (mem_pinsAt hb e)))).1, fun b hb => ?_, w7⟩
      obtain ⟨o, e, d⟩ := T.obj _ _ t4 b hb
      exact (I7.pin (b, o) (List.mem_append_right _ (List.mem_append_right _ (mem_pinsAt hb e)))).2.1
    cases ok with
    | false =>
      rw [if_neg (by decide)] at q6
      exact wpAny_pure ⟨rfl, again I6.unwish q6⟩
    | true =>
      rw [if_pos rfl] at q6
      refine wpAny_bind (wpAny_bind (wpAny_mono (he _ s6 σ5 H6 _ I6 q6) (fun y s7 h7 => ?_) fun v s' h => hW v s' h))
      obtain ⟨vy, H7, I7, r7, ys, hD, hl, q7⟩ := h7
      refine wpAny_bind (wpAny_mono (mt_append (X := (cxC X N scope z).wish WX) _ s7 σ5 H7 (.ref D) [vy] (.ref D) [y] (fun _ H' => ∃ m', m' < k ∧ W (i + 1) m' H') I7 rfl (.cons r7 .nil) ⟨D, ys, vy, rfl, rfl, hD, hl, q7⟩) (fun _ s8 h8 => ?_) fun v s' h => hW v s' h)
      obtain ⟨_, H8, I8, _, q8⟩ := h8
      exact wpAny_pure (wpAny_pure ⟨rfl, again I8.unwish q8⟩)
theorem comp_blockX {Eo : Value → Shared → Prop} {RR : Value → Addr → Result → Shared → Prop} {Q : VK} {itv : Value} {s2 : Shared} (ck : CmpOk XN sc scope N js) (hXN : X.N = XN) (hsc : X.env.scope = sc) (hc : X.calm = true) (hst : X.stack = X.env :: X.outer) (hfr : X.env.frame = some X.env.locals)
    (hg : ∀ z W, PG ((cxC X N scope z).wish W) tg g) (hs : Sets js g) (ht : ∀ z W, PIf ((cxC X N scope z).wish W) ifs tt) (he : ∀ z, PE ((cxC X N scope z).wish (XW X N scope z E)) elt te)
    (h2 : PIE X pins σ tg (fun J H1 => ∀ D, H1 D = none → ∃ W : Nat → Nat → Hp → Prop, (∃ m, W 0 m (upd H1 D (.lst []))) ∧ ∀ i m H, W i m H →
      (J.stop i H ∧ Q (.ref D) H) ∨ (J.go i H ∧ ∀ x H', J.yld i H x H' → g x (inn js σ) H' fun σ2 H2 => tt σ2 H2 fun b H3 =>
        if b = true then te σ2 H3 fun y H4 => ∃ ys, H4 D = some (.lst ys) ∧ ys.length < sizeLine ∧ ∃ m', m' < m ∧ W (i + 1) m' (upd H4 D (.lst (ys ++ [y]))) else ∃ m', m' < m ∧ W (i + 1) m' H3)) itv s2)
    (hRR : ∀ D C s' H' m o, Inv X (pins ++ [(C, o)]) σ H' s' → s'.heap.Ns C m → (X.s₀.heap.objs.size ≤ C ∧ C ≠ X.env.locals ∧ (∀ x c, X.env.cells.lookup x = some c → c ≠ C) ∧ ∀ p ∈ X.pn ++ pins, p.1 ≠ C) → H' C = none → Q (.ref D) H' → RR (.ref D) C (.ok .next) s')
    (hRE : ∀ D C s1 H1 s' H' m e cls a0 L B, Inv X pins σ H1 s1 → s'.os = s1.os → AllBare s'.gens → Un (frs X.stack) [] H1 H' s1.heap s'.heap → HOk X.prog X.w H' s'.heap → s'.heap.Ns C m → (X.s₀.heap.objs.size ≤ C ∧ C ≠ X.env.locals ∧ (∀ x c, X.env.cells.lookup x = some c → c ≠ C) ∧ ∀ p ∈ X.pn ++ pins, p.1 ≠ C) → H' C = none → E cls none H' → Heap.HeldW B X.stack e cls a0 L s'.heap → C ∉ frs X.stack →
      (∃ o, B.get? C = some o) → (∀ b u, H' b = some u → ∃ o, B.get? b = some o) → (∀ b o, s1.heap.get? b = some o → b ∉ frs X.stack → ∃ o', B.get? b = some o') → RR (.ref D) C (.error (.ref e)) s') :
    wpAny (model X.prog X.w) X.A (newList []) (fun acc s₃ => wpAny (model X.prog X.w) X.A (newFunctionEnv scope X.env.globals (clOf X.env scope.names []) [] X.env.qual none .none (some X.env)) (fun cenv s₄ =>
      codeAny (model X.prog X.w) X.A (.compStart (.ListComp elt [⟨tg, iter, ifs, 0⟩] scope pos) 0 itv acc { cenv with scope := relabel scope X.env }) (RR acc cenv.locals) s₄) Eo s₃) Eo s2 := by
  obtain ⟨it, fp, tn, J, H2, rfl, I2, T, t2, f2, q2⟩ := h2
  have fo : ∀ b ∈ fp, b < s2.heap.objs.size := fun b hb => by
    obtain ⟨o, e, _⟩ := T.obj _ _ t2 b hb
    exact Heap.lt_size e
  have hD : H2 s2.heap.objs.size = none := I2.fresh
  obtain ⟨W, ⟨n, w0⟩, turn⟩ := q2 _ hD
  refine wpAny_newObj_type (wpAny_newFunctionEnv ck.cell (by intro y hy; simp at hy) (fun h1 hns hsb => ?_) ck.kind)
  have I3 : Inv X pins σ (upd H2 s2.heap.objs.size (.lst [])) { s2 with heap := s2.heap.push { cls := .type "list", data := .seq ([] : List Value).toArray }, toks := s2.toks } := I2.lnew (its := []) .nil (Nat.zero_le _)
  have f3 : ∀ b ∈ fp, FpOk X pins (upd H2 s2.heap.objs.size (.lst [])) b := fun b hb => by
    obtain ⟨g0, g1⟩ := f2 b hb
    exact ⟨by rw [upd_ne (Nat.ne_of_lt (fo b hb))]; exact g0, g1⟩
  have sz : (s2.heap.push { cls := .type "list", data := .seq ([] : List Value).toArray }).objs.size = s2.heap.objs.size + 1 := Heap.size_push _ _
  have kept : ∀ b o, (s2.heap.push { cls := .type "list", data := .seq ([] : List Value).toArray }).get? b = some o → h1.get? b = some o := fun b o e =>
    hsb.extBut b o (Nat.ne_of_lt (Heap.lt_size e)) (Heap.get?_push_of_some _ e)
  have I4 := inv_comp (tk := s2.toks + ([] : List (Str × Value)).length) ck hXN hsc I3 f3 (fun b hb => by show b < (s2.heap.push _).objs.size; rw [sz]; exact Nat.lt_succ_of_lt (fo b hb)) hns kept
  have t4 : tn 0 h1 := T.keep _ _ _ t2 fun b hb o e => kept b o (Heap.get?_push_of_some _ e)
  have fz : ∀ b ∈ fp, ∀ H', H' b = none → FpOk (cxC X N scope ⟨clOf X.env scope.names [], (s2.heap.push { cls := .type "list", data := .seq ([] : List Value).toArray }).objs.size, { s2 with heap := s2.heap.push { cls := .type "list", data := .seq ([] : List Value).toArray }, toks := s2.toks }, upd H2 s2.heap.objs.size (.lst []), fp, pins⟩) [] H' b := fun b hb H' hn => by
    obtain ⟨g0, g1, g2, g3, g4, g5⟩ := f3 b hb
    refine ⟨hn, (I4.ok.exf b hb).1, I4.ok.exfs b hb, .inl hb, (I4.ok.exf b hb).2, fun p hp => ?_⟩
    exact g5 p (by simpa [cxC] using hp)
  have lC : X.s₀.heap.objs.size ≤ (s2.heap.push { cls := .type "list", data := .seq ([] : List Value).toArray }).objs.size := I3.sz
  have cC : (s2.heap.push { cls := .type "list", data := .seq ([] : List Value).toArray }).objs.size ≠ X.env.locals := Nat.ne_of_gt I3.lt
  have kC : ∀ x c, X.env.cells.lookup x = some c → c ≠ (s2.heap.push { cls := .type "list", data := .seq ([] : List Value).toArray }).objs.size := fun x c e => by
    obtain ⟨v, q⟩ := I3.cell x c e
    exact Nat.ne_of_lt q.lt
  have pC : ∀ p ∈ X.pn ++ pins, p.1 ≠ (s2.heap.push { cls := .type "list", data := .seq ([] : List Value).toArray }).objs.size := fun p hp => Nat.ne_of_lt (Heap.lt_size (I3.pin p hp).1)
  have nfC : (s2.heap.push { cls := .type "list", data := .seq ([] : List Value).toArray }).objs.size ∉ frs X.stack := fun hb => by
    rcases List.mem_cons.mp (I3.stkSub _ hb) with r | r
    · exact cC r
    · exact I3.nofs (Nat.le_refl _) r
  -- a state of the block, seen from around
  have back : ∀ {pl : List (Addr × Obj)} {σ' : St} {H' : Hp} {s' : Shared}, Inv (cxC X N scope ⟨clOf X.env scope.names [], (s2.heap.push { cls := .type "list", data := .seq ([] : List Value).toArray }).objs.size, { s2 with heap := s2.heap.push { cls := .type "list", data := .seq ([] : List Value).toArray }, toks := s2.toks }, upd H2 s2.heap.objs.size (.lst []), fp, pins⟩) pl σ' H' s' →
      ∃ m o, Inv X (pins ++ [((s2.heap.push { cls := .type "list", data := .seq ([] : List Value).toArray }).objs.size, o)]) σ H' s' ∧ s'.heap.Ns (s2.heap.push { cls := .type "list", data := .seq ([] : List Value).toArray }).objs.size m ∧ H' (s2.heap.push { cls := .type "list", data := .seq ([] : List Value).toArray }).objs.size = none := fun {pl σ' H' s'} Y => by
    have bb := Y.base
    have J0 : Inv X pins σ H' s' := I3.call' Y.os bb Y.hok Y.bare fun b hb => by
      obtain ⟨g0, g1, g2, g3, g4, g5⟩ := f3 b hb
      exact ⟨g3, g1, g4, g5⟩
    obtain ⟨mC, nC, _⟩ := Y.loc
    obtain ⟨oC, eC, dC⟩ : ∃ o, s'.heap.get? (s2.heap.push { cls := .type "list", data := .seq ([] : List Value).toArray }).objs.size = some o ∧ ∀ v, o.data ≠ .cell v := by
      obtain ⟨o, es, ep, ho, hd, _⟩ := nC
      exact ⟨o, ho, fun v z => by rw [hd] at z; cases z⟩
    refine ⟨mC, oC, J0.pins_of fun p hp => ?_, nC, Y.free⟩
    rcases List.mem_append.mp hp with hp | hp
    · exact J0.pin p (List.mem_append_right _ hp)
    · rw [List.mem_singleton.mp hp]
      exact ⟨eC, Y.free, cC, I3.nofs (Nat.le_refl _), dC⟩
  have hW : ∀ v s', XW X N scope ⟨clOf X.env scope.names [], (s2.heap.push { cls := .type "list", data := .seq ([] : List Value).toArray }).objs.size, { s2 with heap := s2.heap.push { cls := .type "list", data := .seq ([] : List Value).toArray }, toks := s2.toks }, upd H2 s2.heap.objs.size (.lst []), fp, pins⟩ E v s' → notedBy (model X.prog X.w) X.A (compEnvC scope (clOf X.env scope.names []) (s2.heap.push { cls := .type "list", data := .seq ([] : List Value).toArray }).objs.size X.env) (fun e s' => RR (.ref s2.heap.objs.size) (s2.heap.push { cls := .type "list", data := .seq ([] : List Value).toArray }).objs.size (.error e) s') v s' := by
    rintro v s' ⟨pl, σ1, H1, s1, I, e, cls, a0, H', B, rfl, ho, hgn, un, hok, hE, fl, k1, k2⟩
    have Y := I.call' ho un hok hgn (fun b z => by cases z)
    have fl : Heap.FlyingW B (X.env :: X.outer) e cls a0 s'.heap := hst ▸ fl
    show wpAny _ X.A (noteFrame (.ref e) X.env) _ _ _
    refine wpAny_looks_onW (by rw [I3.ok.frames, hst]) hfr fl fun h4 held sm4 => ?_
    have un4 := fly_un un k2 I.nfS I.stkFree fl.1 held.1 sm4
    have hok4 := hok_fly hok fl.1 held.1 k1
    have Y4 : Inv _ pl σ1 H' { s' with heap := h4 } := I.call' (s' := { s' with heap := h4 }) ho un4 hok4 hgn (fun b z => by cases z)
    obtain ⟨m, o, J1, nC, fC⟩ := back Y4
    obtain ⟨m1, o1, K1, nC1, fC1⟩ := back I
    refine hRE _ _ s1 H1 _ H' m e cls a0 _ B K1.unpinned ho hgn un4 hok4 nC ⟨lC, cC, kC, pC⟩ fC hE (by rw [hst]; exact held) nfC ?_ k1 k2
    obtain ⟨oC, _, _, eC, _⟩ := nC1
    exact k2 _ oC eC nfC
  have loop := comp_loopX (X := X) (σ := σ) (N := N) (scope := scope) (js := js) (iter := iter) (pos := pos) (R := RR (.ref s2.heap.objs.size) (s2.heap.push { cls := .type "list", data := .seq ([] : List Value).toArray }).objs.size) (D := s2.heap.objs.size) (W := W) (n := n)
    hc T fz hW (hg _ _) hs (ht _ _) (he _) (fun i m H w => (turn i m H w).imp (fun a => ⟨a.1, fun s' Y => ?_⟩) id) I4 t4 (fun b hb => (f3 b hb).1) w0
  · exact codeAny_compStart_list loop (T.self _ 0 _ _ _ t4 loop)
  · obtain ⟨m, o, J1, nC, fC⟩ := back Y
    exact hRR _ _ s' H m o J1 nC ⟨lC, cC, kC, pC⟩ fC a.2
theorem pe_compX (hL : Lands X E) (ck : CmpOk XN sc scope N js) (hi : PI X tg iter wi) (hg : ∀ z W, PG ((cxC X N scope z).wish W) tg g) (hs : Sets js g) (ht : ∀ z W, PIf ((cxC X N scope z).wish W) ifs tt) (he : ∀ z W, Passes (CXe X.prog X.w) ((cxC X N scope z).wish W) E → PE ((cxC X N scope z).wish W) elt te)
    (hex : X.ex = [] := by rfl) (hst : X.stack = X.env :: X.outer := by rfl) (hfr : X.env.frame = some X.env.locals := by rfl)
    (hXN : X.N = XN := by rfl) (hsc : X.env.scope = sc := by rfl) (hc : X.calm = true := by rfl) (hf : ∀ x, foldedSetIterable iter X.env x = pure x := by intro _; rfl) :
    PE X (.ListComp elt [⟨tg, iter, ifs, 0⟩] scope pos) (tComp js wi g tt te) := by
  intro pins s σ H Q I h
  rw [eval_ListComp]
  have hcl : closureFor scope X.env = pure (clOf X.env scope.names []) := closure_is fun y hy hk => I.ok.has y.1 (by
    have := ck.free y hy hk
    rw [← hsc] at this
    exact this)
  refine wpAny_comprehension_free (use := none) rfl hf hcl ck.kind ck.loc (thn (hi pins s σ H _ I h) fun v s1 h1 => thn h1 fun itv s2 h2 => ?_)
  refine comp_blockX (RR := fun acc C => compPost (model X.prog X.w) X.A X.xe none (EP X pins σ Q) acc C) ck hXN hsc hc hst hfr hg hs ht (fun z => he z _ fun pl σ1 H1 s1 v s' I1 hx => ⟨pl, σ1, H1, s1, I1.unwish, hx⟩) h2 ?_ ?_
  · intro D C s' H' m o J nC hC fC q
    refine ⟨m, nC, fun h' sb => ⟨.ref D, H', ?_, rfl, q⟩⟩
    have J0 : Inv X pins σ H' s' := J.unpinned
    exact J0.turned (t' := s'.toks) (it := C) (fun b o hb e => sb.extBut b o hb e) fC hC.2.1 (.inr hC.1) hC.2.2.1 hC.2.2.2
  · intro D C s1 H1 s' H' m e cls a0 L B I1 ho hgn un hok nC hC fC hE held nfC hBC k1 k2
    refine ⟨m, nC, fun h' sb cenv _ => ?_⟩
    obtain ⟨b1, b2, b3, b4⟩ := held
    obtain ⟨oB, eB⟩ := hBC
    have none' : ∀ b, B.get? b = none → (PySem.W.hideAll B [C]).get? b = none := fun b q => by
      cases z : (PySem.W.hideAll B [C]).get? b with
      | none => rfl
      | some o => rw [PySem.W.of_hideAll _ z] at q; cases q
    have neC : ∀ b o, (PySem.W.hideAll B [C]).get? b = some o → b ≠ C := fun b o q z => by
      rw [z, PySem.W.hideAll_none [C] (.head _)] at q; cases q
    have get' : ∀ b o, B.get? b = some o → b ≠ C → (PySem.W.hideAll B [C]).get? b = some o := fun b o q z => PySem.W.hideAll_get [C] q fun y => z (List.mem_singleton.mp y)
    have keepC : ∀ b o, b ≠ C → s'.heap.get? b = some o → h'.get? b = some o := fun b o hb q => sb.extBut b o hb q
    have c1 : (PySem.W.hideAll B [C]).StaysIn s'.heap := fun b o q => b1 b o (PySem.W.of_hideAll _ q)
    have c2 : (PySem.W.hideAll B [C]).StaysIn h' := fun b o q => keepC b o (neC b o q) (c1 b o q)
    have bne : ∀ b, B.get? b = none → b ≠ C := fun b q z => by rw [z, eB] at q; cases q
    have tr : h'.TracedAtW (PySem.W.hideAll B [C]) e cls a0 (rawInt L) := by
      obtain ⟨oe, vs, T, oT, ts, he', hcls, hd, h1', hnT, hTe, hT, hdT, h3⟩ := b4
      exact ⟨oe, vs, T, oT, ts, keepC e oe (bne e b2) he', hcls, hd, h1', none' T hnT, hTe, keepC T oT (bne T hnT) hT, hdT, h3⟩
    have fr := funFrames_less (C := C) none' keepC nfC b3
    refine pass_any (s := { s' with heap := h' }) c2 fr tr fun h5 fl5 y1 y2 y3 y4 => ?_
    have kk1 : ∀ b u, H' b = some u → ∃ o, (PySem.W.hideAll B [C]).get? b = some o := fun b u q => by
      obtain ⟨o, z⟩ := k1 b u q
      exact ⟨o, get' b o z fun y => by rw [y, fC] at q; cases q⟩
    have hok5 : HOk X.prog X.w H' h5 := hok_fly hok c1 y1 kk1
    have un5 : Un (frs X.stack) [C] H1 H' s1.heap h5 := by
      have nn : ∀ b : Addr, b ∉ ([] : List Addr) := fun b z => by cases z
      refine ⟨fun b o q n z y => ?_, fun b o q n z y => ?_, fun b o q n y => un.free b o q n (nn b), fun b o q y => ?_, un.tups, un.frzs, un.tbls⟩
      · obtain ⟨o', q1⟩ := k2 b o q z
        have q2 := get' b o' q1 fun yy => y (by rw [yy]; exact .head _)
        have q3 := un.keep b o q n z (nn b)
        rw [c1 b o' q2] at q3
        cases q3
        exact y1 b _ q2
      · obtain ⟨sl, q1⟩ := un.slot b o q n z (nn b)
        have q2 := keepC b _ (fun yy => y (by rw [yy]; exact .head _)) q1
        obtain ⟨sl2, q3⟩ := y4 b _ q2 (I1.nfS b z o q)
        exact ⟨sl2, q3⟩
      · by_cases z : b ∈ frs X.stack
        · obtain ⟨sl, q1⟩ := un.slot b o q (I1.stkFree b z) z (nn b)
          have q2 := keepC b _ (fun yy => y (by rw [yy]; exact .head _)) q1
          obtain ⟨sl2, q3⟩ := y4 b _ q2 (I1.nfS b z o q)
          exact ⟨_, q3⟩
        · obtain ⟨o', q1⟩ := k2 b o q z
          exact ⟨o', y1 b _ (get' b o' q1 fun yy => y (by rw [yy]; exact .head _))⟩
    have J5 : Inv X pins σ H' { s' with heap := h5 } := I1.call' (s' := { s' with heap := h5 }) ho un5 hok5 hgn fun b hb => by
      rw [List.mem_singleton.mp hb]
      exact ⟨.inr hC.1, hC.2⟩
    refine hL pins σ H' _ e cls a0 fl5 (PySem.W.hideAll B [C]) J5 hE y1 (none' e b2) y2 y3 kk1 fun b o q z => ?_
    obtain ⟨o1, q1⟩ := I1.base.there b o q (by rw [hex]; intro y; cases y)
    obtain ⟨o2, q2⟩ := k2 b o1 q1 (I1.notStk q z)
    exact ⟨o2, get' b o2 q2 fun y => absurd (Heap.lt_size q) (by rw [y]; exact Nat.not_lt.mpr hC.1)⟩
end
noncomputable def gLst (K : PySem.W.Frag) (n : Nat) (t : TGs) : TG := fun v σ H Q => ∃ a xs, v = .ref a ∧ SqL K H a xs ∧ xs.length = n ∧ t xs σ H Q
theorem pg_lst {X : Cx} {pos : Pos} {es : List Expr} {k : Nat} {t : TGs} {n : Nat} (hc : X.calm = true) (h : PGs X es t)
    (hn : (assignEach es X.env).length = n := by rfl) (hst : (assignEach es X.env).findIdx? (·.1) = none := by rfl) : PG X (.Tuple es k pos) (gLst X.K n t) := by
  intro pins s σ H v u Q I r hw
  obtain ⟨a, xs, e1, hq, hl, hw⟩ := hw
  subst e1
  cases r
  obtain ⟨its, rv, ht, hz⟩ := I.list hq
  rw [assign_Tuple]
  refine wpAny_bind (wpAny_standAt ?_)
  unfold unpack
  rw [hst, hn, ← hl, rv.length, show its.length = its.toArray.size by simp]
  refine wpAny_bind (wpAny_holding (PySem.W.kun_itemsOf (I.ok.hd hc) ht.isList fun h' hx => ?_))
  have I1 : Inv X pins σ H { s with heap := h' } := I.kept (t' := s.toks) fun b o e => hx b o (Nat.ne_of_lt (Heap.lt_size e)) e
  exact h pins _ σ H xs _ Q I1 (by simpa using rv) hw
end L2
namespace L2
open PySem PySem.Spec PyProof.Rows
noncomputable def tEi (t u : TE) : TE := fun σ H Q => t σ H Q ∨ u σ H Q
noncomputable def tEiS (t u : TS) : TS := fun D σ H => t D σ H ∨ u D σ H
section
variable {X : Cx}
theorem pe_ei {e : Expr} {t u : TE} (h : PE X e t) (k : PE X e u) : PE X e (tEi t u) := fun pins s σ H Q I q => q.elim (h pins s σ H Q I) (k pins s σ H Q I)
theorem ps_ei {st : Stmt} {t u : TS} (h : PS X st t) (k : PS X st u) : PS X st (tEiS t u) := fun pins s σ H D I q => q.elim (h pins s σ H D I) (k pins s σ H D I)
end
end L2
namespace M
open PySem L2
section
variable {K : PySem.W.Frag} {S S' H H' : Hp} {E : XK}
@[simp] noncomputable def xrOf (m : XS) : XR := fun ρ => match m ρ with | some (.nx ρ') => some (.nx ρ') | _ => none
theorem sx_of {t : TS} {m : XS} (h : SS K t m) : SX K E t (xrOf m) := fun A Λ ρ σ S H D o r x k => by
  unfold xrOf at x
  split at x <;> cases x
  rename_i q
  exact h A Λ ρ σ S H D _ r q k
@[simp] noncomputable def xrOr (n : Env → Option Str) (m : XS) : XR := fun ρ => match n ρ with | some N => some (.rz N) | none => (match m ρ with | some (.nx ρ') => some (.nx ρ') | _ => none)
theorem sx_or {t u : TS} {n : Env → Option Str} {m : XS} (ht : SX K E t (xrE n)) (hu : SS K u m) : SX K E (tEiS t u) (xrOr n m) := fun A Λ ρ σ S H D o r x k => by
  unfold xrOr at x
  cases q : n ρ with
  | some N =>
    rw [q] at x
    cases x
    exact .inl (ht A Λ ρ σ S H D _ r (by unfold xrE; rw [q]; rfl) k)
  | none =>
    rw [q] at x
    exact .inr (sx_of (E := E) hu A Λ ρ σ S H D o r x k)
theorem sx_asg {t : TE} {g : TG} {m : Env → Option Str} (h : SXE K E t m) : SX K E (tAsg t g) (xrE m) := fun A Λ ρ σ S H D o r x k => by
  unfold xrE at x
  cases q : m ρ with
  | none => rw [q] at x; cases x
  | some N => rw [q] at x; cases x; exact h A Λ ρ σ S H _ N r q k
noncomputable def SXA (K : PySem.W.Frag) (E : XK) (t : TA) (m : Env → Option Str) : Prop := ∀ A Λ ρ σ S H (Q : List V → Hp → Prop) N, RlA K A Λ ρ σ S H → m ρ = some N → XDone K A S E N → t σ H Q
@[simp] noncomputable def xaHead (m : Env → Option Str) : Env → Option Str := m
theorem sxa_head {t : TE} {tr : TA} {m : Env → Option Str} (h : SXE K E t m) : SXA K E (tCons t tr) (xaHead m) := fun A Λ ρ σ S H Q N r x k => h A Λ ρ σ S H _ N r x k
@[simp] noncomputable def xaTail (e : XE) (m : Env → Option Str) : Env → Option Str := fun ρ => (e ρ).bind fun _ => m ρ
theorem sxa_tail {t : TE} {tr : TA} {e : XE} {m : Env → Option Str} (he : SE K t e) (h : SXA K E tr m) : SXA K E (tCons t tr) (xaTail e m) := fun A Λ ρ σ S H Q N r x k => by
  unfold xaTail at x
  cases q : e ρ with
  | none => rw [q] at x; cases x
  | some d =>
    rw [q] at x
    refine he ρ σ S H _ d r.toRl q fun v S1 H1 z1 _ => ?_
    exact h A Λ ρ σ S1 H1 _ N (r.ext z1) x (k.mono z1.sh)
@[simp] noncomputable def xaOr (n : Env → Option Str) (e : XE) (m : Env → Option Str) : Env → Option Str := fun ρ => match n ρ with | some N => some N | none => (e ρ).bind fun _ => m ρ
theorem sxa_or {t u : TE} {tr : TA} {n : Env → Option Str} {e : XE} {m : Env → Option Str} (ht : SXE K E t n) (hu : SE K u e) (h : SXA K E tr m) : SXA K E (tCons (tEi t u) tr) (xaOr n e m) := fun A Λ ρ σ S H Q N r x k => by
  unfold xaOr at x
  cases q : n ρ with
  | some M => rw [q] at x; cases x; exact .inl (ht A Λ ρ σ S H _ N r q k)
  | none =>
    rw [q] at x
    cases q2 : e ρ with
    | none => rw [q2] at x; cases x
    | some d =>
      rw [q2] at x
      refine .inr (hu ρ σ S H _ d r.toRl q2 fun v S1 H1 z1 _ => ?_)
      exact h A Λ ρ σ S1 H1 _ N (r.ext z1) x (k.mono z1.sh)
theorem sxe_tup {t : TA} {m : Env → Option Str} (h : SXA K E t m) : SXE K E (tTup t) m := fun A Λ ρ σ S H Q N r x k => h A Λ ρ σ S H _ N r x k
@[simp] noncomputable def xeExt (i : Nat) (m : Env → Option Str) : Env → Option Str := fun ρ => match ρ[i]? with | some (.ow (.lst _)) => m ρ | _ => none
theorem sxe_ext {t : TE} {i : Nat} {r : V → List V → Hp → VK → Prop} {tr : TA} {m : Env → Option Str} (h : SXE K E t m) : SXE K E (tBM K "list" r (tVar i) (tCons t tr)) (xeExt i m) := fun A Λ ρ σ S H Q N rl x k => by
  unfold xeExt at x
  split at x <;> try (cases x; done)
  rename_i l q
  obtain ⟨Φ, f⟩ := rl
  obtain ⟨v, ev, ow, _⟩ := f.ow i _ q
  obtain ⟨a, xs, g, rfl, _, hx, _⟩ := own_lst.mp ow
  exact ⟨.ref a, ev, .inl ⟨rfl, xs, SqL.of hx⟩, h A Λ ρ σ S H _ N ⟨Φ, f⟩ x k⟩
noncomputable def compX (g : XG) (c : XT) (e : XE) (n : Env → Option Str) (ρ0 : Env) : List D → Option Str
  | [] => none
  | d :: l => (g d ρ0).bind fun ρ1 => (c ρ1).bind fun b => if b = true then (match n ρ1 with | some N => some N | none => (e ρ1).bind fun _ => compX g c e n ρ0 l) else compX g c e n ρ0 l
@[simp] noncomputable def xeComp (js : List (Option Nat)) (w : XA) (g : XG) (c : XT) (e : XE) (n : Env → Option Str) : Env → Option Str := fun ρ => (w ρ).bind fun l => if l.length ≤ LIM then compX g c e n (innX js ρ) l else none
theorem sxe_compX {js : List (Option Nat)} {wi : TI} {g : TG} {tt : TIf} {t u : TE} {w : XA} {x : XG} {c : XT} {e : XE} {n : Env → Option Str} (hi : SIP K wi w) (hg : SG K g x) (hc : ST K tt c) (ht : SXE K E t n) (hu : SE K u e) :
    SXE K E (tComp js wi g tt (tEi t u)) (xeComp js w x c e n) := fun A Λ ρ σ S H Q N r y k => by
  unfold xeComp at y
  cases q : w ρ with
  | none => rw [q] at y; cases y
  | some ds =>
    rw [q] at y
    dsimp only [Option.bind] at y
    split at y
    · rename_i hlim
      refine hi ρ σ S H _ ds r.toRl q fun J S1 H1 z1 wk D hD => ?_
      have r1 := r.toRl.ext z1
      refine ⟨fun i n' H' => n' = ds.length - i ∧ i ≤ ds.length ∧ ∃ S' ys, Ext S1 H1 S' H' ∧ H' D = some (.lst ys) ∧ S' D = none ∧ ys.length ≤ i ∧ compX x c e n (innX js ρ) (ds.drop i) = some N,
        ⟨_, rfl, Nat.zero_le _, S1, [], Ext.own z1.sub hD, upd_same, z1.sub.free hD, Nat.zero_le _, y⟩, ?_⟩
      rintro i n' H2 ⟨rfl, hil, S2, ys, z2, hy, hSD, hdl, y2⟩
      obtain ⟨w1, w2⟩ := wk S2 H2 z2
      cases qd : ds[i]? with
      | none =>
        have : ds.length = i := by have := List.getElem?_eq_none_iff.mp qd; omega
        subst this
        rw [List.drop_of_length_le (Nat.le_refl _)] at y2
        cases y2
      | some d =>
        obtain ⟨g1, g2⟩ := w1 i d qd
        have hlt := (List.getElem?_eq_some_iff.mp qd).1
        rw [drop_get qd] at y2
        unfold compX at y2
        cases qx : x d (innX js ρ) with
        | none => rw [qx] at y2; cases y2
        | some ρ3 =>
          rw [qx] at y2
          dsimp only [Option.bind] at y2
          refine .inr ⟨g1, fun xv H3 hyl => ?_⟩
          obtain ⟨rfl, dx⟩ := g2 xv H3 hyl
          have ri := rl_inn (r1.ext z2) js
          refine hg _ _ _ _ S2 H3 xv d _ ρ3 ri dx qx fun σ3 r3 => ?_
          cases qc : c ρ3 with
          | none => rw [qc] at y2; cases y2
          | some b =>
            rw [qc] at y2
            dsimp only at y2
            refine hc ρ3 σ3 S2 H3 _ b r3.toRl qc fun S4 H4 z4 => ?_
            obtain ⟨al1, al2⟩ := z4.al D _ hy hSD
            cases b with
            | false =>
              rw [if_neg (by decide)] at y2
              exact iteF ⟨_, by omega, rfl, hlt, S4, ys, z2.trans z4, al1, al2, by omega, y2⟩
            | true =>
              rw [if_pos rfl] at y2
              cases qn : n ρ3 with
              | some N' =>
                rw [qn] at y2
                cases y2
                refine iteT (.inl (ht _ _ ρ3 σ3 S4 H4 _ N (r3.ext z4) qn fun C S5 H5 s1 s2 s3 s4 hC => ?_))
                have z5 : Ext S2 H3 S5 H5 := ext_al (z4.sh.trans s1) s2 s3 s4
                obtain ⟨e1, e2, e3, e4⟩ := ext_of r ((z1.trans z2).trans z5)
                exact k C S5 H5 e1 e2 e3 e4 hC
              | none =>
                rw [qn] at y2
                cases qe : e ρ3 with
                | none => rw [qe] at y2; cases y2
                | some dv =>
                  rw [qe] at y2
                  dsimp only at y2
                  refine iteT (.inr (hu ρ3 σ3 S4 H4 _ dv (r3.toRl.ext z4) qe fun v S5 H5 z5 d5 => ?_))
                  obtain ⟨b1, b2⟩ := z5.al D _ al1 al2
                  refine ⟨ys, b1, ?_, _, by omega, rfl, hlt, S5, ys ++ [v], ?_, upd_same, b2, by rw [List.length_append, List.length_singleton]; omega, y2⟩
                  · exact Nat.lt_of_lt_of_le (Nat.lt_of_le_of_lt hdl hlt) (Nat.le_trans hlim (Nat.le_of_lt lim_lt))
                  · have z6 := (z2.trans z4).trans z5
                    exact ⟨z6.sh, fun b u hb => by rw [upd_ne fun z => by subst z; rw [b2] at hb; cases hb]; exact z6.sub b u hb, fun b o hb hn => by
                      obtain ⟨c1, c2⟩ := z6.al b o hb hn
                      exact ⟨by rw [upd_ne fun z => by subst z; rw [hD] at hb; cases hb]; exact c1, c2⟩⟩
    · cases y
noncomputable def loopX (g : XG) (m : XR) : List D → Env → Option RO
  | [], ρ => some (.nx ρ)
  | d :: l, ρ => (g d ρ).bind fun ρ1 => (m ρ1).bind fun o => match o with | .nx ρ2 => loopX g m l ρ2 | .rz N => some (.rz N)
@[simp] noncomputable def xrFor (e : XA) (g : XG) (m : XR) : XR := fun ρ => (e ρ).bind fun l => loopX g m l ρ
theorem sx_for {wi : TI} {g : TG} {tb : TS} {e : XA} {x : XG} {m : XR} (hi : SI K wi e) (hg : SG K g x) (hb : SX K E tb m) : SX K E (tFor wi g tb) (xrFor e x m) := fun A Λ ρ σ S H D o r y k => by
  unfold xrFor at y
  cases q : e ρ with
  | none => rw [q] at y; cases y
  | some l =>
    rw [q] at y
    dsimp only [Option.bind] at y
    refine hi ρ σ S H _ l r.toRl q fun J S1 H1 z1 wk => ?_
    have r1 := r.ext z1
    refine ⟨fun i n σ' H' => n = l.length - i ∧ i ≤ l.length ∧ ∃ ρ' S', RlA K A Λ ρ' σ' S' H' ∧ Same S1 S' ∧ loopX x m (l.drop i) ρ' = some o, ⟨_, rfl, Nat.zero_le _, ρ, S1, r1, Same.refl _, y⟩, ?_⟩
    rintro i n σ2 H2 ⟨rfl, hil, ρ2, S2, r2, s2, y2⟩
    obtain ⟨w1, w2⟩ := wk S2 H2 s2 r2.sub
    cases qd : l[i]? with
    | none =>
      have : l.length = i := by have := List.getElem?_eq_none_iff.mp qd; omega
      subst this
      rw [List.drop_of_length_le (Nat.le_refl _)] at y2
      cases y2
      exact .inl ⟨w2, k σ2 S2 H2 r2 (z1.sh.trans s2)⟩
    | some d =>
      obtain ⟨g1, g2⟩ := w1 i d qd
      have hlt := (List.getElem?_eq_some_iff.mp qd).1
      rw [drop_get qd] at y2
      unfold loopX at y2
      cases qx : x d ρ2 with
      | none => rw [qx] at y2; cases y2
      | some ρ3 =>
        rw [qx] at y2
        dsimp only [Option.bind] at y2
        refine .inr ⟨g1, fun σ' H' => ∃ ρ' S', RlA K A Λ ρ' σ' S' H' ∧ Same S1 S' ∧ loopX x m (l.drop (i + 1)) ρ' = some o, fun σ' H' ⟨ρ', S', a1, a2, a3⟩ => ⟨_, by omega, rfl, hlt, ρ', S', a1, a2, a3⟩, fun xv H3 hy => ?_⟩
        obtain ⟨rfl, dx⟩ := g2 xv H3 hy
        refine hg A Λ ρ2 σ2 S2 H3 xv d _ ρ3 r2 dx qx fun σ3 r3 => ?_
        cases qm : m ρ3 with
        | none => rw [qm] at y2; cases y2
        | some om =>
          rw [qm] at y2
          refine hb A Λ ρ3 σ3 S2 H3 _ om r3 qm ?_
          cases om with
          | nx ρ4 => exact fun σ4 S4 H4 r4 s4 => ⟨ρ4, S4, r4, s2.trans s4, y2⟩
          | rz N => cases y2; exact DoneX.mono (z1.sh.trans s2) k
noncomputable def xgLst (y : XGs) : XG := fun d ρ => match d with | .lst l => y l ρ | _ => none
theorem g_lst {gs : TGs} {y : XGs} {n : Nat} (hs : SGs K gs y) (hl : lenIs y n) : SG K (gLst K n gs) (xgLst y) := fun A Λ ρ σ S H v d Q ρ' r dv e k => by
  cases d with
  | lst l =>
    obtain ⟨p, xs, rfl, h1, h2⟩ := den_lst.mp dv
    exact ⟨p, xs, rfl, .inl (rd_mono r.sub h1), by rw [← h2.length]; exact hl l ρ ρ' e, hs A Λ ρ σ S H xs l Q ρ' r h2 e k⟩
  | _ => cases e
end
end M
namespace Rw
noncomputable abbrev R := List (Int × Int)
noncomputable def Mem (r : R) (x : Int) : Prop := ∃ p ∈ r, p.1 ≤ x ∧ x ≤ p.2
noncomputable def Ok (r : R) : Prop := ∀ p ∈ r, p.1 ≤ p.2
noncomputable def Canon (r : R) : Prop := Ok r ∧ r.Pairwise fun p q => p.2 + 2 ≤ q.1
theorem mem_nil (x : Int) : ¬ Mem [] x := by rintro ⟨p, h, _⟩; cases h
theorem mem_cons (p : Int × Int) (r : R) (x : Int) : Mem (p :: r) x ↔ (p.1 ≤ x ∧ x ≤ p.2) ∨ Mem r x := by
  constructor
  · rintro ⟨q, h, e⟩
    rcases List.mem_cons.mp h with rfl | h
    · exact .inl e
    · exact .inr ⟨q, h, e⟩
  · rintro (e | ⟨q, h, e⟩)
    · exact ⟨p, List.mem_cons_self, e⟩
    · exact ⟨q, List.mem_cons_of_mem _ h, e⟩
theorem mem_append (r t : R) (x : Int) : Mem (r ++ t) x ↔ Mem r x ∨ Mem t x := by
  constructor
  · rintro ⟨q, h, e⟩
    rcases List.mem_append.mp h with h | h
    · exact .inl ⟨q, h, e⟩
    · exact .inr ⟨q, h, e⟩
  · rintro (⟨q, h, e⟩ | ⟨q, h, e⟩)
    · exact ⟨q, List.mem_append_left _ h, e⟩
    · exact ⟨q, List.mem_append_right _ h, e⟩
theorem mem_perm {r t : R} (h : r.Perm t) (x : Int) : Mem r x ↔ Mem t x :=
  ⟨fun ⟨q, m, e⟩ => ⟨q, h.mem_iff.mp m, e⟩, fun ⟨q, m, e⟩ => ⟨q, h.mem_iff.mpr m, e⟩⟩
theorem mem_filter (r : R) (x : Int) : Mem (r.filter fun p => decide (p.1 ≤ p.2)) x ↔ Mem r x := by
  constructor
  · rintro ⟨q, m, e⟩
    exact ⟨q, (List.mem_filter.mp m).1, e⟩
  · rintro ⟨q, m, e⟩
    exact ⟨q, List.mem_filter.mpr ⟨m, by simp; omega⟩, e⟩
theorem canon_nil : Canon [] := ⟨fun _ h => (by cases h), .nil⟩
theorem canon_cons {p : Int × Int} {r : R} : Canon (p :: r) ↔ p.1 ≤ p.2 ∧ (∀ q ∈ r, p.2 + 2 ≤ q.1) ∧ Canon r := by
  constructor
  · rintro ⟨h1, h2⟩
    have h3 := List.pairwise_cons.mp h2
    exact ⟨h1 p List.mem_cons_self, h3.1, fun q hq => h1 q (List.mem_cons_of_mem _ hq), h3.2⟩
  · rintro ⟨h1, h2, h3, h4⟩
    refine ⟨fun q hq => ?_, List.pairwise_cons.mpr ⟨h2, h4⟩⟩
    rcases List.mem_cons.mp hq with rfl | hq
    · exact h1
    · exact h3 q hq
theorem canon_above {p : Int × Int} {r : R} (c : Canon (p :: r)) {x : Int} (h : Mem r x) : p.2 + 2 ≤ x := by
  obtain ⟨q, m, e, _⟩ := h
  have := (canon_cons.mp c).2.1 q m
  omega
theorem canon_low {p : Int × Int} {r : R} (c : Canon (p :: r)) {x : Int} (h : Mem (p :: r) x) : p.1 ≤ x := by
  rcases (mem_cons p r x).mp h with h | h
  · exact h.1
  · have := canon_above c h
    have := (canon_cons.mp c).1
    omega
theorem unique : ∀ {r t : R}, Canon r → Canon t → (∀ x, Mem r x ↔ Mem t x) → r = t
  | [], [], _, _, _ => rfl
  | [], q :: t, _, ct, h => by
    have := (h q.1).mpr ((mem_cons ..).mpr (.inl ⟨Int.le_refl _, (canon_cons.mp ct).1⟩))
    exact (mem_nil _ this).elim
  | p :: r, [], cr, _, h => by
    have := (h p.1).mp ((mem_cons ..).mpr (.inl ⟨Int.le_refl _, (canon_cons.mp cr).1⟩))
    exact (mem_nil _ this).elim
  | p :: r, q :: t, cr, ct, h => by
    have hp := (canon_cons.mp cr).1
    have hq := (canon_cons.mp ct).1
    have a1 : q.1 ≤ p.1 := canon_low ct ((h p.1).mp ((mem_cons ..).mpr (.inl ⟨Int.le_refl _, hp⟩)))
    have a2 : p.1 ≤ q.1 := canon_low cr ((h q.1).mpr ((mem_cons ..).mpr (.inl ⟨Int.le_refl _, hq⟩)))
    have e1 : p.1 = q.1 := by omega
    have n1 : ¬ Mem (p :: r) (p.2 + 1) := fun m => by
      rcases (mem_cons ..).mp m with m | m
      · omega
      · have := canon_above cr m; omega
    have n2 : ¬ Mem (q :: t) (q.2 + 1) := fun m => by
      rcases (mem_cons ..).mp m with m | m
      · omega
      · have := canon_above ct m; omega
    have e2 : p.2 = q.2 := by
      by_cases l1 : p.2 < q.2
      · exact (n1 ((h _).mpr ((mem_cons ..).mpr (.inl ⟨by omega, by omega⟩)))).elim
      · by_cases l2 : q.2 < p.2
        · exact (n2 ((h _).mp ((mem_cons ..).mpr (.inl ⟨by omega, by omega⟩)))).elim
        · omega
    have e : p = q := by
      obtain ⟨a, b⟩ := p
      obtain ⟨c, d⟩ := q
      simp only at e1 e2
      rw [e1, e2]
    subst e
    have ih : r = t := unique (canon_cons.mp cr).2.2 (canon_cons.mp ct).2.2 fun x => by
      constructor
      · intro m
        rcases (mem_cons ..).mp ((h x).mp ((mem_cons ..).mpr (.inr m))) with k | k
        · have := canon_above cr m; omega
        · exact k
      · intro m
        rcases (mem_cons ..).mp ((h x).mpr ((mem_cons ..).mpr (.inr m))) with k | k
        · have := canon_above ct m; omega
        · exact k
    rw [ih]
noncomputable def step (acc : R) (p : Int × Int) : R :=
  match acc.getLast? with
  | none => [p]
  | some q => if p.1 ≤ q.2 + 1 then acc.dropLast ++ [(q.1, if p.2 > q.2 then p.2 else q.2)] else acc ++ [p]
noncomputable def merge (l : R) : R := l.foldl step []
theorem step_nil (p : Int × Int) : step [] p = [p] := rfl
theorem step_snoc (t : R) (q p : Int × Int) : step (t ++ [q]) p = if p.1 ≤ q.2 + 1 then t ++ [(q.1, if p.2 > q.2 then p.2 else q.2)] else t ++ [q] ++ [p] := by
  unfold step
  simp
theorem canon_snoc {t : R} {q : Int × Int} : Canon (t ++ [q]) ↔ Canon t ∧ q.1 ≤ q.2 ∧ ∀ p ∈ t, p.2 + 2 ≤ q.1 := by
  constructor
  · rintro ⟨h1, h2⟩
    have h3 := List.pairwise_append.mp h2
    exact ⟨⟨fun p hp => h1 p (List.mem_append_left _ hp), h3.1⟩, h1 q (List.mem_append_right _ List.mem_cons_self), fun p hp => h3.2.2 p hp q List.mem_cons_self⟩
  · rintro ⟨⟨h1, h2⟩, h3, h4⟩
    refine ⟨fun p hp => ?_, List.pairwise_append.mpr ⟨h2, .cons (fun _ h => (by cases h)) .nil, fun p hp x hx => ?_⟩⟩
    · rcases List.mem_append.mp hp with hp | hp
      · exact h1 p hp
      · rw [List.mem_singleton.mp hp]; exact h3
    · rw [List.mem_singleton.mp hx]; exact h4 p hp
theorem step_ok {acc : R} {p : Int × Int} (c : Canon acc) (hp : p.1 ≤ p.2) (lo : ∀ q ∈ acc, q.1 ≤ p.1) :
    Canon (step acc p) ∧ (∀ x, Mem (step acc p) x ↔ Mem acc x ∨ (p.1 ≤ x ∧ x ≤ p.2)) ∧ (∀ q ∈ step acc p, q.1 ≤ p.1) := by
  rcases List.eq_nil_or_concat acc with rfl | ⟨t, q, rfl⟩
  · rw [step_nil]
    refine ⟨canon_cons.mpr ⟨hp, fun _ h => (by cases h), canon_nil⟩, fun x => ?_, fun q hq => ?_⟩
    · rw [mem_cons]
      constructor
      · rintro (h | h)
        · exact .inr h
        · exact .inl h
      · rintro (h | h)
        · exact .inr h
        · exact .inl h
    · rw [List.mem_singleton.mp hq]; exact Int.le_refl _
  · rw [List.concat_eq_append] at *
    obtain ⟨ct, hq, ht⟩ := canon_snoc.mp c
    have lq : q.1 ≤ p.1 := lo q (List.mem_append_right _ List.mem_cons_self)
    rw [step_snoc]
    by_cases h : p.1 ≤ q.2 + 1
    · rw [if_pos h]
      have m : ∀ z, (if p.2 > q.2 then p.2 else q.2) = z → q.2 ≤ z ∧ p.2 ≤ z ∧ (z = p.2 ∨ z = q.2) := fun z e => by
        split at e <;> omega
      obtain ⟨m1, m2, m3⟩ := m _ rfl
      generalize (if p.2 > q.2 then p.2 else q.2) = z at *
      refine ⟨canon_snoc.mpr ⟨ct, by dsimp only; omega, ht⟩, fun x => ?_, fun s hs => ?_⟩
      · rw [mem_append, mem_append, mem_cons, mem_cons]
        dsimp only
        constructor
        · rintro (k | k | k)
          · exact .inl (.inl k)
          · by_cases hx : x ≤ q.2
            · exact .inl (.inr (.inl ⟨k.1, hx⟩))
            · right; omega
          · exact (mem_nil _ k).elim
        · rintro ((k | k | k) | k)
          · exact .inl k
          · right; left; omega
          · exact (mem_nil _ k).elim
          · right; left; omega
      · rcases List.mem_append.mp hs with hs | hs
        · exact lo s (List.mem_append_left _ hs)
        · rw [List.mem_singleton.mp hs]; exact lq
    · rw [if_neg h]
      refine ⟨canon_snoc.mpr ⟨c, hp, fun s hs => ?_⟩, fun x => ?_, fun s hs => ?_⟩
      · rcases List.mem_append.mp hs with hs | hs
        · have := ht s hs; omega
        · rw [List.mem_singleton.mp hs]; omega
      · rw [mem_append, mem_cons]
        constructor
        · rintro (k | k | k)
          · exact .inl k
          · exact .inr k
          · exact (mem_nil _ k).elim
        · rintro (k | k)
          · exact .inl k
          · exact .inr (.inl k)
      · rcases List.mem_append.mp hs with hs | hs
        · exact lo s hs
        · rw [List.mem_singleton.mp hs]; exact Int.le_refl _
theorem fold_ok : ∀ (l : R) (acc : R), Canon acc → Ok l → l.Pairwise (fun p q => p.1 ≤ q.1) → (∀ q ∈ acc, ∀ p ∈ l, q.1 ≤ p.1) →
    Canon (l.foldl step acc) ∧ ∀ x, Mem (l.foldl step acc) x ↔ Mem acc x ∨ Mem l x
  | [], acc, c, _, _, _ => ⟨c, fun x => ⟨fun h => .inl h, fun h => h.elim id fun k => (mem_nil _ k).elim⟩⟩
  | p :: l, acc, c, o, w, lo => by
    obtain ⟨w1, w2⟩ := List.pairwise_cons.mp w
    obtain ⟨c1, m1, l1⟩ := step_ok c (o p List.mem_cons_self) fun q hq => lo q hq p List.mem_cons_self
    obtain ⟨c2, m2⟩ := fold_ok l (step acc p) c1 (fun q hq => o q (List.mem_cons_of_mem _ hq)) w2 fun q hq s hs => by
      have := l1 q hq
      have := w1 s hs
      omega
    refine ⟨c2, fun x => ?_⟩
    show Mem (l.foldl step (step acc p)) x ↔ _
    rw [m2, m1, mem_cons, or_assoc]
noncomputable def IsRow (ps r : R) : Prop := Canon r ∧ ∀ x, Mem r x ↔ Mem ps x
theorem merge_ok {l ps : R} (o : Ok l) (w : l.Pairwise fun p q => p.1 ≤ q.1) (h : ∀ x, Mem l x ↔ Mem ps x) : IsRow ps (merge l) := by
  obtain ⟨c, m⟩ := fold_ok l [] canon_nil o w fun _ h => (by cases h)
  exact ⟨c, fun x => by
    show Mem (l.foldl step []) x ↔ _
    rw [m x, ← h x]
    exact ⟨fun k => k.elim (fun z => (mem_nil _ z).elim) id, .inr⟩⟩
end Rw
namespace Rw
noncomputable def pairUp : List Int → R
  | a :: b :: t => (a, b - 1) :: pairUp t
  | _ => []
end Rw
namespace P
open PySem L2 M
noncomputable abbrev xNs : List Str := ["NoText"]
noncomputable abbrev ax_NoBack : List (Str × Bool) := [("NoText", false)]
noncomputable abbrev ax_NoForm : List (Str × Bool) := [("NoText", false)]
noncomputable abbrev ax_NoName : List (Str × Bool) := [("NoText", false)]
noncomputable abbrev ax_NoRow : List (Str × Bool) := [("NoText", false)]
noncomputable abbrev ax_NoText : List (Str × Bool) := [("NoText", true)]
noncomputable abbrev ax_TooGreat : List (Str × Bool) := [("NoText", false)]
noncomputable abbrev ax_TooMany : List (Str × Bool) := [("NoText", false)]
noncomputable abbrev ax_ValueError : List (Str × Bool) := [("NoText", true)]
noncomputable def X__law_blanks : XS := xSeq (xAsg (xL (xLst (xCons (xOp (dAdd) (xOp (dAdd) (xVarP 0) (xC (.str (Str.ofString ":")))) (xVarP 1)) (xCons (xOp (dAdd) (xOp (dAdd) (xOp (dAdd) (xVarP 0) (xC (.str (Str.ofString ": ")))) (xVarP 1)) (xC (.str (Str.ofString " ")))) (xCons (xOp (dAdd) (xOp (dAdd) (xOp (dAdd) (xC (.str (Str.ofString " "))) (xVarP 0)) (xC (.str (Str.ofString ": ")))) (xVarP 1)) (xCons (xOp (dAdd) (xOp (dAdd) (xVarP 0) (xC (.str (Str.ofString ":  ")))) (xVarP 1)) (xCons (xOp (dAdd) (xOp (dAdd) (xVarP 0) (xC (.str (Str.ofString " : ")))) (xVarP 1)) (xCons (xVar 1) (xNil))))))))) (xgName 3)) (xSeq (xAsg (xOp (dAdd) (xVarP 3) (xL (xLst (xCons (xOp (dAdd) (xOp (dAdd) (xVarP 0) (xC (.str (Str.ofString " ")))) (xVarP 1)) (xCons (xOp (dAdd) (xOp (dAdd) (xOp (dAdd) (xVarP 0) (xC (.str (Str.ofString ": ")))) (xVarP 1)) (xVarP 2)) (xCons (xOp (dAdd) (xOp (dAdd) (xOp (dAdd) (xOp (dAdd) (xVarP 0) (xC (.str (Str.ofString ": ")))) (xVarP 1)) (xC (.str (Str.ofString ";")))) (xVarP 2)) (xCons (xOp (dAdd) (xOp (dAdd) (xOp (dAdd) (xVarP 0) (xC (.str (Str.ofString ": ")))) (xVarP 1)) (xC (.str (Str.ofString "; ")))) (xNil)))))))) (xgName 3)) (xSeq (xAsg (xOp (dAdd) (xVarP 3) (xL (xLst (xCons (xOp (dAdd) (xOp (dAdd) (xOp (dAdd) (xC (.str (Str.ofString "; "))) (xVarP 0)) (xC (.str (Str.ofString ": ")))) (xVarP 1)) (xCons (xOp (dAdd) (xOp (dAdd) (xOp (dAdd) (xOp (dAdd) (xVarP 0) (xC (.str (Str.ofString ": ")))) (xVarP 1)) (xC (.str (Str.ofString ";  ")))) (xVarP 2)) (xCons (xOp (dAdd) (xVarP 0) (xC (.str (Str.ofString ": ")))) (xCons (xOp (dAdd) (xVarP 0) (xC (.str (Str.ofString ":")))) (xCons (xVar 0) (xCons (xC (.str (Str.ofString ""))) (xCons (xC (.str (Str.ofString " "))) (xCons (xC (.str (Str.ofString ";"))) (xCons (xC (.str (Str.ofString ": "))) (xNil))))))))))))) (xgName 3)) (xRet (xOp (dAdd) (xVarP 3) (xL (xLst (xCons (xOp (dAdd) (xOp (dAdd) (xOp (dAdd) (xVarP 0) (xC (.str (Str.ofString ": ")))) (xVarP 1)) (xC (.str (Str.ofString "\n")))) (xCons (xOp (dAdd) (xOp (dAdd) (xOp (dAdd) (xOp (dAdd) (xVarP 0) (xC (.str (Str.ofString ": ")))) (xVarP 1)) (xC (.str (Str.ofString " ; ")))) (xVarP 2)) (xCons (xOp (dAdd) (xOp (dAdd) (xOp (dAdd) (xVarP 0) (xC (.str (Str.ofString ": ")))) (xVarP 1)) (xC (.str (Str.ofString ":")))) (xCons (xC (.str (Str.ofString "; "))) (xNil)))))))))))
noncomputable def mo__law_blanks : List D → Option O := fnO 4 X__law_blanks
noncomputable def m__law_blanks : List D → Option D := fun ds => (mo__law_blanks ds).map O.d
noncomputable def X__law_orders : XS := xSeq (xAsg (xOp (dAdd) (xOp (dAdd) (xCB bStrI (xCons (xVarP 1) (xNil))) (xC (.str (Str.ofString "..")))) (xCB bStrI (xCons (xVarP 2) (xNil)))) (xgName 6)) (xSeq (xAsg (xL (xLst (xCons (xOp (dAdd) (xOp (dAdd) (xCB bStrI (xCons (xVarP 3) (xNil))) (xC (.str (Str.ofString " ")))) (xVarP 6)) (xCons (xOp (dAdd) (xOp (dAdd) (xVarP 6) (xC (.str (Str.ofString " ")))) (xCB bStrI (xCons (xOp (dAdd) (xVarP 2) (xC (.int 1))) (xNil)))) (xCons (xOp (dAdd) (xOp (dAdd) (xVarP 6) (xC (.str (Str.ofString " ")))) (xCB bStrI (xCons (xVarP 2) (xNil)))) (xCons (xOp (dAdd) (xOp (dAdd) (xCB bStrI (xCons (xVarP 2) (xNil))) (xC (.str (Str.ofString "..")))) (xCB bStrI (xCons (xVarP 1) (xNil)))) (xNil))))))) (xgName 7)) (xSeq (xAsg (xOp (dAdd) (xVarP 7) (xL (xLst (xCons (xOp (dAdd) (xOp (dAdd) (xVarP 6) (xC (.str (Str.ofString " ")))) (xVarP 6)) (xCons (xOp (dAdd) (xOp (dAdd) (xCB bStrI (xCons (xVarP 1) (xNil))) (xC (.str (Str.ofString "..")))) (xCB bStrI (xCons (xVarP 1) (xNil)))) (xCons (xOp (dAdd) (xOp (dAdd) (xCB bStrI (xCons (xVarP 1) (xNil))) (xC (.str (Str.ofString "...")))) (xCB bStrI (xCons (xVarP 2) (xNil)))) (xCons (xOp (dAdd) (xOp (dAdd) (xCB bStrI (xCons (xVarP 1) (xNil))) (xC (.str (Str.ofString ".")))) (xCB bStrI (xCons (xVarP 2) (xNil)))) (xNil)))))))) (xgName 7)) (xSeq (xAsg (xOp (dAdd) (xVarP 7) (xL (xLst (xCons (xOp (dAdd) (xVarP 6) (xC (.str (Str.ofString "..")))) (xCons (xOp (dAdd) (xC (.str (Str.ofString ".."))) (xCB bStrI (xCons (xVarP 2) (xNil)))) (xCons (xOp (dAdd) (xOp (dAdd) (xVarP 6) (xC (.str (Str.ofString " 0")))) (xCB bStrI (xCons (xCB bAbs (xCons (xVarP 4) (xNil))) (xNil)))) (xCons (xOp (dAdd) (xOp (dAdd) (xVarP 6) (xC (.str (Str.ofString " +")))) (xCB bStrI (xCons (xCB bAbs (xCons (xVarP 4) (xNil))) (xNil)))) (xNil)))))))) (xgName 7)) (xSeq (xAsg (xOp (dAdd) (xVarP 7) (xL (xLst (xCons (xOp (dAdd) (xVarP 6) (xC (.str (Str.ofString " -0")))) (xCons (xOp (dAdd) (xOp (dAdd) (xVarP 6) (xC (.str (Str.ofString "..")))) (xCB bStrI (xCons (xVarP 4) (xNil)))) (xCons (xOp (dAdd) (xOp (dAdd) (xVarP 6) (xC (.str (Str.ofString ", ")))) (xCB bStrI (xCons (xVarP 3) (xNil)))) (xCons (xOp (dAdd) (xC (.str (Str.ofString "1"))) (xOp (dMulS) (xC (.str (Str.ofString "0"))) (xC (.int 60)))) (xNil)))))))) (xgName 7)) (xSeq (xAsg (xL (xComp [none, some 0] (xIt (xVarP 7)) (xgName 0) (xYes) (xOp (dAdd) (xOp (dAdd) (xCB bStrI (xCons (xVarP 1) (xNil))) (xC (.str (Str.ofString ": ")))) (xVarP 0)))) (xgName 8)) (xSeq (xAsg (xOp (dAdd) (xVarP 8) (xL (xLst (xCons (xOp (dAdd) (xOp (dAdd) (xOp (dAdd) (xOp (dAdd) (xOp (dAdd) (xOp (dAdd) (xCB bStrI (xCons (xVarP 0) (xNil))) (xC (.str (Str.ofString ": ")))) (xVarP 6)) (xC (.str (Str.ofString "; ")))) (xCB bStrI (xCons (xVarP 0) (xNil)))) (xC (.str (Str.ofString ": ")))) (xCB bStrI (xCons (xVarP 3) (xNil)))) (xCons (xOp (dAdd) (xOp (dAdd) (xOp (dAdd) (xOp (dAdd) (xCB bStrI (xCons (xOp (dAdd) (xVarP 0) (xC (.int 1))) (xNil))) (xC (.str (Str.ofString ": ")))) (xCB bStrI (xCons (xVarP 3) (xNil)))) (xC (.str (Str.ofString "; ")))) (xVarP 5)) (xNil)))))) (xgName 8)) (xSeq (xAsg (xOp (dAdd) (xVarP 8) (xL (xLst (xCons (xOp (dAdd) (xOp (dAdd) (xOp (dAdd) (xC (.str (Str.ofString "1"))) (xOp (dMulS) (xC (.str (Str.ofString "0"))) (xC (.int 60)))) (xC (.str (Str.ofString ": ")))) (xVarP 6)) (xCons (xOp (dAdd) (xOp (dAdd) (xOp (dAdd) (xOp (dAdd) (xCB bStrI (xCons (xVarP 0) (xNil))) (xC (.str (Str.ofString ": ")))) (xCB bStrI (xCons (xVarP 1) (xNil)))) (xC (.str (Str.ofString "..1")))) (xOp (dMulS) (xC (.str (Str.ofString "0"))) (xC (.int 60)))) (xNil)))))) (xgName 8)) (xRet (xOp (dAdd) (xVarP 8) (xL (xLst (xCons (xOp (dAdd) (xOp (dAdd) (xOp (dAdd) (xC (.str (Str.ofString "0"))) (xCB bStrI (xCons (xCB bAbs (xCons (xVarP 0) (xNil))) (xNil)))) (xC (.str (Str.ofString ": ")))) (xVarP 6)) (xCons (xOp (dAdd) (xC (.str (Str.ofString "nothing; "))) (xVarP 5)) (xCons (xOp (dAdd) (xVarP 5) (xC (.str (Str.ofString "; nothing")))) (xNil)))))))))))))))
noncomputable def mo__law_orders : List D → Option O := fnO 9 X__law_orders
noncomputable def m__law_orders : List D → Option D := fun ds => (mo__law_orders ds).map O.d
noncomputable def X__law_signed : XS := xSeq (xIf (xB (xOp (dLt) (xVarP 0) (xC (.int 0)))) (xRet (xOp (dSub) (xC (.int 0)) (xOp (dMod) (xOp (dSub) (xC (.int 0)) (xVarP 0)) (xVarP 1)))) (xNext)) (xRet (xOp (dMod) (xVarP 0) (xVarP 1)))
noncomputable def mo__law_signed : List D → Option O := fnO 2 X__law_signed
noncomputable def m__law_signed : List D → Option D := fun ds => (mo__law_signed ds).map O.d
noncomputable def X__law_things : XS := xRetT (xLT (xLst (xCons (xC (.str (Str.ofString "Nothing"))) (xCons (xC (.str (Str.ofString "nothing "))) (xCons (xC (.str (Str.ofString " nothing"))) (xCons (xC (.str (Str.ofString "nothin"))) (xCons (xC (.str (Str.ofString "none"))) (xCons (xC .non) (xCons (xC (.int 7)) (xCons (xC (.bl true)) (xCons (xL (xLst (xCons (xVar 0) (xNil)))) (xCons (xTup (xCons (xVar 0) (xNil))) (xCons (xVar 1) (xCons (xTup (xNil)) (xCons (xL (xLst (xNil))) (xNil))))))))))))))))
noncomputable def mo__law_things : List D → Option O := fnO 2 X__law_things
noncomputable def m__law_things : List D → Option D := fun ds => (mo__law_things ds).map O.d
noncomputable def B_row_of_0 : XS := xIf (xAnd (xTru (xVarP 1)) (xB (xOp (dLe) (xVarP 2) (xOp (dAdd) (xOp dIx (xOp dIx (xVarP 1) (xUn dNeg (xC (.int 1)))) (xC (.int 1))) (xC (.int 1)))))) (xSetP 1 xPv (xUn dNeg (xC (.int 1))) (xTup (xCons (xOp dIx (xOp dIx (xVarP 1) (xUn dNeg (xC (.int 1)))) (xC (.int 0))) (xCons (xCB bMax2 (xCons (xOp dIx (xOp dIx (xVarP 1) (xUn dNeg (xC (.int 1)))) (xC (.int 1))) (xCons (xVarP 3) (xNil)))) (xNil))))) (xAppP 1 (xPv) (xSh (xTup (xCons (xVar 2) (xCons (xVar 3) (xNil))))))
noncomputable def X_row_of : XS := xSeq (xAsgF (xLst (xNil)) 1) (xSeq (xFor (xIt (xL (xCBF bSorted (xCons (xL (xComp [none, none] (xIt (xVarP 0)) (xgTup (xgCons (xgName 0) (xgCons (xgName 1) (xgNil)))) (xB (xOp (dLe) (xVarP 0) (xVarP 1))) (xTup (xCons (xVar 0) (xCons (xVar 1) (xNil)))))) (xNil))))) (xgTup (xgCons (xgName 2) (xgCons (xgName 3) (xgNil)))) (B_row_of_0)) (xRet (xCB bTuple (xCons (xVarP 1) (xNil)))))
noncomputable def mo_row_of : List D → Option O := fnO 4 X_row_of
noncomputable def m_row_of : List D → Option D := fun ds => (mo_row_of ds).map O.d
noncomputable def X_show_stretch : XS := xSeq (xIf (xB (xOp (dEq false) (xVarP 0) (xVarP 1))) (xRet (xFv (xVarP 0))) (xNext)) (xRet (xJs [xFv (xVarP 0), xC (.str (Str.ofString "..")), xFv (xVarP 1)] Str.empty))
noncomputable def mo_show_stretch : List D → Option O := fnO 2 X_show_stretch
noncomputable def m_show_stretch : List D → Option D := fun ds => (mo_show_stretch ds).map O.d
noncomputable def X_writes_whole : XS := xSeq (xAsg (xIfE (xTru (xOp dStarts (xVarP 0) (xC (.str (Str.ofString "-"))))) (xSlS (xVarP 0) (xPart (xC (.int 1))) (xNoPart)) (xVar 0)) (xgName 1)) (xSeq (xIf (xOr (xB (xOp (dEq false) (xVarP 1) (xC (.str (Str.ofString ""))))) (xB (xOp (dGt) (xCB bLen (xCons (xVarP 1) (xNil))) (xC (.int (60)))))) (xRet (xC (.bl false))) (xNext)) (xSeq (xIf (xNot (xTru (xCB bAll (xCons (xL (xComp [none] (xItS (xVar 1)) (xgName 0) (xYes) (xOp (dInS) (xVarP 0) (xC (.str (Str.ofString "0123456789")))))) (xNil))))) (xRet (xC (.bl false))) (xNext)) (xRet (xOp (dEq false) (xCB bStrI (xCons (xCB bIntS (xCons (xVarP 0) (xNil))) (xNil))) (xVarP 0)))))
noncomputable def mo_writes_whole : List D → Option O := fnO 2 X_writes_whole
noncomputable def m_writes_whole : List D → Option D := fun ds => (mo_writes_whole ds).map O.d
noncomputable def Y_read_whole : XR := xrStop (xrIf (xOr (xNot (xTru (xCB bIsi (xCons (xVarP 0) (xCons (xC (.ty "str")) xNil))))) (xNot (xTru (xCall m_writes_whole (xCons (xVar 0) (xNil)))))) (xrRaise "NoText") (xrNext))
noncomputable def rX_read_whole : List D → Option Str := fnX 1 Y_read_whole
noncomputable def X__law_numbers : XS := xSeq (xAsg (xOp (dDiv) (xOp (dMod) (xOp (dMul) (xVarP 0) (xC (.int 48271))) (xC (.int 2147483647))) (xC (.int 37))) (xgName 2)) (xSeq (xAsg (xOp dIx (xL (xLst (xCons (xC (.int 7)) (xCons (xOp (dPow) (xC (.int 10)) (xC (.int 58))) (xNil))))) (xOp (dMod) (xVarP 2) (xC (.int 2)))) (xgName 3)) (xSeq (xAsg (xCall m__law_signed (xCons (xVar 0) (xCons (xVar 3) (xNil)))) (xgName 4)) (xSeq (xAsg (xOp (dAdd) (xOp (dAdd) (xVarP 4) (xC (.int 1))) (xOp (dMod) (xVarP 1) (xOp dIx (xL (xLst (xCons (xC (.int 3)) (xCons (xOp (dPow) (xC (.int 10)) (xC (.int 57))) (xNil))))) (xOp (dMod) (xOp (dDiv) (xVarP 2) (xC (.int 2))) (xC (.int 2)))))) (xgName 5)) (xSeq (xAsg (xOp (dAdd) (xOp (dAdd) (xVarP 5) (xC (.int 2))) (xOp (dMod) (xOp (dDiv) (xVarP 2) (xC (.int 4))) (xC (.int 3)))) (xgName 6)) (xRetT (xLT (xLst (xCons (xCall m__law_signed (xCons (xVar 1) (xCons (xOp dIx (xL (xLst (xCons (xC (.int 7)) (xCons (xOp (dPow) (xC (.int 10)) (xC (.int 58))) (xNil))))) (xOp (dMod) (xOp (dDiv) (xVarP 2) (xC (.int 16))) (xC (.int 2)))) (xNil)))) (xCons (xVar 4) (xCons (xVar 5) (xCons (xVar 6) (xCons (xOp (dAdd) (xOp (dAdd) (xVarP 6) (xC (.int 1))) (xOp (dMod) (xOp (dDiv) (xVarP 2) (xC (.int 32))) (xC (.int 4)))) (xNil)))))))))))))
noncomputable def mo__law_numbers : List D → Option O := fnO 7 X__law_numbers
noncomputable def m__law_numbers : List D → Option D := fun ds => (mo__law_numbers ds).map O.d
noncomputable def B_picture_of_0 : XS := xSeq (xIf (xOr (xNot (xTru (xVarQ 1))) (xB (xOp (dEq true) (xFl (xOp dIx (xOp dIx (xVarQ 1) (xUn dNeg (xC (.int 1)))) (xC (.int 0)))) (xVarP 2)))) (xAppP 1 (xPv) (xTupT (xConsT (xSh (xVar 2)) (xConsT (xLstT (xNilT)) (xNilT))))) (xNext)) (xAppP 1 (xPi (xPi (xPv) (xUn dNeg (xC (.int 1)))) (xC (.int 1))) (xSh (xTup (xCons (xVar 3) (xCons (xVar 4) (xNil))))))
noncomputable def X_picture_of : XS := xSeq (xAsgF (xLst (xNil)) 1) (xSeq (xFor (xIt (xL (xCBF bSorted (xCons (xL (xComp [none, none, none] (xIt (xVarP 0)) (xgTup (xgCons (xgName 0) (xgCons (xgName 1) (xgCons (xgName 2) (xgNil))))) (xB (xOp (dLe) (xVarP 1) (xVarP 2))) (xTup (xCons (xVar 0) (xCons (xVar 1) (xCons (xVar 2) (xNil))))))) (xNil))))) (xgTup (xgCons (xgName 2) (xgCons (xgName 3) (xgCons (xgName 4) (xgNil))))) (B_picture_of_0)) (xFrz 1 (xRet (xCB bTuple (xCons (xL (xComp [none, none] (xIt (xVar 1)) (xgTup (xgCons (xgName 0) (xgCons (xgName 1) (xgNil)))) (xYes) (xTup (xCons (xVar 0) (xCons (xCall m_row_of (xCons (xVar 1) (xNil))) (xNil)))))) (xNil))))))
noncomputable def mo_picture_of : List D → Option O := fnO 5 X_picture_of
noncomputable def m_picture_of : List D → Option D := fun ds => (mo_picture_of ds).map O.d
noncomputable def X_read_whole : XS := xSeq (xIf (xOr (xNot (xTru (xCB bIsi (xCons (xVarP 0) (xCons (xC (.ty "str")) xNil))))) (xNot (xTru (xCall m_writes_whole (xCons (xVar 0) (xNil)))))) (xNever) (xNext)) (xRet (xCB bIntS (xCons (xVarP 0) (xNil))))
noncomputable def mo_read_whole : List D → Option O := fnO 1 X_read_whole
noncomputable def m_read_whole : List D → Option D := fun ds => (mo_read_whole ds).map O.d
noncomputable def X_show_row : XS := xSeq (xAsg (xOp dJoin (xC (.str (Str.ofString " "))) (xL (xComp [none, none] (xIt (xVarP 1)) (xgTup (xgCons (xgName 0) (xgCons (xgName 1) (xgNil)))) (xYes) (xCall m_show_stretch (xCons (xVar 0) (xCons (xVar 1) (xNil))))))) (xgName 2)) (xRet (xJs [xFv (xVarP 0), xC (.str (Str.ofString ": ")), xFv (xVarP 2)] Str.empty))
noncomputable def mo_show_row : List D → Option O := fnO 3 X_show_row
noncomputable def m_show_row : List D → Option D := fun ds => (mo_show_row ds).map O.d
noncomputable def Y_read_stretch : XR := xrSeq (xrOf (xAsg (xOp dSplit (xVarP 1) (xC (.str (Str.ofString "..")))) (xgName 2))) (xrE (xaTail (xVar 0) (xaOr (xeCall rX_read_whole (xCons (xOp dIx (xVarP 2) (xC (.int 0))) (xNil))) (xCall m_read_whole (xCons (xOp dIx (xVarP 2) (xC (.int 0))) (xNil))) (xaHead (xeCall rX_read_whole (xCons (xOp dIx (xVarP 2) (xUn dNeg (xC (.int 1)))) (xNil)))))))
noncomputable def rX_read_stretch : List D → Option Str := fnX 3 Y_read_stretch
noncomputable def X_read_stretch : XS := xSeq (xAsg (xOp dSplit (xVarP 1) (xC (.str (Str.ofString "..")))) (xgName 2)) (xRet (xTup (xCons (xVar 0) (xCons (xCall m_read_whole (xCons (xOp dIx (xVarP 2) (xC (.int 0))) (xNil))) (xCons (xCall m_read_whole (xCons (xOp dIx (xVarP 2) (xUn dNeg (xC (.int 1)))) (xNil))) (xNil))))))
noncomputable def mo_read_stretch : List D → Option O := fnO 3 X_read_stretch
noncomputable def m_read_stretch : List D → Option D := fun ds => (mo_read_stretch ds).map O.d
noncomputable def X_show : XS := xSeq (xIf (xB (xOp (dEq false) (xVarP 0) (xTup (xNil)))) (xRet (xC (.str (Str.ofString "nothing")))) (xNext)) (xRet (xOp dJoin (xC (.str (Str.ofString "; "))) (xL (xComp [none, none] (xIt (xVarP 0)) (xgTup (xgCons (xgName 0) (xgCons (xgName 1) (xgNil)))) (xYes) (xCall m_show_row (xCons (xVar 0) (xCons (xVar 1) (xNil))))))))
noncomputable def mo_show : List D → Option O := fnO 1 X_show
noncomputable def m_show : List D → Option D := fun ds => (mo_show ds).map O.d
noncomputable def BY_read_stretches_0 : XR := xrSeq (xrOr (xeCall rX_read_whole (xCons (xVar 2) (xNil))) (xAsg (xCall m_read_whole (xCons (xVar 2) (xNil))) (xgName 5))) (xrOr (xeExt 1 (xeComp [none, some 5] (xIt (xOp dSplit (xVarP 4) (xC (.str (Str.ofString " "))))) (xgName 0) (xYes) (xCall m_read_stretch (xCons (xVar 1) (xCons (xVar 0) (xNil)))) (xeCall rX_read_stretch (xCons (xVar 1) (xCons (xVar 0) (xNil)))))) (xExtP 1 (xPv) (xL (xComp [none, some 5] (xIt (xOp dSplit (xVarP 4) (xC (.str (Str.ofString " "))))) (xgName 0) (xYes) (xCall m_read_stretch (xCons (xVar 1) (xCons (xVar 0) (xNil))))))))
noncomputable def Y_read_stretches : XR := xrSeq (xrOf (xAsgF (xLst (xNil)) 1)) (xrStop (xrFor (xIt (xL (xComp [none] (xIt (xOp dSplit (xVarP 0) (xC (.str (Str.ofString "; "))))) (xgName 0) (xYes) (xOp dPart (xVarP 0) (xC (.str (Str.ofString ": "))))))) (xgTup (xgCons (xgName 2) (xgCons (xgName 3) (xgCons (xgName 4) (xgNil))))) (BY_read_stretches_0)))
noncomputable def rX_read_stretches : List D → Option Str := fnX 6 Y_read_stretches
noncomputable def B_read_stretches_0 : XS := xSeq (xAsg (xCall m_read_whole (xCons (xVar 2) (xNil))) (xgName 5)) (xExtP 1 (xPv) (xL (xComp [none, some 5] (xIt (xOp dSplit (xVarP 4) (xC (.str (Str.ofString " "))))) (xgName 0) (xYes) (xCall m_read_stretch (xCons (xVar 1) (xCons (xVar 0) (xNil)))))))
noncomputable def X_read_stretches : XS := xSeq (xAsgF (xLst (xNil)) 1) (xSeq (xFor (xIt (xL (xComp [none] (xIt (xOp dSplit (xVarP 0) (xC (.str (Str.ofString "; "))))) (xgName 0) (xYes) (xOp dPart (xVarP 0) (xC (.str (Str.ofString ": "))))))) (xgTup (xgCons (xgName 2) (xgCons (xgName 3) (xgCons (xgName 4) (xgNil))))) (B_read_stretches_0)) (xRetV 1))
noncomputable def mo_read_stretches : List D → Option O := fnO 6 X_read_stretches
noncomputable def m_read_stretches : List D → Option D := fun ds => (mo_read_stretches ds).map O.d
noncomputable def Y_read : XR := xrSeq (xrIf (xNot (xTru (xCB bIsi (xCons (xVarP 0) (xCons (xC (.ty "str")) xNil))))) (xrRaise "NoText") (xrNext)) (xrSeq (xrOf (xIf (xB (xOp (dEq false) (xVarP 0) (xC (.str (Str.ofString "nothing"))))) (xRet (xTup (xNil))) (xNext))) (xrSeq (xrOr (xeCall rX_read_stretches (xCons (xVar 0) (xNil))) (xAsg (xCall m_picture_of (xCons (xCall m_read_stretches (xCons (xVar 0) (xNil))) (xNil))) (xgName 1))) (xrStop (xrIf (xB (xOp (dEq true) (xCall m_show (xCons (xVar 1) (xNil))) (xVarP 0))) (xrRaise "NoText") (xrNext)))))
noncomputable def rX_read : List D → Option Str := fnX 2 Y_read
noncomputable def X_read : XS := xSeq (xIf (xNot (xTru (xCB bIsi (xCons (xVarP 0) (xCons (xC (.ty "str")) xNil))))) (xNever) (xNext)) (xSeq (xIf (xB (xOp (dEq false) (xVarP 0) (xC (.str (Str.ofString "nothing"))))) (xRet (xTup (xNil))) (xNext)) (xSeq (xAsg (xCall m_picture_of (xCons (xCall m_read_stretches (xCons (xVar 0) (xNil))) (xNil))) (xgName 1)) (xSeq (xIf (xB (xOp (dEq true) (xCall m_show (xCons (xVar 1) (xNil))) (xVarP 0))) (xNever) (xNext)) (xRet (xVar 1)))))
noncomputable def mo_read : List D → Option O := fnO 2 X_read
noncomputable def m_read : List D → Option D := fun ds => (mo_read ds).map O.d
noncomputable def X__law_refused : XS := xSeq (xAsg (xC .non) (xgName 1)) (xSeq (xTry xNs 2 (xrE (xeCall rX_read (xCons (xVar 0) (xNil)))) [(1, [ax_ValueError, ax_NoText, ax_NoRow, ax_NoForm, ax_NoName, ax_NoBack, ax_TooGreat, ax_TooMany])]) (xRet (xOp (dEq false) (xVarP 1) (xL (xLst (xCons (xC (.bl true)) (xCons (xC (.bl true)) (xCons (xC (.bl false)) (xCons (xC (.bl false)) (xCons (xC (.bl false)) (xCons (xC (.bl false)) (xCons (xC (.bl false)) (xCons (xC (.bl false)) (xNil))))))))))))))
noncomputable def mo__law_refused : List D → Option O := fnO 3 X__law_refused
noncomputable def m__law_refused : List D → Option D := fun ds => (mo__law_refused ds).map O.d
noncomputable def X__law_one : XS := xSeq (xAsg (xCall m__law_numbers (xCons (xVar 0) (xCons (xVar 1) (xNil)))) (xgLst (xgCons (xgName 2) (xgCons (xgName 3) (xgCons (xgName 4) (xgCons (xgName 5) (xgCons (xgName 6) (xgNil)))))))) (xSeq (xAsg (xOp (dAdd) (xOp (dAdd) (xOp (dAdd) (xOp (dAdd) (xCB bStrI (xCons (xVarP 3) (xNil))) (xC (.str (Str.ofString "..")))) (xCB bStrI (xCons (xVarP 4) (xNil)))) (xC (.str (Str.ofString " ")))) (xCB bStrI (xCons (xVarP 5) (xNil)))) (xgName 7)) (xSeq (xAsg (xOp (dAdd) (xOp (dAdd) (xOp (dAdd) (xOp (dAdd) (xOp (dAdd) (xOp (dAdd) (xCB bStrI (xCons (xOp (dAdd) (xVarP 2) (xC (.int 1))) (xNil))) (xC (.str (Str.ofString ": ")))) (xCB bStrI (xCons (xVarP 3) (xNil)))) (xC (.str (Str.ofString "..")))) (xCB bStrI (xCons (xVarP 4) (xNil)))) (xC (.str (Str.ofString " ")))) (xCB bStrI (xCons (xVarP 6) (xNil)))) (xgName 8)) (xSeq (xAsg (xTup (xCons (xTup (xCons (xVar 2) (xCons (xTup (xCons (xTup (xCons (xVar 3) (xCons (xVar 4) (xNil)))) (xCons (xTup (xCons (xVar 5) (xCons (xVar 5) (xNil)))) (xNil)))) (xNil)))) (xNil))) (xgName 9)) (xSeq (xAsg (xOp (dAdd) (xVarP 9) (xTup (xCons (xTup (xCons (xOp (dAdd) (xVarP 2) (xC (.int 1))) (xCons (xTup (xCons (xTup (xCons (xVar 3) (xCons (xVar 4) (xNil)))) (xCons (xTup (xCons (xVar 6) (xCons (xVar 6) (xNil)))) (xNil)))) (xNil)))) (xNil)))) (xgName 10)) (xSeq (xAsg (xOp (dAdd) (xCall m__law_blanks (xCons (xCB bStrI (xCons (xVarP 2) (xNil))) (xCons (xVar 7) (xCons (xVar 8) (xNil))))) (xCall m__law_orders (xCons (xVar 2) (xCons (xVar 3) (xCons (xVar 4) (xCons (xVar 5) (xCons (xVar 6) (xCons (xOp (dAdd) (xOp (dAdd) (xCB bStrI (xCons (xVarP 2) (xNil))) (xC (.str (Str.ofString ": ")))) (xVarP 7)) (xNil))))))))) (xgName 11)) (xSeq (xAsg (xOp (dAdd) (xVarP 11) (xCall m__law_things (xCons (xVar 7) (xCons (xVar 9) (xNil))))) (xgName 11)) (xSeq (xAsg (xOp (dAdd) (xOp (dAdd) (xCB bStrI (xCons (xVarP 2) (xNil))) (xC (.str (Str.ofString ": ")))) (xVarP 7)) (xgName 12)) (xSeq (xIf (xOr (xB (xOp (dEq true) (xCall m_read (xCons (xVar 12) (xNil))) (xVarP 9))) (xNot (xTru (xCall m__law_refused (xCons (xOp dIx (xVarP 11) (xOp (dMod) (xOp (dDiv) (xOp (dMod) (xOp (dAdd) (xOp (dMul) (xVarP 0) (xC (.int 39373))) (xVarP 1)) (xC (.int 2147483629))) (xC (.int 37))) (xCB bLen (xCons (xVarP 11) (xNil))))) (xNil)))))) (xRet (xC (.bl false))) (xNext)) (xRet (xAndV (xOp (dEq false) (xCall m_read (xCons (xOp (dAdd) (xOp (dAdd) (xVarP 12) (xC (.str (Str.ofString "; ")))) (xVarP 8)) (xNil))) (xVarP 10)) (xOp (dEq false) (xCall m_read (xCons (xVar 12) (xNil))) (xVarP 9))))))))))))
noncomputable def mo__law_one : List D → Option O := fnO 13 X__law_one
noncomputable def m__law_one : List D → Option D := fun ds => (mo__law_one ds).map O.d
noncomputable def B_law_0 : XS := xIf (xNot (xTru (xCall m__law_one (xCons (xOp dIx (xVarP 0) (xVarP 1)) (xCons (xOp dIx (xVarP 0) (xOp (dMod) (xOp (dAdd) (xVarP 1) (xC (.int 1))) (xCB bLen (xCons (xVarP 0) (xNil))))) (xNil)))))) (xRet (xC (.bl false))) (xNext)
noncomputable def X_law : XS := xSeq (xFor (xRng (xCons (xCB bMin2 (xCons (xCB bLen (xCons (xVarP 0) (xNil))) (xCons (xC (.int 63)) (xNil)))) (xNil))) (xgName 1) (B_law_0)) (xRet (xC (.bl true)))
noncomputable def mo_law : List D → Option O := fnO 2 X_law
noncomputable def m_law : List D → Option D := fun ds => (mo_law ds).map O.d
noncomputable abbrev sp__law_blanks (K : PySem.W.Frag) : Sp := spOf K 3 mo__law_blanks
noncomputable def pk__law_blanks (K : PySem.W.Frag) : { t : TS // SS K t X__law_blanks } := ⟨_, s_seq (s_asg ((s_lst (sa_cons (s_op r_add ((s_op r_add (s_varP 0) ((s_c rfl).p)).p) (s_varP 1)) (sa_cons (s_op r_add ((s_op r_add ((s_op r_add (s_varP 0) ((s_c rfl).p)).p) (s_varP 1)).p) ((s_c rfl).p)) (sa_cons (s_op r_add ((s_op r_add ((s_op r_add ((s_c rfl).p) (s_varP 0)).p) ((s_c rfl).p)).p) (s_varP 1)) (sa_cons (s_op r_add ((s_op r_add (s_varP 0) ((s_c rfl).p)).p) (s_varP 1)) (sa_cons (s_op r_add ((s_op r_add (s_varP 0) ((s_c rfl).p)).p) (s_varP 1)) (sa_cons (s_var 1) (sa_nil)))))))).e) (g_name 3)) (s_seq (s_asg (s_op r_add (s_varP 3) (((s_lst (sa_cons (s_op r_add ((s_op r_add (s_varP 0) ((s_c rfl).p)).p) (s_varP 1)) (sa_cons (s_op r_add ((s_op r_add ((s_op r_add (s_varP 0) ((s_c rfl).p)).p) (s_varP 1)).p) (s_varP 2)) (sa_cons (s_op r_add ((s_op r_add ((s_op r_add ((s_op r_add (s_varP 0) ((s_c rfl).p)).p) (s_varP 1)).p) ((s_c rfl).p)).p) (s_varP 2)) (sa_cons (s_op r_add ((s_op r_add ((s_op r_add (s_varP 0) ((s_c rfl).p)).p) (s_varP 1)).p) ((s_c rfl).p)) (sa_nil)))))).e).p)) (g_name 3)) (s_seq (s_asg (s_op r_add (s_varP 3) (((s_lst (sa_cons (s_op r_add ((s_op r_add ((s_op r_add ((s_c rfl).p) (s_varP 0)).p) ((s_c rfl).p)).p) (s_varP 1)) (sa_cons (s_op r_add ((s_op r_add ((s_op r_add ((s_op r_add (s_varP 0) ((s_c rfl).p)).p) (s_varP 1)).p) ((s_c rfl).p)).p) (s_varP 2)) (sa_cons (s_op r_add (s_varP 0) ((s_c rfl).p)) (sa_cons (s_op r_add (s_varP 0) ((s_c rfl).p)) (sa_cons (s_var 0) (sa_cons (s_c rfl) (sa_cons (s_c rfl) (sa_cons (s_c rfl) (sa_cons (s_c rfl) (sa_nil))))))))))).e).p)) (g_name 3)) (s_ret (s_op r_add (s_varP 3) (((s_lst (sa_cons (s_op r_add ((s_op r_add ((s_op r_add (s_varP 0) ((s_c rfl).p)).p) (s_varP 1)).p) ((s_c rfl).p)) (sa_cons (s_op r_add ((s_op r_add ((s_op r_add ((s_op r_add (s_varP 0) ((s_c rfl).p)).p) (s_varP 1)).p) ((s_c rfl).p)).p) (s_varP 2)) (sa_cons (s_op r_add ((s_op r_add ((s_op r_add (s_varP 0) ((s_c rfl).p)).p) (s_varP 1)).p) ((s_c rfl).p)) (sa_cons (s_c rfl) (sa_nil)))))).e).p)))))⟩
theorem rd__law_blanks {K : PySem.W.Frag} {vs : List V} {H : Hp} {Q : VK} {E : XK} (h : sp__law_blanks K vs H Q E) : (pk__law_blanks K).1 { nx := fun _ H' => Q .non H', rt := Q } (start ["_law_y", "_law_line", "_law_more", "_law_some"] vs) H := rd_of (pk__law_blanks K).2 rfl h
noncomputable abbrev sp__law_orders (K : PySem.W.Frag) : Sp := spOf K 6 mo__law_orders
noncomputable def pk__law_orders (K : PySem.W.Frag) : { t : TS // SS K t X__law_orders } := ⟨_, s_seq (s_asg (s_op r_add ((s_op r_add ((s_cb b_strI (sp_cons (s_varP 1) (sp_nil))).p) ((s_c rfl).p)).p) ((s_cb b_strI (sp_cons (s_varP 2) (sp_nil))).p)) (g_name 6)) (s_seq (s_asg ((s_lst (sa_cons (s_op r_add ((s_op r_add ((s_cb b_strI (sp_cons (s_varP 3) (sp_nil))).p) ((s_c rfl).p)).p) (s_varP 6)) (sa_cons (s_op r_add ((s_op r_add (s_varP 6) ((s_c rfl).p)).p) ((s_cb b_strI (sp_cons ((s_op r_add (s_varP 2) ((s_c rfl).p)).p) (sp_nil))).p)) (sa_cons (s_op r_add ((s_op r_add (s_varP 6) ((s_c rfl).p)).p) ((s_cb b_strI (sp_cons (s_varP 2) (sp_nil))).p)) (sa_cons (s_op r_add ((s_op r_add ((s_cb b_strI (sp_cons (s_varP 2) (sp_nil))).p) ((s_c rfl).p)).p) ((s_cb b_strI (sp_cons (s_varP 1) (sp_nil))).p)) (sa_nil)))))).e) (g_name 7)) (s_seq (s_asg (s_op r_add (s_varP 7) (((s_lst (sa_cons (s_op r_add ((s_op r_add (s_varP 6) ((s_c rfl).p)).p) (s_varP 6)) (sa_cons (s_op r_add ((s_op r_add ((s_cb b_strI (sp_cons (s_varP 1) (sp_nil))).p) ((s_c rfl).p)).p) ((s_cb b_strI (sp_cons (s_varP 1) (sp_nil))).p)) (sa_cons (s_op r_add ((s_op r_add ((s_cb b_strI (sp_cons (s_varP 1) (sp_nil))).p) ((s_c rfl).p)).p) ((s_cb b_strI (sp_cons (s_varP 2) (sp_nil))).p)) (sa_cons (s_op r_add ((s_op r_add ((s_cb b_strI (sp_cons (s_varP 1) (sp_nil))).p) ((s_c rfl).p)).p) ((s_cb b_strI (sp_cons (s_varP 2) (sp_nil))).p)) (sa_nil)))))).e).p)) (g_name 7)) (s_seq (s_asg (s_op r_add (s_varP 7) (((s_lst (sa_cons (s_op r_add (s_varP 6) ((s_c rfl).p)) (sa_cons (s_op r_add ((s_c rfl).p) ((s_cb b_strI (sp_cons (s_varP 2) (sp_nil))).p)) (sa_cons (s_op r_add ((s_op r_add (s_varP 6) ((s_c rfl).p)).p) ((s_cb b_strI (sp_cons ((s_cb b_abs (sp_cons (s_varP 4) (sp_nil))).p) (sp_nil))).p)) (sa_cons (s_op r_add ((s_op r_add (s_varP 6) ((s_c rfl).p)).p) ((s_cb b_strI (sp_cons ((s_cb b_abs (sp_cons (s_varP 4) (sp_nil))).p) (sp_nil))).p)) (sa_nil)))))).e).p)) (g_name 7)) (s_seq (s_asg (s_op r_add (s_varP 7) (((s_lst (sa_cons (s_op r_add (s_varP 6) ((s_c rfl).p)) (sa_cons (s_op r_add ((s_op r_add (s_varP 6) ((s_c rfl).p)).p) ((s_cb b_strI (sp_cons (s_varP 4) (sp_nil))).p)) (sa_cons (s_op r_add ((s_op r_add (s_varP 6) ((s_c rfl).p)).p) ((s_cb b_strI (sp_cons (s_varP 3) (sp_nil))).p)) (sa_cons (s_op r_add ((s_c rfl).p) ((s_op r_mulS ((s_c rfl).p) ((s_c rfl).p)).p)) (sa_nil)))))).e).p)) (g_name 7)) (s_seq (s_asg ((s_comp (i_seqP (s_varP 7)) (g_name 0) (s_yes) (s_op r_add ((s_op r_add ((s_cb b_strI (sp_cons (s_varP 1) (sp_nil))).p) ((s_c rfl).p)).p) (s_varP 0))).e) (g_name 8)) (s_seq (s_asg (s_op r_add (s_varP 8) (((s_lst (sa_cons (s_op r_add ((s_op r_add ((s_op r_add ((s_op r_add ((s_op r_add ((s_op r_add ((s_cb b_strI (sp_cons (s_varP 0) (sp_nil))).p) ((s_c rfl).p)).p) (s_varP 6)).p) ((s_c rfl).p)).p) ((s_cb b_strI (sp_cons (s_varP 0) (sp_nil))).p)).p) ((s_c rfl).p)).p) ((s_cb b_strI (sp_cons (s_varP 3) (sp_nil))).p)) (sa_cons (s_op r_add ((s_op r_add ((s_op r_add ((s_op r_add ((s_cb b_strI (sp_cons ((s_op r_add (s_varP 0) ((s_c rfl).p)).p) (sp_nil))).p) ((s_c rfl).p)).p) ((s_cb b_strI (sp_cons (s_varP 3) (sp_nil))).p)).p) ((s_c rfl).p)).p) (s_varP 5)) (sa_nil)))).e).p)) (g_name 8)) (s_seq (s_asg (s_op r_add (s_varP 8) (((s_lst (sa_cons (s_op r_add ((s_op r_add ((s_op r_add ((s_c rfl).p) ((s_op r_mulS ((s_c rfl).p) ((s_c rfl).p)).p)).p) ((s_c rfl).p)).p) (s_varP 6)) (sa_cons (s_op r_add ((s_op r_add ((s_op r_add ((s_op r_add ((s_cb b_strI (sp_cons (s_varP 0) (sp_nil))).p) ((s_c rfl).p)).p) ((s_cb b_strI (sp_cons (s_varP 1) (sp_nil))).p)).p) ((s_c rfl).p)).p) ((s_op r_mulS ((s_c rfl).p) ((s_c rfl).p)).p)) (sa_nil)))).e).p)) (g_name 8)) (s_ret (s_op r_add (s_varP 8) (((s_lst (sa_cons (s_op r_add ((s_op r_add ((s_op r_add ((s_c rfl).p) ((s_cb b_strI (sp_cons ((s_cb b_abs (sp_cons (s_varP 0) (sp_nil))).p) (sp_nil))).p)).p) ((s_c rfl).p)).p) (s_varP 6)) (sa_cons (s_op r_add ((s_c rfl).p) (s_varP 5)) (sa_cons (s_op r_add (s_varP 5) ((s_c rfl).p)) (sa_nil))))).e).p))))))))))⟩
theorem rd__law_orders {K : PySem.W.Frag} {vs : List V} {H : Hp} {Q : VK} {E : XK} (h : sp__law_orders K vs H Q E) : (pk__law_orders K).1 { nx := fun _ H' => Q .non H', rt := Q } (start ["_law_y", "_law_a", "_law_b", "_law_c", "_law_d", "_law_more", "_law_stretch", "_law_some", "_law_lines"] vs) H := rd_of (pk__law_orders K).2 rfl h
noncomputable abbrev sp__law_signed (K : PySem.W.Frag) : Sp := spOf K 2 mo__law_signed
noncomputable def pk__law_signed (K : PySem.W.Frag) : { t : TS // SS K t X__law_signed } := ⟨_, s_seq (s_if (s_test (SE.p (s_op r_lt (s_varP 0) ((s_c rfl).p)))) (s_ret (s_op r_sub ((s_c rfl).p) ((s_op r_mod ((s_op r_sub ((s_c rfl).p) (s_varP 0)).p) (s_varP 1)).p))) (s_next)) (s_ret (s_op r_mod (s_varP 0) (s_varP 1)))⟩
theorem rd__law_signed {K : PySem.W.Frag} {vs : List V} {H : Hp} {Q : VK} {E : XK} (h : sp__law_signed K vs H Q E) : (pk__law_signed K).1 { nx := fun _ H' => Q .non H', rt := Q } (start ["_law_cell", "_law_most"] vs) H := rd_of (pk__law_signed K).2 rfl h
noncomputable abbrev sp__law_things (K : PySem.W.Frag) : Sp := spOf K 2 mo__law_things
noncomputable def pk__law_things (K : PySem.W.Frag) : { t : TS // SS K t X__law_things } := ⟨_, s_retT (SF.t (s_lst (sa_cons (s_c rfl) (sa_cons (s_c rfl) (sa_cons (s_c rfl) (sa_cons (s_c rfl) (sa_cons (s_c rfl) (sa_cons (s_c rfl) (sa_cons (s_c rfl) (sa_cons (s_c rfl) (sa_cons ((s_lst (sa_cons (s_var 0) (sa_nil))).e) (sa_cons (s_tup (sa_cons (s_var 0) (sa_nil))) (sa_cons (s_var 1) (sa_cons (s_tup (sa_nil)) (sa_cons ((s_lst (sa_nil)).e) (sa_nil))))))))))))))))⟩
theorem rd__law_things {K : PySem.W.Frag} {vs : List V} {H : Hp} {Q : VK} {E : XK} (h : sp__law_things K vs H Q E) : (pk__law_things K).1 { nx := fun _ H' => Q .non H', rt := Q } (start ["_law_text", "_law_picture"] vs) H := rd_of (pk__law_things K).2 rfl h
noncomputable abbrev sp_row_of (K : PySem.W.Frag) : Sp := spOf K 1 mo_row_of
noncomputable def pk_row_of (K : PySem.W.Frag) : { t : TS // SS K t X_row_of } := ⟨_, s_seq (s_asgF (s_lst (sa_nil))) (s_seq (s_for (i_seq ((s_cbF b_sorted (sp_cons (((s_comp (i_seqP (s_varP 0)) (g_tup (g_cons (g_name 0) (g_cons (g_name 1) (g_nil))) (li_cons (li_cons (li_nil)))) (s_test (SE.p (s_op r_le (s_varP 0) (s_varP 1)))) (s_tup (sa_cons (s_var 0) (sa_cons (s_var 1) (sa_nil))))).e).p) (sp_nil))).e)) (g_tup (g_cons (g_name 2) (g_cons (g_name 3) (g_nil))) (li_cons (li_cons (li_nil)))) (s_if (s_and (s_truK (s_varP 1)) (s_test (SE.p (s_op r_le (s_varP 2) ((s_op r_add ((s_op r_ix ((s_op r_ix (s_varP 1) ((s_un r_neg ((s_c rfl).p)).p)).p) ((s_c rfl).p)).p) ((s_c rfl).p)).p))))) (s_setP (s_tup (sa_cons (s_op r_ix ((s_op r_ix (s_varP 1) ((s_un r_neg ((s_c rfl).p)).p)).p) ((s_c rfl).p)) (sa_cons (s_cb b_max2 (sp_cons ((s_op r_ix ((s_op r_ix (s_varP 1) ((s_un r_neg ((s_c rfl).p)).p)).p) ((s_c rfl).p)).p) (sp_cons (s_varP 3) (sp_nil)))) (sa_nil)))) (p_var 1) ((s_un r_neg ((s_c rfl).p)).p)) (s_appP (p_var 1) ((s_tup (sa_cons (s_var 2) (sa_cons (s_var 3) (sa_nil)))).t)))) (s_ret (s_cb b_tuple (sp_cons (s_varP 1) (sp_nil)))))⟩
theorem rd_row_of {K : PySem.W.Frag} {vs : List V} {H : Hp} {Q : VK} {E : XK} (h : sp_row_of K vs H Q E) : (pk_row_of K).1 { nx := fun _ H' => Q .non H', rt := Q } (start ["pairs", "stretches", "a", "b"] vs) H := rd_of (pk_row_of K).2 rfl h
noncomputable abbrev sp_show_stretch (K : PySem.W.Frag) : Sp := spOf K 2 mo_show_stretch
noncomputable def pk_show_stretch (K : PySem.W.Frag) : { t : TS // SS K t X_show_stretch } := ⟨_, s_seq (s_if (s_test (SE.p (s_op (r_eq false) (s_varP 0) (s_varP 1)))) (s_ret (s_fv (s_varP 0))) (s_next)) (s_ret (s_js (SJ.cons ((s_fv (s_varP 0)).p) (SJ.cons ((s_c rfl).p) (SJ.cons ((s_fv (s_varP 1)).p) (SJ.nil)))) Str.empty))⟩
theorem rd_show_stretch {K : PySem.W.Frag} {vs : List V} {H : Hp} {Q : VK} {E : XK} (h : sp_show_stretch K vs H Q E) : (pk_show_stretch K).1 { nx := fun _ H' => Q .non H', rt := Q } (start ["a", "b"] vs) H := rd_of (pk_show_stretch K).2 rfl h
noncomputable abbrev sp_writes_whole (K : PySem.W.Frag) : Sp := spOf K 1 mo_writes_whole
noncomputable def pk_writes_whole (K : PySem.W.Frag) : { t : TS // SS K t X_writes_whole } := ⟨_, s_seq (s_asg (s_ifE (s_truK ((s_starts (s_varP 0) ((s_c rfl).p)).p)) (s_slS (s_varP 0) (s_part ((s_c rfl).p)) (s_noPart)) (s_var 0)) (g_name 1)) (s_seq (s_if (s_or (s_test (SE.p (s_op (r_eq false) (s_varP 1) ((s_c rfl).p)))) (s_test (SE.p (s_op r_gt ((s_cb b_len (sp_cons (s_varP 1) (sp_nil))).p) ((s_c rfl).p))))) (s_ret (s_c rfl)) (s_next)) (s_seq (s_if (s_not (s_truK ((s_cb b_all (sp_cons (((s_comp (SI.p (i_str (s_var 1))) (g_name 0) (s_yes) (s_op r_inS (s_varP 0) ((s_c rfl).p))).e).p) (sp_nil))).p))) (s_ret (s_c rfl)) (s_next)) (s_ret (s_op (r_eq false) ((s_cb b_strI (sp_cons ((s_cb b_intS (sp_cons (s_varP 0) (sp_nil))).p) (sp_nil))).p) (s_varP 0)))))⟩
theorem rd_writes_whole {K : PySem.W.Frag} {vs : List V} {H : Hp} {Q : VK} {E : XK} (h : sp_writes_whole K vs H Q E) : (pk_writes_whole K).1 { nx := fun _ H' => Q .non H', rt := Q } (start ["text", "figures"] vs) H := rd_of (pk_writes_whole K).2 rfl h
noncomputable abbrev spX_read_whole (K : PySem.W.Frag) : Sp := spX K 1 rX_read_whole
noncomputable def pkX_read_whole (K : PySem.W.Frag) (E : XK) : { t : TS // SX K E t Y_read_whole } := ⟨_, sx_stop (sx_if (s_or (s_not (s_truK ((s_cb b_isi (sp_cons (s_varP 0) (sp_cons (SE.p (s_c rfl)) sp_nil))).p))) (s_not (s_truK ((s_call (E := E0) (sa_cons (s_var 0) (sa_nil)) (len_cons (fun _ _ h => len_nil h))).p)))) (sx_raise (v := (.str (Str.ofString "a whole number is written in one to sixty figures, perhaps with a - ahead")))) (sx_next))⟩
theorem rdX_read_whole {K : PySem.W.Frag} {vs : List V} {H : Hp} {Q : VK} {E : XK} (h : spX_read_whole K vs H Q E) : (pkX_read_whole K E).1 { nx := fun _ H' => Q .non H', rt := Q } (start ["text"] vs) H := rdX_of (pkX_read_whole K E).2 rfl h
noncomputable abbrev sp__law_numbers (K : PySem.W.Frag) : Sp := spOf K 2 mo__law_numbers
noncomputable def pk__law_numbers (K : PySem.W.Frag) : { t : TS // SS K t X__law_numbers } := ⟨_, s_seq (s_asg (s_op r_div ((s_op r_mod ((s_op r_mul (s_varP 0) ((s_c rfl).p)).p) ((s_c rfl).p)).p) ((s_c rfl).p)) (g_name 2)) (s_seq (s_asg (s_op r_ix (((s_lst (sa_cons (s_c rfl) (sa_cons (s_op r_pow ((s_c rfl).p) ((s_c rfl).p)) (sa_nil)))).e).p) ((s_op r_mod (s_varP 2) ((s_c rfl).p)).p)) (g_name 3)) (s_seq (s_asg (s_call (E := E0) (sa_cons (s_var 0) (sa_cons (s_var 3) (sa_nil))) (len_cons (len_cons (fun _ _ h => len_nil h)))) (g_name 4)) (s_seq (s_asg (s_op r_add ((s_op r_add (s_varP 4) ((s_c rfl).p)).p) ((s_op r_mod (s_varP 1) ((s_op r_ix (((s_lst (sa_cons (s_c rfl) (sa_cons (s_op r_pow ((s_c rfl).p) ((s_c rfl).p)) (sa_nil)))).e).p) ((s_op r_mod ((s_op r_div (s_varP 2) ((s_c rfl).p)).p) ((s_c rfl).p)).p)).p)).p)) (g_name 5)) (s_seq (s_asg (s_op r_add ((s_op r_add (s_varP 5) ((s_c rfl).p)).p) ((s_op r_mod ((s_op r_div (s_varP 2) ((s_c rfl).p)).p) ((s_c rfl).p)).p)) (g_name 6)) (s_retT (SF.t (s_lst (sa_cons (s_call (E := E0) (sa_cons (s_var 1) (sa_cons (s_op r_ix (((s_lst (sa_cons (s_c rfl) (sa_cons (s_op r_pow ((s_c rfl).p) ((s_c rfl).p)) (sa_nil)))).e).p) ((s_op r_mod ((s_op r_div (s_varP 2) ((s_c rfl).p)).p) ((s_c rfl).p)).p)) (sa_nil))) (len_cons (len_cons (fun _ _ h => len_nil h)))) (sa_cons (s_var 4) (sa_cons (s_var 5) (sa_cons (s_var 6) (sa_cons (s_op r_add ((s_op r_add (s_varP 6) ((s_c rfl).p)).p) ((s_op r_mod ((s_op r_div (s_varP 2) ((s_c rfl).p)).p) ((s_c rfl).p)).p)) (sa_nil)))))))))))))⟩
theorem rd__law_numbers {K : PySem.W.Frag} {vs : List V} {H : Hp} {Q : VK} {E : XK} (h : sp__law_numbers K vs H Q E) : (pk__law_numbers K).1 { nx := fun _ H' => Q .non H', rt := Q } (start ["_law_cell", "_law_other", "_law_mixed", "_law_far", "_law_low", "_law_high", "_law_start"] vs) H := rd_of (pk__law_numbers K).2 rfl h
noncomputable abbrev sp_picture_of (K : PySem.W.Frag) : Sp := spOf K 1 mo_picture_of
noncomputable def pk_picture_of (K : PySem.W.Frag) : { t : TS // SS K t X_picture_of } := ⟨_, s_seq (s_asgF (s_lst (sa_nil))) (s_seq (s_for (i_seq ((s_cbF b_sorted (sp_cons (((s_comp (i_seqP (s_varP 0)) (g_tup (g_cons (g_name 0) (g_cons (g_name 1) (g_cons (g_name 2) (g_nil)))) (li_cons (li_cons (li_cons (li_nil))))) (s_test (SE.p (s_op r_le (s_varP 1) (s_varP 2)))) (s_tup (sa_cons (s_var 0) (sa_cons (s_var 1) (sa_cons (s_var 2) (sa_nil)))))).e).p) (sp_nil))).e)) (g_tup (g_cons (g_name 2) (g_cons (g_name 3) (g_cons (g_name 4) (g_nil)))) (li_cons (li_cons (li_cons (li_nil))))) (s_seq (s_if (s_or (s_not (s_truQ (s_varQ 1))) (s_test (SE.p (s_op (r_eq true) ((SQ.fl (s_opQ r_ix (s_opQ r_ix (s_varQ 1) (((s_un r_neg ((s_c rfl).p)).p).q)) (((s_c rfl).p).q))).p) (s_varP 2))))) (s_appP (p_var 1) (s_tupT (st_cons ((s_var 2).t) (st_cons (s_lstT (st_nil)) (st_nil))))) (s_next)) (s_appP (p_ix (p_ix (p_var 1) ((s_un r_neg ((s_c rfl).p)).p)) ((s_c rfl).p)) ((s_tup (sa_cons (s_var 3) (sa_cons (s_var 4) (sa_nil)))).t)))) (s_frz 1 (s_ret (s_cb b_tuple (sp_cons (((s_comp (i_seqP ((s_var 1).p)) (g_tup (g_cons (g_name 0) (g_cons (g_name 1) (g_nil))) (li_cons (li_cons (li_nil)))) (s_yes) (s_tup (sa_cons (s_var 0) (sa_cons (s_call (E := E0) (sa_cons (s_var 1) (sa_nil)) (len_cons (fun _ _ h => len_nil h))) (sa_nil))))).e).p) (sp_nil))))))⟩
theorem rd_picture_of {K : PySem.W.Frag} {vs : List V} {H : Hp} {Q : VK} {E : XK} (h : sp_picture_of K vs H Q E) : (pk_picture_of K).1 { nx := fun _ H' => Q .non H', rt := Q } (start ["stretches", "pairs_by_row", "y", "a", "b"] vs) H := rd_of (pk_picture_of K).2 rfl h
noncomputable abbrev sp_read_whole (K : PySem.W.Frag) : Sp := spOf K 1 mo_read_whole
noncomputable def pk_read_whole (K : PySem.W.Frag) : { t : TS // SS K t X_read_whole } := ⟨_, s_seq (s_if (s_or (s_not (s_truK ((s_cb b_isi (sp_cons (s_varP 0) (sp_cons (SE.p (s_c rfl)) sp_nil))).p))) (s_not (s_truK ((s_call (E := E0) (sa_cons (s_var 0) (sa_nil)) (len_cons (fun _ _ h => len_nil h))).p)))) (s_never (t := tNever)) (s_next)) (s_ret (s_cb b_intS (sp_cons (s_varP 0) (sp_nil))))⟩
theorem rd_read_whole {K : PySem.W.Frag} {vs : List V} {H : Hp} {Q : VK} {E : XK} (h : sp_read_whole K vs H Q E) : (pk_read_whole K).1 { nx := fun _ H' => Q .non H', rt := Q } (start ["text"] vs) H := rd_of (pk_read_whole K).2 rfl h
noncomputable abbrev sp_show_row (K : PySem.W.Frag) : Sp := spOf K 2 mo_show_row
noncomputable def pk_show_row (K : PySem.W.Frag) : { t : TS // SS K t X_show_row } := ⟨_, s_seq (s_asg (s_join ((s_c rfl).p) (((s_comp (i_seqP (s_varP 1)) (g_tup (g_cons (g_name 0) (g_cons (g_name 1) (g_nil))) (li_cons (li_cons (li_nil)))) (s_yes) (s_call (E := E0) (sa_cons (s_var 0) (sa_cons (s_var 1) (sa_nil))) (len_cons (len_cons (fun _ _ h => len_nil h))))).e).p)) (g_name 2)) (s_ret (s_js (SJ.cons ((s_fv (s_varP 0)).p) (SJ.cons ((s_c rfl).p) (SJ.cons ((s_fv (s_varP 2)).p) (SJ.nil)))) Str.empty))⟩
theorem rd_show_row {K : PySem.W.Frag} {vs : List V} {H : Hp} {Q : VK} {E : XK} (h : sp_show_row K vs H Q E) : (pk_show_row K).1 { nx := fun _ H' => Q .non H', rt := Q } (start ["y", "row", "stretches"] vs) H := rd_of (pk_show_row K).2 rfl h
noncomputable abbrev spX_read_stretch (K : PySem.W.Frag) : Sp := spX K 2 rX_read_stretch
noncomputable def pkX_read_stretch (K : PySem.W.Frag) (E : XK) : { t : TS // SX K E t Y_read_stretch } := ⟨_, sx_seq (sx_of (s_asg (s_split (s_varP 1) ((s_c rfl).p)) (g_name 2))) (sx_ret (sxe_tup (sxa_tail (s_var 0) (sxa_or (sxe_call (sa_cons (s_op r_ix (s_varP 2) ((s_c rfl).p)) (sa_nil)) (len_cons (fun _ _ h => len_nil h))) (s_call (E := E0) (sa_cons (s_op r_ix (s_varP 2) ((s_c rfl).p)) (sa_nil)) (len_cons (fun _ _ h => len_nil h))) (sxa_head (tr := tNil) (sxe_call (sa_cons (s_op r_ix (s_varP 2) ((s_un r_neg ((s_c rfl).p)).p)) (sa_nil)) (len_cons (fun _ _ h => len_nil h))))))))⟩
theorem rdX_read_stretch {K : PySem.W.Frag} {vs : List V} {H : Hp} {Q : VK} {E : XK} (h : spX_read_stretch K vs H Q E) : (pkX_read_stretch K E).1 { nx := fun _ H' => Q .non H', rt := Q } (start ["y", "text", "ends"] vs) H := rdX_of (pkX_read_stretch K E).2 rfl h
noncomputable abbrev sp_read_stretch (K : PySem.W.Frag) : Sp := spOf K 2 mo_read_stretch
noncomputable def pk_read_stretch (K : PySem.W.Frag) : { t : TS // SS K t X_read_stretch } := ⟨_, s_seq (s_asg (s_split (s_varP 1) ((s_c rfl).p)) (g_name 2)) (s_ret (s_tup (sa_cons (s_var 0) (sa_cons (s_call (E := E0) (sa_cons (s_op r_ix (s_varP 2) ((s_c rfl).p)) (sa_nil)) (len_cons (fun _ _ h => len_nil h))) (sa_cons (s_call (E := E0) (sa_cons (s_op r_ix (s_varP 2) ((s_un r_neg ((s_c rfl).p)).p)) (sa_nil)) (len_cons (fun _ _ h => len_nil h))) (sa_nil))))))⟩
theorem rd_read_stretch {K : PySem.W.Frag} {vs : List V} {H : Hp} {Q : VK} {E : XK} (h : sp_read_stretch K vs H Q E) : (pk_read_stretch K).1 { nx := fun _ H' => Q .non H', rt := Q } (start ["y", "text", "ends"] vs) H := rd_of (pk_read_stretch K).2 rfl h
noncomputable abbrev sp_show (K : PySem.W.Frag) : Sp := spOf K 1 mo_show
noncomputable def pk_show (K : PySem.W.Frag) : { t : TS // SS K t X_show } := ⟨_, s_seq (s_if (s_test (SE.p (s_op (r_eq false) (s_varP 0) ((s_tup (sa_nil)).p)))) (s_ret (s_c rfl)) (s_next)) (s_ret (s_join ((s_c rfl).p) (((s_comp (i_seqP (s_varP 0)) (g_tup (g_cons (g_name 0) (g_cons (g_name 1) (g_nil))) (li_cons (li_cons (li_nil)))) (s_yes) (s_call (E := E0) (sa_cons (s_var 0) (sa_cons (s_var 1) (sa_nil))) (len_cons (len_cons (fun _ _ h => len_nil h))))).e).p)))⟩
theorem rd_show {K : PySem.W.Frag} {vs : List V} {H : Hp} {Q : VK} {E : XK} (h : sp_show K vs H Q E) : (pk_show K).1 { nx := fun _ H' => Q .non H', rt := Q } (start ["picture"] vs) H := rd_of (pk_show K).2 rfl h
noncomputable abbrev spX_read_stretches (K : PySem.W.Frag) : Sp := spX K 1 rX_read_stretches
noncomputable def pkX_read_stretches (K : PySem.W.Frag) (E : XK) : { t : TS // SX K E t Y_read_stretches } := ⟨_, sx_seq (sx_of (s_asgF (s_lst (sa_nil)))) (sx_stop (sx_for (i_seq ((s_comp (i_seqP ((s_split (s_varP 0) ((s_c rfl).p)).p)) (g_name 0) (s_yes) (s_partn (s_varP 0) ((s_c rfl).p))).e)) (g_tup (g_cons (g_name 2) (g_cons (g_name 3) (g_cons (g_name 4) (g_nil)))) (li_cons (li_cons (li_cons (li_nil))))) (sx_seq (sx_or (sx_asg (g := gName 5) (sxe_call (sa_cons (s_var 2) (sa_nil)) (len_cons (fun _ _ h => len_nil h)))) (s_asg (s_call (E := E0) (sa_cons (s_var 2) (sa_nil)) (len_cons (fun _ _ h => len_nil h))) (g_name 5))) (sx_or (sx_drop (sxe_ext (i := 1) (r := rExtM) (tr := tNil) (sxe_compX (i_seqP ((s_split (s_varP 4) ((s_c rfl).p)).p)) (g_name 0) (s_yes) (sxe_call (sa_cons (s_var 1) (sa_cons (s_var 0) (sa_nil))) (len_cons (len_cons (fun _ _ h => len_nil h)))) (s_call (E := E0) (sa_cons (s_var 1) (sa_cons (s_var 0) (sa_nil))) (len_cons (len_cons (fun _ _ h => len_nil h))))))) (s_extP (p_var 1) ((s_comp (i_seqP ((s_split (s_varP 4) ((s_c rfl).p)).p)) (g_name 0) (s_yes) (s_call (E := E0) (sa_cons (s_var 1) (sa_cons (s_var 0) (sa_nil))) (len_cons (len_cons (fun _ _ h => len_nil h))))).e))))))⟩
theorem rdX_read_stretches {K : PySem.W.Frag} {vs : List V} {H : Hp} {Q : VK} {E : XK} (h : spX_read_stretches K vs H Q E) : (pkX_read_stretches K E).1 { nx := fun _ H' => Q .non H', rt := Q } (start ["text", "stretches", "head", "colon", "tail", "y"] vs) H := rdX_of (pkX_read_stretches K E).2 rfl h
noncomputable abbrev sp_read_stretches (K : PySem.W.Frag) : Sp := spOf K 1 mo_read_stretches
noncomputable def pk_read_stretches (K : PySem.W.Frag) : { t : TS // SS K t X_read_stretches } := ⟨_, s_seq (s_asgF (s_lst (sa_nil))) (s_seq (s_for (i_seq ((s_comp (i_seqP ((s_split (s_varP 0) ((s_c rfl).p)).p)) (g_name 0) (s_yes) (s_partn (s_varP 0) ((s_c rfl).p))).e)) (g_tup (g_cons (g_name 2) (g_cons (g_name 3) (g_cons (g_name 4) (g_nil)))) (li_cons (li_cons (li_cons (li_nil))))) (s_seq (s_asg (s_call (E := E0) (sa_cons (s_var 2) (sa_nil)) (len_cons (fun _ _ h => len_nil h))) (g_name 5)) (s_extP (p_var 1) ((s_comp (i_seqP ((s_split (s_varP 4) ((s_c rfl).p)).p)) (g_name 0) (s_yes) (s_call (E := E0) (sa_cons (s_var 1) (sa_cons (s_var 0) (sa_nil))) (len_cons (len_cons (fun _ _ h => len_nil h))))).e)))) (s_retV 1))⟩
theorem rd_read_stretches {K : PySem.W.Frag} {vs : List V} {H : Hp} {Q : VK} {E : XK} (h : sp_read_stretches K vs H Q E) : (pk_read_stretches K).1 { nx := fun _ H' => Q .non H', rt := Q } (start ["text", "stretches", "head", "colon", "tail", "y"] vs) H := rd_of (pk_read_stretches K).2 rfl h
noncomputable abbrev spX_read (K : PySem.W.Frag) : Sp := spX K 1 rX_read
noncomputable def pkX_read (K : PySem.W.Frag) (E : XK) : { t : TS // SX K E t Y_read } := ⟨_, sx_seq (sx_if (s_not (s_truK ((s_cb b_isi (sp_cons (s_varP 0) (sp_cons (SE.p (s_c rfl)) sp_nil))).p))) (sx_raise (v := (.str (Str.ofString "a picture is read from a text alone")))) (sx_next)) (sx_seq (sx_of (s_if (s_test (SE.p (s_op (r_eq false) (s_varP 0) ((s_c rfl).p)))) (s_ret (s_tup (sa_nil))) (s_next))) (sx_seq (sx_or (sx_asg (g := gName 1) (sxe_arg (sp := sp_picture_of K) (dvs := []) (E' := E0) (tr := tNil) (sxe_call (sa_cons (s_var 0) (sa_nil)) (len_cons (fun _ _ h => len_nil h))))) (s_asg (s_call (E := E0) (sa_cons (s_call (E := E0) (sa_cons (s_var 0) (sa_nil)) (len_cons (fun _ _ h => len_nil h))) (sa_nil)) (len_cons (fun _ _ h => len_nil h))) (g_name 1))) (sx_stop (sx_if (s_test (SE.p (s_op (r_eq true) ((s_call (E := E0) (sa_cons (s_var 1) (sa_nil)) (len_cons (fun _ _ h => len_nil h))).p) (s_varP 0)))) (sx_raise (v := (.str (Str.ofString "the text is not the text of a picture")))) (sx_next)))))⟩
theorem rdX_read {K : PySem.W.Frag} {vs : List V} {H : Hp} {Q : VK} {E : XK} (h : spX_read K vs H Q E) : (pkX_read K E).1 { nx := fun _ H' => Q .non H', rt := Q } (start ["text", "picture"] vs) H := rdX_of (pkX_read K E).2 rfl h
noncomputable abbrev sp_read (K : PySem.W.Frag) : Sp := spOf K 1 mo_read
noncomputable def pk_read (K : PySem.W.Frag) : { t : TS // SS K t X_read } := ⟨_, s_seq (s_if (s_not (s_truK ((s_cb b_isi (sp_cons (s_varP 0) (sp_cons (SE.p (s_c rfl)) sp_nil))).p))) (s_never (t := tNever)) (s_next)) (s_seq (s_if (s_test (SE.p (s_op (r_eq false) (s_varP 0) ((s_c rfl).p)))) (s_ret (s_tup (sa_nil))) (s_next)) (s_seq (s_asg (s_call (E := E0) (sa_cons (s_call (E := E0) (sa_cons (s_var 0) (sa_nil)) (len_cons (fun _ _ h => len_nil h))) (sa_nil)) (len_cons (fun _ _ h => len_nil h))) (g_name 1)) (s_seq (s_if (s_test (SE.p (s_op (r_eq true) ((s_call (E := E0) (sa_cons (s_var 1) (sa_nil)) (len_cons (fun _ _ h => len_nil h))).p) (s_varP 0)))) (s_never (t := tNever)) (s_next)) (s_ret (s_var 1)))))⟩
theorem rd_read {K : PySem.W.Frag} {vs : List V} {H : Hp} {Q : VK} {E : XK} (h : sp_read K vs H Q E) : (pk_read K).1 { nx := fun _ H' => Q .non H', rt := Q } (start ["text", "picture"] vs) H := rd_of (pk_read K).2 rfl h
noncomputable abbrev sp__law_refused (K : PySem.W.Frag) : Sp := spOf K 1 mo__law_refused
noncomputable def pk__law_refused (K : PySem.W.Frag) : { t : TS // SS K t X__law_refused } := ⟨_, s_seq (s_asg (s_c rfl) (g_name 1)) (s_seq (s_try (L := xNs) (i := 2) (l := [(1, [ax_ValueError, ax_NoText, ax_NoRow, ax_NoForm, ax_NoName, ax_NoBack, ax_TooGreat, ax_TooMany])]) (fun E => sx_drop (sxe_call (sa_cons (s_var 0) (sa_nil)) (len_cons (fun _ _ h => len_nil h))))) (s_ret (s_op (r_eq false) (s_varP 1) (((s_lst (sa_cons (s_c rfl) (sa_cons (s_c rfl) (sa_cons (s_c rfl) (sa_cons (s_c rfl) (sa_cons (s_c rfl) (sa_cons (s_c rfl) (sa_cons (s_c rfl) (sa_cons (s_c rfl) (sa_nil)))))))))).e).p))))⟩
theorem rd__law_refused {K : PySem.W.Frag} {vs : List V} {H : Hp} {Q : VK} {E : XK} (h : sp__law_refused K vs H Q E) : (pk__law_refused K).1 { nx := fun _ H' => Q .non H', rt := Q } (start ["_law_thing", "_law_caught", "e"] vs) H := rd_of (pk__law_refused K).2 rfl h
noncomputable abbrev sp__law_one (K : PySem.W.Frag) : Sp := spOf K 2 mo__law_one
noncomputable def pk__law_one (K : PySem.W.Frag) : { t : TS // SS K t X__law_one } := ⟨_, s_seq (s_asg (s_call (E := E0) (sa_cons (s_var 0) (sa_cons (s_var 1) (sa_nil))) (len_cons (len_cons (fun _ _ h => len_nil h)))) (g_lst (g_cons (g_name 2) (g_cons (g_name 3) (g_cons (g_name 4) (g_cons (g_name 5) (g_cons (g_name 6) (g_nil)))))) (li_cons (li_cons (li_cons (li_cons (li_cons (li_nil)))))))) (s_seq (s_asg (s_op r_add ((s_op r_add ((s_op r_add ((s_op r_add ((s_cb b_strI (sp_cons (s_varP 3) (sp_nil))).p) ((s_c rfl).p)).p) ((s_cb b_strI (sp_cons (s_varP 4) (sp_nil))).p)).p) ((s_c rfl).p)).p) ((s_cb b_strI (sp_cons (s_varP 5) (sp_nil))).p)) (g_name 7)) (s_seq (s_asg (s_op r_add ((s_op r_add ((s_op r_add ((s_op r_add ((s_op r_add ((s_op r_add ((s_cb b_strI (sp_cons ((s_op r_add (s_varP 2) ((s_c rfl).p)).p) (sp_nil))).p) ((s_c rfl).p)).p) ((s_cb b_strI (sp_cons (s_varP 3) (sp_nil))).p)).p) ((s_c rfl).p)).p) ((s_cb b_strI (sp_cons (s_varP 4) (sp_nil))).p)).p) ((s_c rfl).p)).p) ((s_cb b_strI (sp_cons (s_varP 6) (sp_nil))).p)) (g_name 8)) (s_seq (s_asg (s_tup (sa_cons (s_tup (sa_cons (s_var 2) (sa_cons (s_tup (sa_cons (s_tup (sa_cons (s_var 3) (sa_cons (s_var 4) (sa_nil)))) (sa_cons (s_tup (sa_cons (s_var 5) (sa_cons (s_var 5) (sa_nil)))) (sa_nil)))) (sa_nil)))) (sa_nil))) (g_name 9)) (s_seq (s_asg (s_op r_add (s_varP 9) ((s_tup (sa_cons (s_tup (sa_cons (s_op r_add (s_varP 2) ((s_c rfl).p)) (sa_cons (s_tup (sa_cons (s_tup (sa_cons (s_var 3) (sa_cons (s_var 4) (sa_nil)))) (sa_cons (s_tup (sa_cons (s_var 6) (sa_cons (s_var 6) (sa_nil)))) (sa_nil)))) (sa_nil)))) (sa_nil))).p)) (g_name 10)) (s_seq (s_asg (s_op r_add ((s_call (E := E0) (sa_cons (s_cb b_strI (sp_cons (s_varP 2) (sp_nil))) (sa_cons (s_var 7) (sa_cons (s_var 8) (sa_nil)))) (len_cons (len_cons (len_cons (fun _ _ h => len_nil h))))).p) ((s_call (E := E0) (sa_cons (s_var 2) (sa_cons (s_var 3) (sa_cons (s_var 4) (sa_cons (s_var 5) (sa_cons (s_var 6) (sa_cons (s_op r_add ((s_op r_add ((s_cb b_strI (sp_cons (s_varP 2) (sp_nil))).p) ((s_c rfl).p)).p) (s_varP 7)) (sa_nil))))))) (len_cons (len_cons (len_cons (len_cons (len_cons (len_cons (fun _ _ h => len_nil h)))))))).p)) (g_name 11)) (s_seq (s_asg (s_op r_add (s_varP 11) ((s_call (E := E0) (sa_cons (s_var 7) (sa_cons (s_var 9) (sa_nil))) (len_cons (len_cons (fun _ _ h => len_nil h)))).p)) (g_name 11)) (s_seq (s_asg (s_op r_add ((s_op r_add ((s_cb b_strI (sp_cons (s_varP 2) (sp_nil))).p) ((s_c rfl).p)).p) (s_varP 7)) (g_name 12)) (s_seq (s_if (s_or (s_test (SE.p (s_op (r_eq true) ((s_call (E := E0) (sa_cons (s_var 12) (sa_nil)) (len_cons (fun _ _ h => len_nil h))).p) (s_varP 9)))) (s_not (s_truK ((s_call (E := E0) (sa_cons (s_op r_ix (s_varP 11) ((s_op r_mod ((s_op r_div ((s_op r_mod ((s_op r_add ((s_op r_mul (s_varP 0) ((s_c rfl).p)).p) (s_varP 1)).p) ((s_c rfl).p)).p) ((s_c rfl).p)).p) ((s_cb b_len (sp_cons (s_varP 11) (sp_nil))).p)).p)) (sa_nil)) (len_cons (fun _ _ h => len_nil h))).p)))) (s_ret (s_c rfl)) (s_next)) (s_ret (s_andV ((s_op (r_eq false) ((s_call (E := E0) (sa_cons (s_op r_add ((s_op r_add (s_varP 12) ((s_c rfl).p)).p) (s_varP 8)) (sa_nil)) (len_cons (fun _ _ h => len_nil h))).p) (s_varP 10)).p) (s_op (r_eq false) ((s_call (E := E0) (sa_cons (s_var 12) (sa_nil)) (len_cons (fun _ _ h => len_nil h))).p) (s_varP 9))))))))))))⟩
theorem rd__law_one {K : PySem.W.Frag} {vs : List V} {H : Hp} {Q : VK} {E : XK} (h : sp__law_one K vs H Q E) : (pk__law_one K).1 { nx := fun _ H' => Q .non H', rt := Q } (start ["_law_cell", "_law_other", "_law_y", "_law_a", "_law_b", "_law_c", "_law_d", "_law_line", "_law_more", "_law_picture", "_law_greater", "_law_bad", "_law_text"] vs) H := rd_of (pk__law_one K).2 rfl h
noncomputable abbrev sp_law (K : PySem.W.Frag) : Sp := spOf K 1 mo_law
noncomputable def pk_law (K : PySem.W.Frag) : { t : TS // SS K t X_law } := ⟨_, s_seq (s_for (i_rng1 ((s_cb b_min2 (sp_cons ((s_cb b_len (sp_cons (s_varP 0) (sp_nil))).p) (sp_cons ((s_c rfl).p) (sp_nil)))).p)) (g_name 1) (s_if (s_not (s_truK ((s_call (E := E0) (sa_cons (s_op r_ix (s_varP 0) (s_varP 1)) (sa_cons (s_op r_ix (s_varP 0) ((s_op r_mod ((s_op r_add (s_varP 1) ((s_c rfl).p)).p) ((s_cb b_len (sp_cons (s_varP 0) (sp_nil))).p)).p)) (sa_nil))) (len_cons (len_cons (fun _ _ h => len_nil h)))).p))) (s_ret (s_c rfl)) (s_next))) (s_ret (s_c rfl))⟩
theorem rd_law {K : PySem.W.Frag} {vs : List V} {H : Hp} {Q : VK} {E : XK} (h : sp_law K vs H Q E) : (pk_law K).1 { nx := fun _ H' => Q .non H', rt := Q } (start ["_law_script", "_law_k"] vs) H := rd_of (pk_law K).2 rfl h
end P
namespace P
open PySem L2 M Rw
noncomputable def keyP (p : Int × Int) : List Int := [p.1, p.2]
theorem keys_prs : ∀ r : R, keys (r.map prD) = some (r.map keyP)
  | [] => rfl
  | p :: r => by
    rw [List.map_cons, keys, keys_prs r]
    rfl
theorem ints_prs : ∀ {r : R}, r ≠ [] → intsOf (r.map prD) = none
  | [], h => absurd rfl h
  | p :: r, _ => rfl
noncomputable def ofKey : List Int → Int × Int
  | [a, b] => (a, b)
  | _ => (0, 0)
noncomputable def sortP (ps : R) : R := (sortK (ps.map keyP)).map ofKey
theorem sortP_keys (ps : R) : (sortP ps).map keyP = sortK (ps.map keyP) := by
  unfold sortP
  rw [List.map_map]
  have h : ∀ k ∈ sortK (ps.map keyP), (keyP ∘ ofKey) k = k := fun k hk => by
    have := (sortK_perm _).mem_iff.mp hk
    obtain ⟨p, _, rfl⟩ := List.mem_map.mp this
    rfl
  rw [List.map_congr_left h, List.map_id']
theorem sortP_perm (ps : R) : (sortP ps).Perm ps := by
  have h := (sortK_perm (ps.map keyP)).map ofKey
  rw [List.map_map] at h
  have e : (ofKey ∘ keyP) = id := rfl
  rw [e, List.map_id] at h
  exact h
theorem sortP_pw (ps : R) : (sortP ps).Pairwise fun p q => p.1 ≤ q.1 := by
  have h := sortK_pw (ps.map keyP)
  rw [← sortP_keys, List.pairwise_map] at h
  refine h.imp fun {p q} e => ?_
  have e' : (if q.1 = p.1 then HT.lexLt [q.2] [p.2] else decide (q.1 < p.1)) = false := e
  by_cases hq : q.1 = p.1
  · omega
  · rw [if_neg hq] at e'
    have := of_decide_eq_false e'
    omega
theorem bSorted_prs (ps : R) (h : ps.length < 64) : bSorted [lstD ps] = some ((sortP ps).map prD) := by
  show (if (ps.map prD).length < 64 then _ else _) = _
  rw [if_pos (by rw [List.length_map]; exact h)]
  by_cases e : ps = []
  · subst e
    have e0 : sortP [] = [] := List.length_eq_zero_iff.mp (by rw [(sortP_perm []).length_eq]; rfl)
    have e1 : sortI [] = [] := List.length_eq_zero_iff.mp (by rw [(sortI_perm []).length_eq]; rfl)
    show some ((sortI []).map D.int) = _
    rw [e0, e1]
    rfl
  · rw [ints_prs e]
    dsimp only
    rw [keys_prs]
    have : (sortP ps).map prD = (sortK (ps.map keyP)).map tupI := by
      rw [← sortP_keys, List.map_map]
      rfl
    rw [this]
    rfl
noncomputable def good (p : Int × Int) : Bool := decide (p.1 ≤ p.2)
noncomputable def rowOf (ps : R) : R := merge (sortP (ps.filter good))
theorem isRow_rowOf (ps : R) : IsRow ps (rowOf ps) := by
  refine merge_ok ?_ (sortP_pw _) fun x => ?_
  · intro p hp
    have := (sortP_perm _).mem_iff.mp hp
    simpa [good] using (List.mem_filter.mp this).2
  · rw [mem_perm (sortP_perm _)]
    exact mem_filter ps x
theorem step_len (acc : R) (p : Int × Int) : (step acc p).length ≤ acc.length + 1 := by
  rcases List.eq_nil_or_concat acc with rfl | ⟨t, q, rfl⟩
  · simp [Rw.step]
  · rw [List.concat_eq_append, step_snoc]
    split <;> simp
theorem merge_len : ∀ (l acc : R), (l.foldl step acc).length ≤ acc.length + l.length
  | [], acc => by simp
  | p :: l, acc => by
    have h1 := merge_len l (step acc p)
    have h2 := step_len acc p
    rw [List.foldl_cons, List.length_cons]
    omega
theorem lim_of {n : Nat} (h : n ≤ 100000) : n ≤ LIM := Nat.le_trans h (by rw [lim_is]; decide)
theorem lim_of' {n : Nat} (h : n ≤ 100000) : n < LIM := Nat.lt_of_le_of_lt h (by rw [lim_is]; decide)
theorem tup_pr (a b : Int) : D.tup [.int a, .int b] = prD (a, b) := rfl
theorem filter_fm : ∀ ps : R, ps.filterMap (fun p => if p.1 ≤ p.2 then some (prD p) else none) = (ps.filter good).map prD
  | [] => rfl
  | p :: t => by
    rw [List.filterMap_cons, List.filter_cons, filter_fm t]
    by_cases h : p.1 ≤ p.2
    · simp [good, h]
    · simp [good, h]
theorem comp_good (ps : R) : compF (xgTup (xgCons (xgName 0) (xgCons (xgName 1) xgNil))) (xB (xOp dLe (xVarP 0) (xVarP 1))) (xTup (xCons (xVar 0) (xCons (xVar 1) xNil))) [.un, .un] (ps.map prD) = some ((ps.filter good).map prD) := by
  rw [compF_fm prD (fun p => if p.1 ≤ p.2 then some (prD p) else none) ps, filter_fm]
  intro p _
  by_cases h : p.1 ≤ p.2 <;> simp [oneF, h]
theorem merge_snoc (pre : R) (p : Int × Int) : merge (pre ++ [p]) = step (merge pre) p := by
  unfold merge
  rw [List.foldl_append]
  rfl
theorem merge_le (pre : R) : (merge pre).length ≤ pre.length := by
  have := merge_len pre []
  unfold merge
  simpa using this
theorem mn (a b : Int) : (if b < a then b else a) = min a b := by split <;> omega
theorem intsD_is (n : Nat) : intsD 0 n = (List.range n).map fun k : Nat => D.int (k : Int) := by
  apply List.ext_getElem?
  intro i
  cases q : (intsD 0 n)[i]? with
  | none =>
    have := List.getElem?_eq_none_iff.mp q
    rw [intsD_len] at this
    rw [List.getElem?_eq_none (by rw [List.length_map, List.length_range]; exact this)]
  | some d =>
    obtain ⟨h1, rfl⟩ := intsD_get n 0 i d q
    rw [List.getElem?_map, List.getElem?_range h1]
    simp
theorem run_seq {m n : XS} {ρ ρ' : M.Env} (h : m ρ = some (.nx ρ')) : xSeq m n ρ = n ρ' := by unfold xSeq; rw [h]
theorem fn_rt {n : Nat} {x : XS} {ds : List D} {d : D} (h : x (ds.map .sh ++ List.replicate (n - ds.length) .un) = some (.rt d)) : (fnO n x ds).map O.d = some d := by unfold fnO; rw [h]; simp
end P
namespace P
open PySem L2 M Rw
theorem row_of_turn (s0 : Sl) (acc : R) (a b : Int) (h : acc.length ≤ 64) : B_row_of_0 [s0, owl (acc.map prD), .sh (.int a), .sh (.int b)] = some (.nx [s0, owl ((step acc (a, b)).map prD), .sh (.int a), .sh (.int b)]) := by
  rcases List.eq_nil_or_concat acc with rfl | ⟨t, q, rfl⟩
  · simp [B_row_of_0, Rw.step, prD]
  · rw [List.concat_eq_append] at *
    rw [step_snoc]
    have hl : t.length + 1 ≤ 64 := by simpa using h
    have hlim : t.length + 1 < LIM := lim_of' (by omega)
    have at1 : atI (t.map prD ++ [prD q]) (-1) = some (prD q) := atI_neg1 _ _
    by_cases hc : a ≤ q.2 + 1
    · simp [B_row_of_0, at1, hc, ixN_neg1, tup_pr]
    · simp [B_row_of_0, at1, hc, hlim, tup_pr]
theorem m_row_of_is (ps : R) (h : ps.length < 64) : m_row_of [lstD ps] = some (rowD (rowOf ps)) := by
  have hf := List.length_filter_le good ps
  have hs := (sortP_perm (ps.filter good)).length_eq
  have key : ∃ ρ', loopF (xgTup (xgCons (xgName 2) (xgCons (xgName 3) xgNil))) B_row_of_0 ((sortP (ps.filter good)).map prD) [.sh (lstD ps), .ow (.lst []), .un, .un] = some (.nx ρ') ∧ ∃ va vb, ρ' = [.sh (lstD ps), owl ((rowOf ps).map prD), va, vb] := by
    refine loopF_inv prD (fun pre ρ => ∃ va vb, ρ = [.sh (lstD ps), owl ((merge pre).map prD), va, vb]) _ _ ⟨_, _, rfl⟩ ?_
    rintro pre p post _ e ⟨va, vb, rfl⟩
    have hp : pre.length ≤ 64 := by
      have := congrArg List.length e
      rw [List.length_append] at this
      omega
    refine ⟨_, _, rfl, .inl (row_of_turn _ (merge pre) p.1 p.2 (by have := merge_le pre; omega)), .sh (.int p.1), .sh (.int p.2), by rw [merge_snoc]⟩
  obtain ⟨ρ', k1, va, vb, rfl⟩ := key
  have hc := comp_good ps
  have hb := bSorted_prs (ps.filter good) (by omega)
  have hl : ps.length ≤ LIM := lim_of (by omega)
  simp [m_row_of, mo_row_of, fnO, X_row_of, hl, hc, hb, k1]
end P
namespace P
open PySem L2 M Rw
noncomputable abbrev Tri := Int × Int × Int
noncomputable abbrev triD (t : Tri) : D := .tup [.int t.1, .int t.2.1, .int t.2.2]
noncomputable abbrev Pic := List (Int × R)
noncomputable abbrev pyD (q : Int × R) : D := .tup [.int q.1, rowD q.2]
noncomputable abbrev picD (p : Pic) : D := .tup (p.map pyD)
noncomputable def TMem (ts : List Tri) (x y : Int) : Prop := ∃ t ∈ ts, t.1 = y ∧ t.2.1 ≤ x ∧ x ≤ t.2.2
noncomputable def PMem (p : Pic) (x y : Int) : Prop := ∃ q ∈ p, q.1 = y ∧ Mem q.2 x
noncomputable def PCanon (p : Pic) : Prop := (∀ q ∈ p, Canon q.2 ∧ q.2 ≠ []) ∧ p.Pairwise fun a b => a.1 < b.1
theorem pmem_nil (x y : Int) : ¬ PMem [] x y := by rintro ⟨_, h, _⟩; cases h
theorem pmem_cons (q : Int × R) (p : Pic) (x y : Int) : PMem (q :: p) x y ↔ (q.1 = y ∧ Mem q.2 x) ∨ PMem p x y := by
  constructor
  · rintro ⟨s, h, e⟩
    rcases List.mem_cons.mp h with rfl | h
    · exact .inl e
    · exact .inr ⟨s, h, e⟩
  · rintro (e | ⟨s, h, e⟩)
    · exact ⟨q, List.mem_cons_self, e⟩
    · exact ⟨s, List.mem_cons_of_mem _ h, e⟩
theorem pmem_append (p q : Pic) (x y : Int) : PMem (p ++ q) x y ↔ PMem p x y ∨ PMem q x y := by
  constructor
  · rintro ⟨s, h, e⟩
    rcases List.mem_append.mp h with h | h
    · exact .inl ⟨s, h, e⟩
    · exact .inr ⟨s, h, e⟩
  · rintro (⟨s, h, e⟩ | ⟨s, h, e⟩)
    · exact ⟨s, List.mem_append_left _ h, e⟩
    · exact ⟨s, List.mem_append_right _ h, e⟩
theorem tmem_cons (t : Tri) (ts : List Tri) (x y : Int) : TMem (t :: ts) x y ↔ (t.1 = y ∧ t.2.1 ≤ x ∧ x ≤ t.2.2) ∨ TMem ts x y := by
  constructor
  · rintro ⟨s, h, e⟩
    rcases List.mem_cons.mp h with rfl | h
    · exact .inl e
    · exact .inr ⟨s, h, e⟩
  · rintro (e | ⟨s, h, e⟩)
    · exact ⟨t, List.mem_cons_self, e⟩
    · exact ⟨s, List.mem_cons_of_mem _ h, e⟩
theorem tmem_append (a b : List Tri) (x y : Int) : TMem (a ++ b) x y ↔ TMem a x y ∨ TMem b x y := by
  constructor
  · rintro ⟨s, h, e⟩
    rcases List.mem_append.mp h with h | h
    · exact .inl ⟨s, h, e⟩
    · exact .inr ⟨s, h, e⟩
  · rintro (⟨s, h, e⟩ | ⟨s, h, e⟩)
    · exact ⟨s, List.mem_append_left _ h, e⟩
    · exact ⟨s, List.mem_append_right _ h, e⟩
theorem tmem_perm {a b : List Tri} (h : a.Perm b) (x y : Int) : TMem a x y ↔ TMem b x y :=
  ⟨fun ⟨q, m, e⟩ => ⟨q, h.mem_iff.mp m, e⟩, fun ⟨q, m, e⟩ => ⟨q, h.mem_iff.mpr m, e⟩⟩
theorem pcanon_cons {q : Int × R} {p : Pic} : PCanon (q :: p) ↔ (Canon q.2 ∧ q.2 ≠ []) ∧ (∀ s ∈ p, q.1 < s.1) ∧ PCanon p := by
  constructor
  · rintro ⟨h1, h2⟩
    have h3 := List.pairwise_cons.mp h2
    exact ⟨h1 q List.mem_cons_self, h3.1, fun s hs => h1 s (List.mem_cons_of_mem _ hs), h3.2⟩
  · rintro ⟨h1, h2, h3, h4⟩
    refine ⟨fun s hs => ?_, List.pairwise_cons.mpr ⟨h2, h4⟩⟩
    rcases List.mem_cons.mp hs with rfl | hs
    · exact h1
    · exact h3 s hs
theorem canon_first {r : R} (c : Canon r) (h : r ≠ []) : ∃ x, Mem r x := by
  cases r with
  | nil => exact absurd rfl h
  | cons p r => exact ⟨p.1, (mem_cons ..).mpr (.inl ⟨Int.le_refl _, (canon_cons.mp c).1⟩)⟩
theorem punique : ∀ {p q : Pic}, PCanon p → PCanon q → (∀ x y, PMem p x y ↔ PMem q x y) → p = q
  | [], [], _, _, _ => rfl
  | [], b :: q, _, cq, h => by
    obtain ⟨⟨c1, c2⟩, _⟩ := pcanon_cons.mp cq
    obtain ⟨x, hx⟩ := canon_first c1 c2
    exact (pmem_nil _ _ ((h x b.1).mpr ((pmem_cons ..).mpr (.inl ⟨rfl, hx⟩)))).elim
  | a :: p, [], cp, _, h => by
    obtain ⟨⟨c1, c2⟩, _⟩ := pcanon_cons.mp cp
    obtain ⟨x, hx⟩ := canon_first c1 c2
    exact (pmem_nil _ _ ((h x a.1).mp ((pmem_cons ..).mpr (.inl ⟨rfl, hx⟩)))).elim
  | a :: p, b :: q, cp, cq, h => by
    obtain ⟨⟨ca, na⟩, la, cp'⟩ := pcanon_cons.mp cp
    obtain ⟨⟨cb, nb⟩, lb, cq'⟩ := pcanon_cons.mp cq
    obtain ⟨xa, ha⟩ := canon_first ca na
    obtain ⟨xb, hb⟩ := canon_first cb nb
    have ey : a.1 = b.1 := by
      have h1 : b.1 ≤ a.1 := by
        rcases (pmem_cons ..).mp ((h xa a.1).mp ((pmem_cons ..).mpr (.inl ⟨rfl, ha⟩))) with ⟨e, _⟩ | ⟨s, hs, e, _⟩
        · omega
        · have := lb s hs; omega
      have h2 : a.1 ≤ b.1 := by
        rcases (pmem_cons ..).mp ((h xb b.1).mpr ((pmem_cons ..).mpr (.inl ⟨rfl, hb⟩))) with ⟨e, _⟩ | ⟨s, hs, e, _⟩
        · omega
        · have := la s hs; omega
      omega
    have er : a.2 = b.2 := unique ca cb fun x => by
      have hx := h x a.1
      rw [pmem_cons, pmem_cons] at hx
      have n1 : ¬ PMem p x a.1 := by rintro ⟨s, hs, e, _⟩; have := la s hs; omega
      have n2 : ¬ PMem q x a.1 := by rintro ⟨s, hs, e, _⟩; have := lb s hs; omega
      constructor
      · intro hm
        rcases hx.mp (.inl ⟨rfl, hm⟩) with z | z
        · exact z.2
        · exact absurd z n2
      · intro hm
        rcases hx.mpr (.inl ⟨ey.symm, hm⟩) with z | z
        · exact z.2
        · exact absurd z n1
    have eab : a = b := by
      obtain ⟨a1, a2⟩ := a
      obtain ⟨b1, b2⟩ := b
      simp only at ey er
      rw [ey, er]
    subst eab
    have ih : p = q := punique cp' cq' fun x y => by
      have hx := h x y
      rw [pmem_cons, pmem_cons] at hx
      constructor
      · intro hm
        rcases hx.mp (.inr hm) with z | z
        · obtain ⟨s, hs, e, _⟩ := hm; have := la s hs; omega
        · exact z
      · intro hm
        rcases hx.mpr (.inr hm) with z | z
        · obtain ⟨s, hs, e, _⟩ := hm; have := lb s hs; omega
        · exact z
    rw [ih]
noncomputable def keyT (t : Tri) : List Int := [t.1, t.2.1, t.2.2]
noncomputable def ofKeyT : List Int → Tri
  | [a, b, c] => (a, b, c)
  | _ => (0, 0, 0)
theorem keys_tris : ∀ r : List Tri, keys (r.map triD) = some (r.map keyT)
  | [] => rfl
  | p :: r => by rw [List.map_cons, keys, keys_tris r]; rfl
theorem ints_tris : ∀ {r : List Tri}, r ≠ [] → intsOf (r.map triD) = none
  | [], h => absurd rfl h
  | _ :: _, _ => rfl
noncomputable def sortT (ts : List Tri) : List Tri := (sortK (ts.map keyT)).map ofKeyT
theorem sortT_keys (ts : List Tri) : (sortT ts).map keyT = sortK (ts.map keyT) := by
  unfold sortT
  rw [List.map_map]
  have h : ∀ k ∈ sortK (ts.map keyT), (keyT ∘ ofKeyT) k = k := fun k hk => by
    have := (sortK_perm _).mem_iff.mp hk
    obtain ⟨p, _, rfl⟩ := List.mem_map.mp this
    rfl
  rw [List.map_congr_left h, List.map_id']
theorem sortT_perm (ts : List Tri) : (sortT ts).Perm ts := by
  have h := (sortK_perm (ts.map keyT)).map ofKeyT
  rw [List.map_map] at h
  have e : (ofKeyT ∘ keyT) = id := rfl
  rw [e, List.map_id] at h
  exact h
theorem sortT_pw (ts : List Tri) : (sortT ts).Pairwise fun p q => p.1 ≤ q.1 := by
  have h := sortK_pw (ts.map keyT)
  rw [← sortT_keys, List.pairwise_map] at h
  refine h.imp fun {p q} e => ?_
  have e' : (if q.1 = p.1 then HT.lexLt [q.2.1, q.2.2] [p.2.1, p.2.2] else decide (q.1 < p.1)) = false := e
  by_cases hq : q.1 = p.1
  · omega
  · rw [if_neg hq] at e'
    have := of_decide_eq_false e'
    omega
theorem bSorted_tris (ts : List Tri) (h : ts.length < 64) : bSorted [.lst (ts.map triD)] = some ((sortT ts).map triD) := by
  show (if (ts.map triD).length < 64 then _ else _) = _
  rw [if_pos (by rw [List.length_map]; exact h)]
  by_cases e : ts = []
  · subst e
    have e0 : sortT [] = [] := List.length_eq_zero_iff.mp (by rw [(sortT_perm []).length_eq]; rfl)
    have e1 : sortI [] = [] := List.length_eq_zero_iff.mp (by rw [(sortI_perm []).length_eq]; rfl)
    show some ((sortI []).map D.int) = _
    rw [e0, e1]
    rfl
  · rw [ints_tris e]
    dsimp only
    rw [keys_tris]
    have : (sortT ts).map triD = (sortK (ts.map keyT)).map tupI := by
      rw [← sortT_keys, List.map_map]
      rfl
    rw [this]
    rfl
noncomputable def goodT (t : Tri) : Bool := decide (t.2.1 ≤ t.2.2)
theorem tmem_filter (ts : List Tri) (x y : Int) : TMem (ts.filter goodT) x y ↔ TMem ts x y := by
  constructor
  · rintro ⟨q, m, e⟩
    exact ⟨q, (List.mem_filter.mp m).1, e⟩
  · rintro ⟨q, m, e⟩
    exact ⟨q, List.mem_filter.mpr ⟨m, by simp [goodT]; omega⟩, e⟩
theorem filter_fmT : ∀ ps : List Tri, ps.filterMap (fun p => if p.2.1 ≤ p.2.2 then some (triD p) else none) = (ps.filter goodT).map triD
  | [] => rfl
  | p :: t => by
    rw [List.filterMap_cons, List.filter_cons, filter_fmT t]
    by_cases h : p.2.1 ≤ p.2.2
    · simp [goodT, h]
    · simp [goodT, h]
theorem comp_goodT (ps : List Tri) : compF (xgTup (xgCons (xgName 0) (xgCons (xgName 1) (xgCons (xgName 2) xgNil)))) (xB (xOp dLe (xVarP 1) (xVarP 2))) (xTup (xCons (xVar 0) (xCons (xVar 1) (xCons (xVar 2) xNil)))) [.un, .un, .un] (ps.map triD) = some ((ps.filter goodT).map triD) := by
  rw [compF_fm triD (fun p => if p.2.1 ≤ p.2.2 then some (triD p) else none) ps, filter_fmT]
  intro p _
  by_cases h : p.2.1 ≤ p.2.2 <;> simp [oneF, h]
noncomputable def gStep (gs : Pic) (t : Tri) : Pic := match gs.getLast? with
  | none => [(t.1, [t.2])]
  | some g => if g.1 = t.1 then gs.dropLast ++ [(g.1, g.2 ++ [t.2])] else gs ++ [(t.1, [t.2])]
theorem gStep_nil (t : Tri) : gStep [] t = [(t.1, [t.2])] := rfl
theorem gStep_snoc (gs : Pic) (g : Int × R) (t : Tri) : gStep (gs ++ [g]) t = if g.1 = t.1 then gs ++ [(g.1, g.2 ++ [t.2])] else gs ++ [g] ++ [(t.1, [t.2])] := by
  unfold gStep
  simp
noncomputable def group (ts : List Tri) : Pic := ts.foldl gStep []
theorem group_snoc (pre : List Tri) (t : Tri) : group (pre ++ [t]) = gStep (group pre) t := by
  unfold group
  rw [List.foldl_append]
  rfl
structure GOk (gs : Pic) (ts : List Tri) : Prop where
  ne : ∀ g ∈ gs, g.2 ≠ [] ∧ Ok g.2
  up : gs.Pairwise fun a b => a.1 < b.1
  mem : ∀ x y, PMem gs x y ↔ TMem ts x y
  le : ∀ g ∈ gs, ∃ t ∈ ts, g.1 = t.1
  len : (gs.map fun g => g.2.length).sum = ts.length
theorem gStep_ok {gs : Pic} {ts : List Tri} {t : Tri} (o : GOk gs ts) (ht : t.2.1 ≤ t.2.2) (hb : ∀ s ∈ ts, s.1 ≤ t.1) : GOk (gStep gs t) (ts ++ [t]) := by
  have tm : ∀ x y, TMem (ts ++ [t]) x y ↔ TMem ts x y ∨ (t.1 = y ∧ t.2.1 ≤ x ∧ x ≤ t.2.2) := fun x y => by
    rw [tmem_append, tmem_cons]
    constructor
    · rintro (h | h | ⟨_, h, _⟩)
      · exact .inl h
      · exact .inr h
      · cases h
    · rintro (h | h)
      · exact .inl h
      · exact .inr (.inl h)
  have okt : Ok [t.2] := fun p hp => by rw [List.mem_singleton.mp hp]; exact ht
  rcases List.eq_nil_or_concat gs with rfl | ⟨gs0, g, rfl⟩
  · rw [gStep_nil]
    have e0 : ts = [] := List.length_eq_zero_iff.mp (by have := o.len; simpa using this.symm)
    subst e0
    refine ⟨fun g hg => ?_, List.pairwise_singleton _ _, fun x y => ?_, fun g hg => ⟨t, by simp, by rw [List.mem_singleton.mp hg]⟩, by simp⟩
    · rw [List.mem_singleton.mp hg]; exact ⟨by simp, okt⟩
    · rw [tm, pmem_cons, mem_cons]
      constructor
      · rintro (⟨h1, h2 | h2⟩ | h)
        · exact .inr ⟨h1, h2⟩
        · exact (mem_nil _ h2).elim
        · exact (pmem_nil _ _ h).elim
      · rintro (⟨_, h, _⟩ | h)
        · cases h
        · exact .inl ⟨h.1, .inl h.2⟩
  · rw [List.concat_eq_append] at *
    have up := List.pairwise_append.mp o.up
    rw [gStep_snoc]
    have glast : g.1 ≤ t.1 := by
      obtain ⟨s, hs, e⟩ := o.le g (by simp)
      have := hb s hs
      omega
    by_cases h : g.1 = t.1
    · rw [if_pos h]
      refine ⟨fun q hq => ?_, ?_, fun x y => ?_, fun q hq => ?_, ?_⟩
      · rcases List.mem_append.mp hq with hq | hq
        · exact o.ne q (List.mem_append_left _ hq)
        · rw [List.mem_singleton.mp hq]
          refine ⟨by simp, fun p hp => ?_⟩
          rcases List.mem_append.mp hp with hp | hp
          · exact (o.ne g (by simp)).2 p hp
          · exact okt p hp
      · refine List.pairwise_append.mpr ⟨up.1, List.pairwise_singleton _ _, fun a ha b hb => ?_⟩
        rw [List.mem_singleton.mp hb]
        exact up.2.2 a ha g (by simp)
      · rw [tm, ← o.mem, pmem_append, pmem_append, pmem_cons, pmem_cons]
        dsimp only
        rw [mem_append, mem_cons]
        have n0 := pmem_nil x y
        have n1 := mem_nil x
        constructor
        · rintro (k | ⟨k1, k2 | k2 | k2⟩ | k)
          · exact .inl (.inl k)
          · exact .inl (.inr (.inl ⟨k1, k2⟩))
          · exact .inr ⟨by omega, k2⟩
          · exact absurd k2 n1
          · exact absurd k n0
        · rintro ((k | ⟨k1, k2⟩ | k) | ⟨k1, k2⟩)
          · exact .inl k
          · exact .inr (.inl ⟨k1, .inl k2⟩)
          · exact absurd k n0
          · exact .inr (.inl ⟨by omega, .inr (.inl k2)⟩)
      · rcases List.mem_append.mp hq with hq | hq
        · obtain ⟨s, hs, e⟩ := o.le q (List.mem_append_left _ hq)
          exact ⟨s, List.mem_append_left _ hs, e⟩
        · rw [List.mem_singleton.mp hq]
          exact ⟨t, by simp, h⟩
      · have := o.len
        simp only [List.map_append, List.sum_append, List.map_cons, List.map_nil, List.sum_cons, List.sum_nil, List.length_append, List.length_cons, List.length_nil] at this ⊢
        omega
    · rw [if_neg h]
      refine ⟨fun q hq => ?_, ?_, fun x y => ?_, fun q hq => ?_, ?_⟩
      · rcases List.mem_append.mp hq with hq | hq
        · exact o.ne q hq
        · rw [List.mem_singleton.mp hq]; exact ⟨by simp, okt⟩
      · refine List.pairwise_append.mpr ⟨o.up, List.pairwise_singleton _ _, fun a ha b hb' => ?_⟩
        rw [List.mem_singleton.mp hb']
        rcases List.mem_append.mp ha with ha | ha
        · have := up.2.2 a ha g (by simp)
          dsimp only
          omega
        · rw [List.mem_singleton.mp ha]; dsimp only; omega
      · rw [tm, ← o.mem, pmem_append, pmem_cons]
        dsimp only
        rw [mem_cons]
        have n0 := pmem_nil x y
        have n1 := mem_nil x
        constructor
        · rintro (k | ⟨k1, k2 | k2⟩ | k)
          · exact .inl k
          · exact .inr ⟨k1, k2⟩
          · exact absurd k2 n1
          · exact absurd k n0
        · rintro (k | ⟨k1, k2⟩)
          · exact .inl k
          · exact .inr (.inl ⟨k1, .inl k2⟩)
      · rcases List.mem_append.mp hq with hq | hq
        · obtain ⟨s, hs, e⟩ := o.le q hq
          exact ⟨s, List.mem_append_left _ hs, e⟩
        · rw [List.mem_singleton.mp hq]
          exact ⟨t, by simp, rfl⟩
      · have := o.len
        simp only [List.map_append, List.sum_append, List.map_cons, List.map_nil, List.sum_cons, List.sum_nil, List.length_append, List.length_cons, List.length_nil] at this ⊢
        omega
theorem group_ok : ∀ (post pre : List Tri), (∀ t ∈ pre ++ post, t.2.1 ≤ t.2.2) → (pre ++ post).Pairwise (fun p q => p.1 ≤ q.1) → GOk (group pre) pre → GOk (group (pre ++ post)) (pre ++ post)
  | [], pre, _, _, o => by rw [List.append_nil]; exact o
  | t :: post, pre, h1, h2, o => by
    have e : pre ++ t :: post = (pre ++ [t]) ++ post := by simp
    rw [e] at h1 h2 ⊢
    refine group_ok post (pre ++ [t]) h1 h2 ?_
    rw [group_snoc]
    have h3 := List.pairwise_append.mp h2
    have h4 := List.pairwise_append.mp h3.1
    exact gStep_ok o (h1 t (by simp)) fun s hs => h4.2.2 s hs t (by simp)
theorem group_ok0 {ts : List Tri} (h1 : ∀ t ∈ ts, t.2.1 ≤ t.2.2) (h2 : ts.Pairwise fun p q => p.1 ≤ q.1) : GOk (group ts) ts :=
  group_ok ts [] h1 h2 ⟨fun _ h => (by cases h), .nil, fun x y => ⟨fun h => (pmem_nil _ _ h).elim, fun ⟨_, h, _⟩ => by cases h⟩, fun _ h => (by cases h), rfl⟩
noncomputable def picOf (ts : List Tri) : Pic := (group (sortT (ts.filter goodT))).map fun g => (g.1, rowOf g.2)
theorem sorted_good (ts : List Tri) : GOk (group (sortT (ts.filter goodT))) (sortT (ts.filter goodT)) := group_ok0 (fun t ht => by
  have := (sortT_perm _).mem_iff.mp ht
  simpa [goodT] using (List.mem_filter.mp this).2) (sortT_pw _)
theorem rowOf_ne {ps : R} (h : ps ≠ []) (o : Ok ps) : rowOf ps ≠ [] := fun e => by
  cases ps with
  | nil => exact h rfl
  | cons p ps =>
    have := ((isRow_rowOf (p :: ps)).2 p.1).mpr ((mem_cons ..).mpr (.inl ⟨Int.le_refl _, o p List.mem_cons_self⟩))
    rw [e] at this
    exact mem_nil _ this
theorem picOf_ok (ts : List Tri) : PCanon (picOf ts) ∧ ∀ x y, PMem (picOf ts) x y ↔ TMem ts x y := by
  have o := sorted_good ts
  refine ⟨⟨fun q hq => ?_, ?_⟩, fun x y => ?_⟩
  · obtain ⟨g, hg, rfl⟩ := List.mem_map.mp hq
    obtain ⟨h1, h2⟩ := o.ne g hg
    exact ⟨(isRow_rowOf g.2).1, rowOf_ne h1 h2⟩
  · unfold picOf
    rw [List.pairwise_map]
    exact o.up
  · rw [← tmem_filter ts, ← tmem_perm (sortT_perm _), ← o.mem]
    constructor
    · rintro ⟨q, hq, e, hm⟩
      obtain ⟨g, hg, rfl⟩ := List.mem_map.mp hq
      exact ⟨g, hg, e, ((isRow_rowOf g.2).2 x).mp hm⟩
    · rintro ⟨g, hg, e, hm⟩
      exact ⟨_, List.mem_map.mpr ⟨g, hg, rfl⟩, e, ((isRow_rowOf g.2).2 x).mpr hm⟩
noncomputable def strOf (p : Pic) : List Tri := p.flatMap fun q => q.2.map fun s => (q.1, s)
theorem strOf_cons (q : Int × R) (p : Pic) : strOf (q :: p) = (q.2.map fun s => (q.1, s)) ++ strOf p := rfl
theorem tmem_str (p : Pic) (x y : Int) : TMem (strOf p) x y ↔ PMem p x y := by
  constructor
  · rintro ⟨t, ht, e, h⟩
    obtain ⟨q, hq, hs⟩ := List.mem_flatMap.mp ht
    obtain ⟨s, hs2, rfl⟩ := List.mem_map.mp hs
    exact ⟨q, hq, e, s, hs2, h⟩
  · rintro ⟨q, hq, e, s, hs, h⟩
    exact ⟨(q.1, s), List.mem_flatMap.mpr ⟨q, hq, List.mem_map.mpr ⟨s, hs, rfl⟩⟩, e, h⟩
theorem picOf_uniq {ts : List Tri} {p : Pic} (c : PCanon p) (h : ∀ x y, TMem ts x y ↔ PMem p x y) : picOf ts = p :=
  punique (picOf_ok ts).1 c fun x y => ((picOf_ok ts).2 x y).trans (h x y)
theorem picOf_str {p : Pic} (c : PCanon p) : picOf (strOf p) = p := picOf_uniq c (tmem_str p)
end P
namespace P
open PySem L2 M Rw
mutual
theorem eqD_refl : ∀ (n : Nat) (d : D), okD n d = true → eqD d d = true
  | _, .non, _ => by simp [eqD]
  | _, .bl _, _ => by simp [eqD]
  | _, .int _, _ => by simp [eqD]
  | _, .str _, _ => by simp [eqD]
  | 0, .lst _, h => by simp [okD] at h
  | n + 1, .lst l, h => by rw [eqD]; exact eqDs_refl n l (by simpa [okD] using h)
  | 0, .tup _, h => by simp [okD] at h
  | n + 1, .tup l, h => by rw [eqD]; exact eqDs_refl n l (by simpa [okD] using h)
  | n, .ty _, h => by cases n <;> simp [okD] at h
  | n, .scr _, h => by cases n <;> simp [okD] at h
  | n, .ins _ _ _, h => by cases n <;> simp [okD] at h
  | n, .dic _, h => by cases n <;> simp [okD] at h
theorem eqDs_refl : ∀ (n : Nat) (l : List D), okDs n l = true → eqDs l l = true
  | _, [], _ => by simp [eqDs]
  | n, d :: l, h => by
    rw [okDs, Bool.and_eq_true] at h
    rw [eqDs, eqD_refl n d h.1, eqDs_refl n l h.2]
    rfl
end
theorem okDs_map {α : Type} {n : Nat} {f : α → D} : ∀ (l : List α), (∀ a ∈ l, okD n (f a) = true) → okDs n (l.map f) = true
  | [], _ => by simp [okDs]
  | a :: l, h => by rw [List.map_cons, okDs, h a List.mem_cons_self, okDs_map l fun b hb => h b (List.mem_cons_of_mem _ hb)]; rfl
theorem dEq_self {d : D} (neg : Bool) (h : okD 50 d = true) : dEq neg d d = some (.bl (!neg)) := by
  unfold dEq
  rw [if_pos ⟨h, h⟩, eqD_refl 50 d h]
  cases neg <;> rfl
end P
namespace P
open PySem L2 M Rw
noncomputable def grO (g : Int × R) : O := .tup [.sh (.int g.1), .lst (g.2.map (O.sh ∘ prD))]
noncomputable def grD (g : Int × R) : D := .tup [.int g.1, lstD g.2]
theorem grO_d (g : Int × R) : (grO g).d = grD g := by simp [grO, grD]
theorem grs_d : ∀ gs : Pic, O.ds (gs.map grO) = gs.map grD
  | [] => by simp
  | g :: gs => by rw [List.map_cons, O_ds_cons, grO_d, grs_d gs]; rfl
end P
namespace P
open PySem L2 M Rw
theorem gStep_len (gs : Pic) (t : Tri) : (gStep gs t).length ≤ gs.length + 1 := by
  rcases List.eq_nil_or_concat gs with rfl | ⟨gs0, g, rfl⟩
  · simp [gStep]
  · rw [List.concat_eq_append, gStep_snoc]
    split <;> simp
theorem group_len : ∀ ts : List Tri, (group ts).length ≤ ts.length := by
  intro ts
  have key : ∀ (l : List Tri) (gs : Pic), (l.foldl gStep gs).length ≤ gs.length + l.length := by
    intro l
    induction l with
    | nil => intro gs; simp
    | cons t l ih =>
      intro gs
      have h1 := ih (gStep gs t)
      have h2 := gStep_len gs t
      rw [List.foldl_cons, List.length_cons]
      omega
  have := key ts []
  unfold group
  simpa using this
theorem picture_turn (s0 : Sl) (gs : Pic) (t : Tri) (h : gs.length ≤ 64) (hg : ∀ g ∈ gs, g.2.length ≤ 64) : B_picture_of_0 [s0, .ow (.lst (gs.map grO)), .sh (.int t.1), .sh (.int t.2.1), .sh (.int t.2.2)] = some (.nx [s0, .ow (.lst ((gStep gs t).map grO)), .sh (.int t.1), .sh (.int t.2.1), .sh (.int t.2.2)]) := by
  rcases List.eq_nil_or_concat gs with rfl | ⟨gs0, g, rfl⟩
  · simp [B_picture_of_0, gStep, grO]
  · rw [List.concat_eq_append] at *
    rw [gStep_snoc]
    have hl : gs0.length + 1 ≤ 64 := by simpa using h
    have hlim : gs0.length + 1 < LIM := lim_of' (by omega)
    have hg2 : g.2.length < LIM := lim_of' (by have := hg g (by simp); omega)
    by_cases hc : g.1 = t.1
    · simp [B_picture_of_0, hc, hg2, grO]
    · simp [B_picture_of_0, hc, hlim, grO]
theorem le_sum_mem : ∀ {l : List Nat} {n : Nat}, n ∈ l → n ≤ l.sum
  | [], _, h => by cases h
  | m :: l, n, h => by
    rw [List.sum_cons]
    rcases List.mem_cons.mp h with rfl | h
    · omega
    · have := le_sum_mem h; omega
theorem m_picture_of_is (ts : List Tri) (h : ts.length < 64) : m_picture_of [.lst (ts.map triD)] = some (picD (picOf ts)) := by
  have hf := List.length_filter_le goodT ts
  have hs := (sortT_perm (ts.filter goodT)).length_eq
  have og := sorted_good ts
  have key : ∃ ρ', loopF (xgTup (xgCons (xgName 2) (xgCons (xgName 3) (xgCons (xgName 4) xgNil)))) B_picture_of_0 ((sortT (ts.filter goodT)).map triD) [.sh (.lst (ts.map triD)), .ow (.lst []), .un, .un, .un] = some (.nx ρ') ∧ ∃ va vb vc, ρ' = [.sh (.lst (ts.map triD)), .ow (.lst ((group (sortT (ts.filter goodT))).map grO)), va, vb, vc] := by
    refine loopF_inv triD (fun pre ρ => ∃ va vb vc, ρ = [.sh (.lst (ts.map triD)), .ow (.lst ((group pre).map grO)), va, vb, vc]) _ _ ⟨_, _, _, rfl⟩ ?_
    rintro pre t post _ e ⟨va, vb, vc, rfl⟩
    have hp : pre.length ≤ 64 := by
      have := congrArg List.length e
      rw [List.length_append] at this
      omega
    have gl := group_len pre
    have gp : GOk (group pre) pre := by
      refine group_ok0 (fun s hs => ?_) ?_
      · have := (sortT_perm _).mem_iff.mp (show s ∈ sortT (ts.filter goodT) by rw [e]; simp [hs])
        simpa [goodT] using (List.mem_filter.mp this).2
      · have := sortT_pw (ts.filter goodT)
        rw [e] at this
        exact (List.pairwise_append.mp this).1
    have gg : ∀ g ∈ group pre, g.2.length ≤ 64 := fun g hg => by
      have h1 := gp.len
      have h2 : g.2.length ≤ ((group pre).map fun g => g.2.length).sum := le_sum_mem (List.mem_map.mpr ⟨g, hg, rfl⟩)
      omega
    refine ⟨_, _, rfl, .inl (picture_turn _ (group pre) t (by omega) gg), .sh (.int t.1), .sh (.int t.2.1), .sh (.int t.2.2), by rw [group_snoc]⟩
  obtain ⟨ρ', k1, va, vb, vc, rfl⟩ := key
  have hc := comp_goodT ts
  have hb := bSorted_tris (ts.filter goodT) (by omega)
  have hl : ts.length ≤ LIM := lim_of (by omega)
  have gl := group_len (sortT (ts.filter goodT))
  have hl2 : (group (sortT (ts.filter goodT))).length ≤ LIM := lim_of (by omega)
  have c2 : compF (xgTup (xgCons (xgName 0) (xgCons (xgName 1) xgNil))) xYes (xTup (xCons (xVar 0) (xCons (xCall m_row_of (xCons (xVar 1) xNil)) xNil))) [.un, .un] ((group (sortT (ts.filter goodT))).map grD) = some ((picOf ts).map pyD) := by
    rw [compF_map grD (fun g => pyD (g.1, rowOf g.2))]
    · unfold picOf
      rw [List.map_map]
      rfl
    · intro g hg
      have h1 : g.2.length < 64 := by
        have h2 : g.2.length ≤ ((group (sortT (ts.filter goodT))).map fun g => g.2.length).sum := le_sum_mem (List.mem_map.mpr ⟨g, hg, rfl⟩)
        have := og.len
        omega
      have h3 := m_row_of_is g.2 h1
      simp [oneF, grD, h3]
  simp [m_picture_of, mo_picture_of, fnO, X_picture_of, hl, hc, hb, k1, frz, grs_d, hl2, c2]
end P
namespace P
open PySem L2 M PySem.NumText
noncomputable abbrev T9 (l : List Nat) : Str := ⟨l.toArray⟩
theorem t9_len (l : List Nat) : (T9 l).length = l.length := rfl
theorem t9_list (l : List Nat) : (T9 l).cps.toList = l := rfl
theorem t9_eta {x : Str} {l : List Nat} (h : x.cps.toList = l) : x = T9 l := by cases x; subst h; rfl
theorem t9_inj {a b : List Nat} (h : T9 a = T9 b) : a = b := by
  have := congrArg (fun x : Str => x.cps.toList) h
  exact this
theorem t9_app (a b : List Nat) : T9 a ++ T9 b = T9 (a ++ b) := t9_eta (by
  show (a.toArray ++ b.toArray).toList = a ++ b
  simp)
theorem okS {l : List Nat} (h : ∀ c ∈ l, c < 1114112) : PyData.strOk (T9 l) = true := by
  unfold PyData.strOk
  rw [Array.all_eq_true']
  intro c hc
  exact decide_eq_true (h c (by simpa using hc))
theorem run_rt {m n : XS} {ρ : M.Env} {d : D} (h : m ρ = some (.rt d)) : xSeq m n ρ = some (.rt d) := by unfold xSeq; rw [h]
theorem dEq_str {a b : Str} (ha : PyData.strOk a = true) (hb : PyData.strOk b = true) : dEq false (.str a) (.str b) = some (.bl (decide (a = b))) := by
  unfold dEq
  rw [if_pos ⟨by simp [okD, ha], by simp [okD, hb]⟩]
  simp only [eqD]
  by_cases h : a = b <;> simp [h]
noncomputable def numL (m : Nat) : List Nat := (Nat.toDigits 10 m).map Char.toNat
theorem str_nat (m : Nat) : Str.ofString (toString (m : Int)) = T9 (numL m) := t9_eta (PySem.W.KIN.signs_num m)
theorem str_neg (m : Nat) (h : 0 < m) : Str.ofString (toString (-(m : Int))) = T9 (45 :: numL m) := by
  obtain ⟨k, rfl⟩ : ∃ k, m = k + 1 := ⟨m - 1, by omega⟩
  refine t9_eta ?_
  rw [PyProof.Rows.signs_ofString]
  show (("-" ++ Nat.repr (k + 1)) : String).toList.map Char.toNat = _
  rw [String.toList_append, Nat.toList_repr]
  rfl
theorem num_digits (m : Nat) : AllDigits (numL m) := by
  intro c hc
  obtain ⟨ch, hch, e⟩ := List.mem_map.mp hc
  have r := PyProof.Rows.digit_range (Nat.isDigit_of_mem_toDigits (by decide) (by decide) hch)
  rw [← e]
  exact r
theorem num_ne (m : Nat) : numL m ≠ [] := by
  intro e
  have h := PySem.toDigits_len_ge 10 m
  rw [List.map_eq_nil_iff.mp e] at h
  exact absurd h (by decide)
theorem num_len {m : Nat} (h : m < 10 ^ 60) : (numL m).length ≤ 60 := by
  unfold numL
  rw [List.length_map]
  exact PySem.toDigits_len_pow (by decide) (by decide) h
theorem num_val (m : Nat) : digitsVal (numL m) = m := PySem.W.KIN.val_back m
theorem val_lt : ∀ (n : Nat) (l : List Nat), l.length = n → AllDigits l → digitsVal l < 10 ^ n
  | 0, l, h, _ => by
    have : l = [] := List.length_eq_zero_iff.mp h
    subst this
    decide
  | n + 1, l, h, hd => by
    have hne : l ≠ [] := by intro e; rw [e] at h; simp at h
    have e := List.dropLast_concat_getLast hne
    generalize l.dropLast = ini at e
    generalize l.getLast hne = c at e
    subst e
    have hc : 48 ≤ c ∧ c ≤ 57 := hd c (List.mem_append_right _ (List.mem_singleton.mpr rfl))
    have hli : ini.length = n := by rw [List.length_append, List.length_singleton] at h; omega
    have ih := val_lt n ini hli fun d hd' => hd d (List.mem_append_left _ hd')
    rw [digitsVal_snoc, Nat.pow_succ]
    omega
theorem log_lt {v : Nat} (h : v < 10 ^ 60) : v.log2 < 1920 := by
  by_cases h0 : v = 0
  · subst h0; decide
  · have : v < 2 ^ 1920 := Nat.lt_of_lt_of_le h (Nat.le_trans (show 10 ^ 60 ≤ 2 ^ 200 by decide) (Nat.pow_le_pow_right (by decide) (by decide)))
    exact (Nat.log2_lt h0).mpr this
noncomputable def fig (c : Nat) : Bool := decide (48 ≤ c ∧ c ≤ 57)
theorem inFig (c : Nat) : dInS (.str (T9 [c])) (.str (Str.ofString "0123456789")) = some (.bl (fig c)) := by
  show some (D.bl _) = _
  have e : (Str.ofString "0123456789").cps.toList = [48, 49, 50, 51, 52, 53, 54, 55, 56, 57] := by rw [PyProof.Rows.signs_ofString]; decide
  have k : (!(Builtin.Str.occurrences (Str.ofString "0123456789") (T9 [c]) 0 (Str.ofString "0123456789").length 1).isEmpty) = fig c := by
    unfold fig
    rw [Bool.eq_iff_iff, StrLaws.found_iff, decide_eq_true_eq]
    constructor
    · rintro ⟨i, h⟩
      have h := (StrLaws.subAt_one _ c i).mp h
      rw [e] at h
      have := List.mem_of_getElem? h
      simp at this
      omega
    · intro h
      refine ⟨c - 48, (StrLaws.subAt_one _ c (c - 48)).mpr ?_⟩
      rw [e]
      obtain ⟨k, rfl⟩ : ∃ k, c = 48 + k := ⟨c - 48, by omega⟩
      have hk : k ≤ 9 := by omega
      rw [Nat.add_sub_cancel_left]
      match k, hk with
      | 0, _ | 1, _ | 2, _ | 3, _ | 4, _ | 5, _ | 6, _ | 7, _ | 8, _ | 9, _ => rfl
  rw [k]
theorem signs_t9 (l : List Nat) : signsD (T9 l) = l.map fun c => D.str (T9 [c]) := rfl
theorem bls_of (bs : List Bool) : boolsOf (bs.map D.bl) = some bs := by
  induction bs with
  | nil => rfl
  | cons b bs ih =>
    show (boolsOf (bs.map D.bl)).map (fun r => b :: r) = _
    rw [ih]
    rfl
theorem all_is (l : List Nat) (hl : l.length ≤ 1000) (ρ : M.Env) (h : ρ[1]? = some (.sh (.str (T9 l)))) : xCB bAll (xCons (xL (xComp [none] (xItS (xVar 1)) (xgName 0) (xYes) (xOp (dInS) (xVarP 0) (xC (.str (Str.ofString "0123456789")))))) (xNil)) ρ = some (.bl (l.all fig)) := by
  have k := compF_map (g := xgName 0) (e := xOp (dInS) (xVarP 0) (xC (.str (Str.ofString "0123456789")))) (ρ0 := [.un]) (fun c : Nat => D.str (T9 [c])) (fun c => D.bl (fig c)) l (fun c _ => by
    have := inFig c
    simp [oneF, this])
  have lm := lim_of (n := l.length) (by omega)
  have hb : bAll [.lst (l.map fun c => D.bl (fig c))] = some (.bl (l.all fig)) := by
    show (boolsOf _).map _ = _
    have e : (l.map fun c => D.bl (fig c)) = (l.map fig).map D.bl := by rw [List.map_map]; rfl
    rw [e, bls_of]
    show some (D.bl _) = _
    rw [List.all_map]
    rfl
  simp [h, signs_t9, sgD, k, lm, hb]
end P
namespace P
open PySem L2 M PySem.NumText StrLaws
noncomputable def jn (y : List Nat) : List (List Nat) → List Nat
  | [] => []
  | [p] => p
  | p :: q :: r => p ++ (y ++ jn y (q :: r))
theorem at_iff (l y : List Nat) (k : Nat) : StrLaws.At (T9 l) (T9 y) (T9 l).length k ↔ k + y.length ≤ l.length ∧ (l.drop k).take y.length = y := by
  unfold StrLaws.At
  rw [StrLaws.subAt_eq, beq_iff_eq]
  exact Iff.rfl
theorem at_head {l y : List Nat} {c k : Nat} (h : StrLaws.At (T9 l) (T9 (c :: y)) (T9 l).length k) : l[k]? = some c := by
  obtain ⟨h1, h2⟩ := (at_iff l (c :: y) k).mp h
  have e : (l.drop k)[0]? = some c := by
    have : ((l.drop k).take (c :: y).length)[0]? = some c := by rw [h2]; rfl
    rwa [List.getElem?_take_of_lt (by rw [List.length_cons]; omega)] at this
  rwa [List.getElem?_drop, Nat.add_zero] at e
theorem parts_jn (c : Nat) (y : List Nat) (l : List Nat) : ∀ (parts : List (List Nat)) (a : Nat) (cuts : List Nat) (f : Nat), parts ≠ [] → (∀ p ∈ parts, c ∉ p) → a ≤ l.length → l.drop a = jn (c :: y) parts →
    ChainG (T9 l) (T9 (c :: y)) (T9 l).length a cuts f → (∀ k, f ≤ k → ¬ StrLaws.At (T9 l) (T9 (c :: y)) (T9 l).length k) → partsFrom (T9 l) (T9 (c :: y)).length a cuts = parts.map T9
  | [], _, _, _, h, _, _, _, _, _ => absurd rfl h
  | [p], a, cuts, f, _, hp, ha, e, hc, hf => by
    have e : l.drop a = p := e
    have nc : ∀ k, a ≤ k → l[k]? ≠ some c := fun k hk z => by
      have : (l.drop a)[k - a]? = some c := by rw [List.getElem?_drop, show a + (k - a) = k by omega]; exact z
      rw [e] at this
      exact hp p List.mem_cons_self (List.mem_of_getElem? this)
    cases cuts with
    | nil =>
      show [Builtin.Str.strSub (T9 l) a (T9 l).length] = [T9 p]
      congr 1
      refine t9_eta ?_
      rw [StrLaws.strSub_toList]
      show (l.drop a).take (l.length - a) = p
      rw [e]
      exact List.take_of_length_le (by rw [← e, List.length_drop]; exact Nat.le_refl _)
    | cons d cs =>
      exact absurd (at_head hc.2.1) (nc d hc.1)
  | p :: q :: r, a, cuts, f, _, hp, ha, e, hc, hf => by
    have e : l.drop a = p ++ ((c :: y) ++ jn (c :: y) (q :: r)) := e
    have len : l.length = a + p.length + (c :: y).length + (jn (c :: y) (q :: r)).length := by
      have := congrArg List.length e
      rw [List.length_drop, List.length_append, List.length_append] at this
      omega
    have dr : l.drop (a + p.length) = (c :: y) ++ jn (c :: y) (q :: r) := by
      rw [← List.drop_drop, e, List.drop_left]
    have hat : StrLaws.At (T9 l) (T9 (c :: y)) (T9 l).length (a + p.length) := (at_iff l (c :: y) _).mpr ⟨by omega, by rw [dr, List.take_left]⟩
    have np : ∀ k, a ≤ k → k < a + p.length → l[k]? ≠ some c := fun k h1 h2 z => by
      have : (l.drop a)[k - a]? = some c := by rw [List.getElem?_drop, show a + (k - a) = k by omega]; exact z
      rw [e, List.getElem?_append_left (by omega)] at this
      exact hp p List.mem_cons_self (List.mem_of_getElem? this)
    cases cuts with
    | nil =>
      have : f = a := hc
      exact absurd hat (hf _ (by omega))
    | cons d cs =>
      obtain ⟨h1, h2, h3, h4⟩ := hc
      have hd : d = a + p.length := by
        have k1 : ¬ a + p.length < d := fun z => h3 _ (by omega) z hat
        have k2 : ¬ d < a + p.length := fun z => np d h1 z (at_head h2)
        omega
      subst hd
      have ih := parts_jn c y l (q :: r) (a + p.length + (T9 (c :: y)).length) cs f (by simp) (fun x hx => hp x (List.mem_cons_of_mem _ hx)) (by rw [t9_len]; omega) (by
        rw [t9_len, ← List.drop_drop, dr, List.drop_left]) h4 hf
      show Builtin.Str.strSub (T9 l) a (a + p.length) :: partsFrom (T9 l) _ _ cs = T9 p :: (q :: r).map T9
      rw [ih]
      congr 1
      refine t9_eta ?_
      rw [StrLaws.strSub_toList]
      show (l.drop a).take (a + p.length - a) = p
      rw [e, show a + p.length - a = p.length by omega, List.take_left]
theorem kind1 {y : List Nat} (h : ∀ d ∈ y, d < 256) : Builtin.Str.strKind (T9 y) = 1 := by
  unfold Builtin.Str.strKind
  rw [if_pos]
  rw [Array.all_eq_true']
  intro d hd
  exact decide_eq_true (h d (by simpa using hd))
theorem kind_ge (x : Str) : 1 ≤ Builtin.Str.strKind x := by
  unfold Builtin.Str.strKind
  split
  · exact Nat.le_refl _
  · split <;> decide
theorem split_jn (c : Nat) (y : List Nat) (hk : ∀ d ∈ c :: y, d < 256) (parts : List (List Nat)) (hne : parts ≠ []) (hp : ∀ p ∈ parts, c ∉ p) : Txt.split (T9 (jn (c :: y) parts)) (T9 (c :: y)) = parts.map T9 := by
  obtain ⟨f, hc, hf⟩ := StrLaws.occ_tight (T9 (jn (c :: y) parts)) (T9 (c :: y)) (by rw [t9_len, List.length_cons]; omega)
  have key := parts_jn c y (jn (c :: y) parts) parts 0 _ f hne hp (Nat.zero_le _) rfl hc hf
  unfold Txt.split
  split
  · rename_i h
    rw [Bool.or_eq_true, decide_eq_true_eq, decide_eq_true_eq] at h
    have h : (T9 (jn (c :: y) parts)).length < (T9 (c :: y)).length := h.resolve_right (by rw [kind1 hk]; have := kind_ge (T9 (jn (c :: y) parts)); omega)
    cases q : Builtin.Str.occurrences (T9 (jn (c :: y) parts)) (T9 (c :: y)) 0 (T9 (jn (c :: y) parts)).length ((T9 (jn (c :: y) parts)).length + 1) with
    | nil =>
      rw [q] at key
      rw [← key]
      show _ = [Builtin.Str.strSub _ 0 _]
      rw [StrLaws.sub_whole]
    | cons d cs =>
      rw [q] at hc
      have := hc.2.1.1
      omega
  · split
    · rename_i h
      have q : Builtin.Str.occurrences (T9 (jn (c :: y) parts)) (T9 (c :: y)) 0 (T9 (jn (c :: y) parts)).length ((T9 (jn (c :: y) parts)).length + 1) = [] := List.isEmpty_iff.mp h
      rw [q] at key
      rw [← key]
      show _ = [Builtin.Str.strSub _ 0 _]
      rw [StrLaws.sub_whole]
    · rw [StrLaws.partsBetween_eq]
      exact key
theorem part_jn (c : Nat) (y p q : List Nat) (hp : c ∉ p) : Txt.partition (T9 (p ++ ((c :: y) ++ q))) (T9 (c :: y)) = (T9 p, T9 (c :: y), T9 q) := by
  have dr : (p ++ ((c :: y) ++ q)).drop p.length = (c :: y) ++ q := List.drop_left
  have hat : StrLaws.At (T9 (p ++ ((c :: y) ++ q))) (T9 (c :: y)) (T9 (p ++ ((c :: y) ++ q))).length p.length := (at_iff _ (c :: y) _).mpr ⟨by rw [List.length_append, List.length_append]; omega, by rw [dr, List.take_left]⟩
  have np : ∀ k, k < p.length → (p ++ ((c :: y) ++ q))[k]? ≠ some c := fun k h2 z => by
    rw [List.getElem?_append_left h2] at z
    exact hp (List.mem_of_getElem? z)
  rcases StrLaws.occ_head (T9 (p ++ ((c :: y) ++ q))) (T9 (c :: y)) 1 (Nat.le_refl _) with ⟨_, h⟩ | ⟨i, r, e, h1, h2⟩
  · exact absurd hat (h _)
  · have hi : i = p.length := by
      have k1 : ¬ p.length < i := fun z => h2 _ z hat
      have k2 : ¬ i < p.length := fun z => np i z (at_head h1)
      omega
    subst hi
    unfold Txt.partition
    rw [e]
    show (Builtin.Str.strSub _ 0 p.length, T9 (c :: y), Builtin.Str.strSub _ (p.length + (T9 (c :: y)).length) _) = _
    have a : Builtin.Str.strSub (T9 (p ++ ((c :: y) ++ q))) 0 p.length = T9 p := t9_eta (by
      rw [StrLaws.strSub_toList]
      show ((p ++ ((c :: y) ++ q)).drop 0).take (p.length - 0) = p
      rw [List.drop_zero, Nat.sub_zero, List.take_left])
    have b : Builtin.Str.strSub (T9 (p ++ ((c :: y) ++ q))) (p.length + (T9 (c :: y)).length) (T9 (p ++ ((c :: y) ++ q))).length = T9 q := t9_eta (by
      rw [StrLaws.strSub_toList, t9_len]
      show ((p ++ ((c :: y) ++ q)).drop (p.length + (c :: y).length)).take _ = q
      rw [← List.drop_drop, dr, List.drop_left]
      exact List.take_of_length_le (by rw [t9_len, List.length_append, List.length_append]; omega))
    rw [a, b]
theorem join_jn (y : List Nat) : ∀ parts : List (List Nat), Txt.join (T9 y) (parts.map T9) = T9 (jn y parts)
  | [] => by show Builtin.Str.glued (T9 y) [] = _; rw [StrLaws.glued_eq_join]; rfl
  | [p] => by show Builtin.Str.glued (T9 y) [T9 p] = _; rw [StrLaws.glued_eq_join]; rfl
  | p :: q :: r => by
    have ih := join_jn y (q :: r)
    unfold Txt.join at ih ⊢
    rw [StrLaws.glued_eq_join] at ih ⊢
    show T9 p ++ T9 y ++ Str.join (T9 y) ((q :: r).map T9) = _
    rw [ih, t9_app, t9_app, List.append_assoc]
    rfl
end P
namespace P
open PySem L2 M PySem.NumText StrLaws
theorem at_two {l : List Nat} {c d k : Nat} (h : StrLaws.At (T9 l) (T9 [c, d]) (T9 l).length k) : l[k]? = some c ∧ l[k + 1]? = some d := by
  refine ⟨at_head h, ?_⟩
  obtain ⟨h1, h2⟩ := (at_iff l [c, d] k).mp h
  have e : (l.drop k)[1]? = some d := by
    have : ((l.drop k).take [c, d].length)[1]? = some d := by rw [h2]; rfl
    rwa [List.getElem?_take_of_lt (show 1 < [c, d].length from Nat.lt_succ_self 1)] at this
  rwa [List.getElem?_drop] at e
noncomputable def Sep2 (c d : Nat) : List (List Nat) → Prop
  | [] => False
  | [p] => ∀ k, p[k]? = some c → p[k + 1]? ≠ some d
  | p :: q :: r => c ∉ p ∧ Sep2 c d (q :: r)
theorem parts_jn2 (c d : Nat) (l : List Nat) : ∀ (parts : List (List Nat)) (a : Nat) (cuts : List Nat) (f : Nat), Sep2 c d parts → a ≤ l.length → l.drop a = jn [c, d] parts →
    ChainG (T9 l) (T9 [c, d]) (T9 l).length a cuts f → (∀ k, f ≤ k → ¬ StrLaws.At (T9 l) (T9 [c, d]) (T9 l).length k) → partsFrom (T9 l) (T9 [c, d]).length a cuts = parts.map T9
  | [], _, _, _, h, _, _, _, _ => h.elim
  | [p], a, cuts, f, hp, ha, e, hc, hf => by
    have e : l.drop a = p := e
    have hp : ∀ k, p[k]? = some c → p[k + 1]? ≠ some d := hp
    have nc : ∀ k, a ≤ k → ¬ StrLaws.At (T9 l) (T9 [c, d]) (T9 l).length k := fun k hk z => by
      obtain ⟨z1, z2⟩ := at_two z
      have e1 : (l.drop a)[k - a]? = some c := by rw [List.getElem?_drop, show a + (k - a) = k by omega]; exact z1
      have e2 : (l.drop a)[k - a + 1]? = some d := by rw [List.getElem?_drop, show a + (k - a + 1) = k + 1 by omega]; exact z2
      rw [e] at e1 e2
      exact hp _ e1 e2
    cases cuts with
    | nil =>
      show [Builtin.Str.strSub (T9 l) a (T9 l).length] = [T9 p]
      congr 1
      refine t9_eta ?_
      rw [StrLaws.strSub_toList]
      show (l.drop a).take (l.length - a) = p
      rw [e]
      exact List.take_of_length_le (by rw [← e, List.length_drop]; exact Nat.le_refl _)
    | cons d' cs => exact absurd hc.2.1 (nc d' hc.1)
  | p :: q :: r, a, cuts, f, hp, ha, e, hc, hf => by
    obtain ⟨hp0, hp⟩ := hp
    have e : l.drop a = p ++ ([c, d] ++ jn [c, d] (q :: r)) := e
    have len : l.length = a + p.length + [c, d].length + (jn [c, d] (q :: r)).length := by
      have := congrArg List.length e
      rw [List.length_drop, List.length_append, List.length_append] at this
      omega
    have dr : l.drop (a + p.length) = [c, d] ++ jn [c, d] (q :: r) := by
      rw [← List.drop_drop, e, List.drop_left]
    have hat : StrLaws.At (T9 l) (T9 [c, d]) (T9 l).length (a + p.length) := (at_iff l [c, d] _).mpr ⟨by omega, by rw [dr, List.take_left]⟩
    have np : ∀ k, a ≤ k → k < a + p.length → l[k]? ≠ some c := fun k h1 h2 z => by
      have : (l.drop a)[k - a]? = some c := by rw [List.getElem?_drop, show a + (k - a) = k by omega]; exact z
      rw [e, List.getElem?_append_left (by omega)] at this
      exact hp0 (List.mem_of_getElem? this)
    cases cuts with
    | nil =>
      have : f = a := hc
      exact absurd hat (hf _ (by omega))
    | cons d' cs =>
      obtain ⟨h1, h2, h3, h4⟩ := hc
      have hd : d' = a + p.length := by
        have k1 : ¬ a + p.length < d' := fun z => h3 _ (by omega) z hat
        have k2 : ¬ d' < a + p.length := fun z => np d' h1 z (at_head h2)
        omega
      subst hd
      have ih := parts_jn2 c d l (q :: r) (a + p.length + (T9 [c, d]).length) cs f hp (by rw [t9_len]; omega) (by
        rw [t9_len, ← List.drop_drop, dr, List.drop_left]) h4 hf
      show Builtin.Str.strSub (T9 l) a (a + p.length) :: partsFrom (T9 l) _ _ cs = T9 p :: (q :: r).map T9
      rw [ih]
      congr 1
      refine t9_eta ?_
      rw [StrLaws.strSub_toList]
      show (l.drop a).take (a + p.length - a) = p
      rw [e, show a + p.length - a = p.length by omega, List.take_left]
theorem split_jn2 (c d : Nat) (hc : c < 256) (hd : d < 256) (parts : List (List Nat)) (hp : Sep2 c d parts) : Txt.split (T9 (jn [c, d] parts)) (T9 [c, d]) = parts.map T9 := by
  have hk : ∀ e ∈ [c, d], e < 256 := fun e he => by
    rcases List.mem_cons.mp he with rfl | he
    · exact hc
    · rw [List.mem_singleton.mp he]; exact hd
  obtain ⟨f, hc, hf⟩ := StrLaws.occ_tight (T9 (jn [c, d] parts)) (T9 [c, d]) (show 1 ≤ 2 from by decide)
  have key := parts_jn2 c d (jn [c, d] parts) parts 0 _ f hp (Nat.zero_le _) rfl hc hf
  unfold Txt.split
  split
  · rename_i h
    rw [Bool.or_eq_true, decide_eq_true_eq, decide_eq_true_eq] at h
    have h : (T9 (jn [c, d] parts)).length < (T9 [c, d]).length := h.resolve_right (by rw [kind1 hk]; have := kind_ge (T9 (jn [c, d] parts)); omega)
    cases q : Builtin.Str.occurrences (T9 (jn [c, d] parts)) (T9 [c, d]) 0 (T9 (jn [c, d] parts)).length ((T9 (jn [c, d] parts)).length + 1) with
    | nil =>
      rw [q] at key
      rw [← key]
      show _ = [Builtin.Str.strSub _ 0 _]
      rw [StrLaws.sub_whole]
    | cons e cs =>
      rw [q] at hc
      have := hc.2.1.1
      omega
  · split
    · rename_i h
      have q : Builtin.Str.occurrences (T9 (jn [c, d] parts)) (T9 [c, d]) 0 (T9 (jn [c, d] parts)).length ((T9 (jn [c, d] parts)).length + 1) = [] := List.isEmpty_iff.mp h
      rw [q] at key
      rw [← key]
      show _ = [Builtin.Str.strSub _ 0 _]
      rw [StrLaws.sub_whole]
    · rw [StrLaws.partsBetween_eq]
      exact key
theorem part_none (c d : Nat) (l : List Nat) (h : ∀ k, l[k]? = some c → l[k + 1]? ≠ some d) : Txt.partition (T9 l) (T9 [c, d]) = (T9 l, Str.empty, Str.empty) := by
  rcases StrLaws.occ_head (T9 l) (T9 [c, d]) 1 (Nat.le_refl _) with ⟨e, _⟩ | ⟨i, r, e, h1, h2⟩
  · unfold Txt.partition
    rw [e]
  · obtain ⟨z1, z2⟩ := at_two h1
    exact absurd z2 (h i z1)
theorem once {A B : List Nat} {c d : Nat} (hA : c ∉ A) (hB : c ∉ B) (h0 : B[0]? ≠ some d) : ∀ k, (A ++ c :: B)[k]? = some c → (A ++ c :: B)[k + 1]? ≠ some d := fun k h => by
  have hk : k = A.length := by
    by_cases h1 : k < A.length
    · rw [List.getElem?_append_left h1] at h
      exact absurd (List.mem_of_getElem? h) hA
    · rw [List.getElem?_append_right (by omega)] at h
      cases q : k - A.length with
      | zero => omega
      | succ j =>
        rw [q, List.getElem?_cons_succ] at h
        exact absurd (List.mem_of_getElem? h) hB
  subst hk
  rw [List.getElem?_append_right (by omega), show A.length + 1 - A.length = 1 by omega, List.getElem?_cons_succ]
  exact h0
theorem never {l : List Nat} {c d : Nat} (h : c ∉ l) : ∀ k, l[k]? = some c → l[k + 1]? ≠ some d := fun k e => absurd (List.mem_of_getElem? e) h
end P
namespace P
open PySem L2 M PySem.NumText
noncomputable def figs : List Nat → List Nat
  | 45 :: r => r
  | l => l
theorem figs_neg (r : List Nat) : figs (45 :: r) = r := rfl
theorem figs_pos {l : List Nat} (h : ∀ r, l ≠ 45 :: r) : figs l = l := by
  unfold figs
  split
  · exact absurd rfl (h _)
  · rfl
theorem figs_le (l : List Nat) : (figs l).length ≤ l.length := by
  unfold figs
  split
  · exact Nat.le_succ _
  · exact Nat.le_refl _
theorem figs_mem {l : List Nat} {c : Nat} (h : c ∈ figs l) : c ∈ l := by
  unfold figs at h
  split at h
  · exact List.mem_cons_of_mem _ h
  · exact h
theorem starts_neg (r : List Nat) : dStarts (.str (T9 (45 :: r))) (.str (Str.ofString "-")) = some (.bl true) := by
  have e : Str.ofString "-" = T9 [45] := t9_eta (by rw [PyProof.Rows.signs_ofString]; decide)
  rw [e]
  show some (D.bl _) = _
  have h := (StrLaws.subAt_one (T9 (45 :: r)) 45 0).mpr rfl
  have h2 : Builtin.Str.subAt (T9 (45 :: r)) (T9 [45]) 0 = true := h.2
  have h1 : decide ((T9 [45]).length ≤ (T9 (45 :: r)).length) = true := decide_eq_true (by have := h.1; rwa [Nat.zero_add] at this)
  rw [h1, h2]
  rfl
theorem starts_pos {l : List Nat} (h : ∀ r, l ≠ 45 :: r) : dStarts (.str (T9 l)) (.str (Str.ofString "-")) = some (.bl false) := by
  have e : Str.ofString "-" = T9 [45] := t9_eta (by rw [PyProof.Rows.signs_ofString]; decide)
  rw [e]
  show some (D.bl _) = _
  have k : (decide ((T9 [45]).length ≤ (T9 l).length) && Builtin.Str.subAt (T9 l) (T9 [45]) 0) = false := by
    rw [Bool.eq_false_iff]
    intro z
    rw [Bool.and_eq_true] at z
    have h2 := (StrLaws.subAt_one (T9 l) 45 0).mp ⟨by have := of_decide_eq_true z.1; rw [Nat.zero_add]; exact this, z.2⟩
    have h2 : l[0]? = some 45 := h2
    cases l with
    | nil => cases h2
    | cons c r =>
      cases h2
      exact h r rfl
  rw [k]
theorem slice1 (c : Nat) (r : List Nat) : Txt.slice (T9 (c :: r)) (some 1) none = T9 r := by
  have h := PyProof.Rows.slice_from_eq (x := T9 (c :: r)) (i := 1) (b := ((c :: r).length : Int)) (by decide) (by rw [t9_len, List.length_cons]; omega) rfl
  rw [h]
  refine t9_eta ?_
  show (List.take _ (List.drop 1 (c :: r))) = r
  rw [List.drop_one, List.tail_cons]
  exact List.take_of_length_le (by rw [List.length_cons]; omega)
theorem fig_step (l : List Nat) (hl : l.length ≤ 1000) : xIfE (xTru (xOp dStarts (xVarP 0) (xC (.str (Str.ofString "-"))))) (xSlS (xVarP 0) (xPart (xC (.int 1))) (xNoPart)) (xVar 0) [.sh (.str (T9 l)), .un] = some (.str (T9 (figs l))) := by
  have lm := lim_of (n := l.length) (by omega)
  by_cases h : ∃ r, l = 45 :: r
  · obtain ⟨r, rfl⟩ := h
    have a := starts_neg r
    have b := slice1 45 r
    have lm' : (T9 (45 :: r)).length ≤ LIM := lm
    have c : dSlS (.str (T9 (45 :: r))) (some 1) none = some (.str (T9 r)) := by
      show (if (T9 (45 :: r)).length ≤ LIM then _ else none) = _
      rw [if_pos lm', b]
    simp [a, c, figs_neg]
  · have h' : ∀ r, l ≠ 45 :: r := fun r e => h ⟨r, e⟩
    have a := starts_pos h'
    rw [figs_pos h']
    simp [a]
theorem okE : PyData.strOk (Str.ofString "") = true := by
  have e : Str.ofString "" = T9 [] := t9_eta (by rw [PyProof.Rows.signs_ofString]; decide)
  rw [e]
  exact okS fun c h => by cases h
theorem emptyS : Str.ofString "" = T9 [] := t9_eta (by rw [PyProof.Rows.signs_ofString]; decide)
theorem ww_len (l : List Nat) (hl : l.length ≤ 1000) (ho : ∀ c ∈ l, c < 1114112) (h : figs l = [] ∨ 60 < (figs l).length) : m_writes_whole [.str (T9 l)] = some (.bl false) := by
  have s1 := fig_step l hl
  have e1 : dEq false (.str (T9 (figs l))) (.str (Str.ofString "")) = some (.bl (decide (figs l = []))) := by
    rw [dEq_str (okS fun c hc => ho c (figs_mem hc)) okE, emptyS]
    congr 2
    exact decide_eq_decide.mpr ⟨fun z => t9_inj z, fun z => by rw [z]⟩
  have lm := lim_of (n := (figs l).length) (by have := figs_le l; omega)
  have e2 : bLen [.str (T9 (figs l))] = some (.int ((figs l).length : Nat)) := by
    show (if (T9 (figs l)).length ≤ LIM then some (D.int ((T9 (figs l)).length : Nat)) else none) = _
    rw [t9_len, if_pos lm]
  refine fn_rt (n := 2) (ds := [.str (T9 l)]) ?_
  show X_writes_whole [.sh (.str (T9 l)), .un] = _
  unfold X_writes_whole
  refine (run_seq (ρ' := [.sh (.str (T9 l)), .sh (.str (T9 (figs l)))]) (by unfold xAsg; rw [s1]; rfl)).trans ?_
  refine run_rt ?_
  by_cases h0 : figs l = []
  · have e1' : dEq false (.str (T9 (figs l))) (.str (Str.ofString "")) = some (.bl true) := by rw [e1, decide_eq_true h0]
    simp [e1']
  · have h1 : 60 < (figs l).length := h.resolve_left h0
    have e1' : dEq false (.str (T9 (figs l))) (.str (Str.ofString "")) = some (.bl false) := by rw [e1, decide_eq_false h0]
    have g : (60 : Int) < ((figs l).length : Nat) := by omega
    simp [e1', e2, g]
theorem ww_mid (l : List Nat) (hl : l.length ≤ 1000) (ho : ∀ c ∈ l, c < 1114112) (h0 : figs l ≠ []) (h1 : (figs l).length ≤ 60) : X_writes_whole [.sh (.str (T9 l)), .un] =
    xSeq (xIf (xNot (xTru (xCB bAll (xCons (xL (xComp [none] (xItS (xVar 1)) (xgName 0) (xYes) (xOp (dInS) (xVarP 0) (xC (.str (Str.ofString "0123456789")))))) (xNil))))) (xRet (xC (.bl false))) (xNext)) (xRet (xOp (dEq false) (xCB bStrI (xCons (xCB bIntS (xCons (xVarP 0) (xNil))) (xNil))) (xVarP 0))) [.sh (.str (T9 l)), .sh (.str (T9 (figs l)))] := by
  have s1 := fig_step l hl
  have e1 : dEq false (.str (T9 (figs l))) (.str (Str.ofString "")) = some (.bl false) := by
    rw [dEq_str (okS fun c hc => ho c (figs_mem hc)) okE, emptyS, decide_eq_false fun z => h0 (t9_inj z)]
  have lm := lim_of (n := (figs l).length) (by omega)
  have e2 : bLen [.str (T9 (figs l))] = some (.int ((figs l).length : Nat)) := by
    show (if (T9 (figs l)).length ≤ LIM then some (D.int ((T9 (figs l)).length : Nat)) else none) = _
    rw [t9_len, if_pos lm]
  have g : ¬ (60 : Int) < ((figs l).length : Nat) := by omega
  unfold X_writes_whole
  refine (run_seq (ρ' := [.sh (.str (T9 l)), .sh (.str (T9 (figs l)))]) (by unfold xAsg; rw [s1]; rfl)).trans ?_
  exact run_seq (ρ' := [.sh (.str (T9 l)), .sh (.str (T9 (figs l)))]) (by simp [e1, e2, g])
theorem ww_bad (l : List Nat) (hl : l.length ≤ 1000) (ho : ∀ c ∈ l, c < 1114112) (h : ∃ c ∈ figs l, fig c = false) : m_writes_whole [.str (T9 l)] = some (.bl false) := by
  obtain ⟨c, hc, hf⟩ := h
  have h0 : figs l ≠ [] := fun z => by rw [z] at hc; cases hc
  by_cases h1 : 60 < (figs l).length
  · exact ww_len l hl ho (.inr h1)
  · refine fn_rt (n := 2) (ds := [.str (T9 l)]) ?_
    refine (ww_mid l hl ho h0 (by omega)).trans (run_rt ?_)
    have ha := all_is (figs l) (by omega) [.sh (.str (T9 l)), .sh (.str (T9 (figs l)))] rfl
    have hb : (figs l).all fig = false := by
      rw [List.all_eq_false]
      exact ⟨c, hc, by rw [hf]; decide⟩
    rw [hb] at ha
    unfold xIf xNot xTru
    rw [ha]
    rfl
theorem ww_dig (l : List Nat) (hl : l.length ≤ 61) (ho : ∀ c ∈ l, c < 1114112) (h0 : figs l ≠ []) (h1 : (figs l).length ≤ 60) (hd : AllDigits (figs l)) {v : Int} (hv : PySem.intText? (T9 l) = some v) (hg : v.natAbs.log2 < 1920) {t : List Nat}
    (ht : Str.ofString (toString v) = T9 t) (hto : ∀ c ∈ t, c < 1114112) : m_writes_whole [.str (T9 l)] = some (.bl (decide (t = l))) := by
  refine fn_rt (n := 2) (ds := [.str (T9 l)]) ?_
  refine (ww_mid l (by omega) ho h0 h1).trans ?_
  have ha := all_is (figs l) (by omega) [.sh (.str (T9 l)), .sh (.str (T9 (figs l)))] rfl
  have hb : (figs l).all fig = true := by
    rw [List.all_eq_true]
    exact fun c hc => decide_eq_true (hd c hc)
  rw [hb] at ha
  refine (run_seq (ρ' := [.sh (.str (T9 l)), .sh (.str (T9 (figs l)))]) (by unfold xIf xNot xTru; rw [ha]; rfl)).trans ?_
  have i1 : bIntS [.str (T9 l)] = some (.int v) := by
    show (if (T9 l).length ≤ 640 then (PySem.intText? (T9 l)).map D.int else none) = _
    rw [t9_len, if_pos (by omega), hv]
    rfl
  have i2 : bStrI [.int v] = some (.str (T9 t)) := by
    show (if v.natAbs.log2 < 1920 then some (D.str (Str.ofString (toString v))) else none) = _
    rw [if_pos hg, ht]
  have i3 : dEq false (.str (T9 t)) (.str (T9 l)) = some (.bl (decide (t = l))) := by
    rw [dEq_str (okS hto) (okS ho)]
    congr 2
    exact decide_eq_decide.mpr ⟨fun z => t9_inj z, fun z => by rw [z]⟩
  simp [i1, i2, i3]
end P
namespace P
open PySem L2 M PySem.NumText
theorem dig_small {l : List Nat} (h : AllDigits l) : ∀ c ∈ l, c < 1114112 := fun c hc => by have := h c hc; omega
theorem dig_neg {l : List Nat} (h : AllDigits l) : ∀ r, l ≠ 45 :: r := fun r e => by
  have := h 45 (by rw [e]; exact List.mem_cons_self)
  omega
theorem num_text (n : Int) (h : n.natAbs < 10 ^ 60) : ∃ l, Str.ofString (toString n) = T9 l ∧ l.length ≤ 61 ∧ m_writes_whole [.str (T9 l)] = some (.bl true) ∧ PySem.intText? (T9 l) = some n := by
  by_cases h0 : 0 ≤ n
  · obtain ⟨m, rfl⟩ := Int.eq_ofNat_of_zero_le h0
    have hm : m < 10 ^ 60 := h
    have d := num_digits m
    have f := figs_pos (dig_neg d)
    have ln := num_len hm
    have it : PySem.intText? (T9 (numL m)) = some (m : Int) := by
      have := intText_digits (x := T9 (numL m)) d (num_ne m) (by rw [t9_len]; omega)
      rw [t9_list, num_val] at this
      exact this
    refine ⟨numL m, str_nat m, by omega, ?_, it⟩
    have := ww_dig (numL m) (by omega) (dig_small d) (by rw [f]; exact num_ne m) (by rw [f]; exact ln) (by rw [f]; exact d) it (log_lt hm) (str_nat m) (dig_small d)
    rw [this, decide_eq_true rfl]
  · obtain ⟨m, rfl⟩ : ∃ m : Nat, n = -(m : Int) := ⟨n.natAbs, by omega⟩
    have hm : m < 10 ^ 60 := by rw [Int.natAbs_neg] at h; exact h
    have hp : 0 < m := by omega
    have d := num_digits m
    have ln := num_len hm
    have sm : ∀ c ∈ 45 :: numL m, c < 1114112 := fun c hc => by
      rcases List.mem_cons.mp hc with rfl | hc
      · decide
      · exact dig_small d c hc
    have it : PySem.intText? (T9 (45 :: numL m)) = some (-(m : Int)) := by
      have := intText_neg (x := T9 (45 :: numL m)) (t9_list _) d (num_ne m) (by rw [t9_len, List.length_cons]; omega)
      rw [num_val] at this
      exact this
    refine ⟨45 :: numL m, str_neg m hp, by rw [List.length_cons]; omega, ?_, it⟩
    have := ww_dig (45 :: numL m) (by rw [List.length_cons]; omega) sm (num_ne m) ln d it (by rw [Int.natAbs_neg]; exact log_lt hm) (str_neg m hp) sm
    rw [this, decide_eq_true rfl]
theorem isi_str (x : Str) : bIsi [.str x, .ty "str"] = some (.bl true) := by simp [bIsi, isiM, tyD, subM]
theorem read_ok {l : List Nat} {n : Int} (hl : l.length ≤ 61) (hw : m_writes_whole [.str (T9 l)] = some (.bl true)) (hi : PySem.intText? (T9 l) = some n) : m_read_whole [.str (T9 l)] = some (.int n) := by
  have i1 : bIntS [.str (T9 l)] = some (.int n) := by
    show (if (T9 l).length ≤ 640 then (PySem.intText? (T9 l)).map D.int else none) = _
    rw [t9_len, if_pos (by omega), hi]
    rfl
  simp [m_read_whole, mo_read_whole, fnO, X_read_whole, isi_str, hw, i1]
end P
namespace P
open PySem L2 M PySem.NumText Rw
noncomputable def numT (n : Int) : List Nat := (Str.ofString (toString n)).cps.toList
theorem numT_is (n : Int) : Str.ofString (toString n) = T9 (numT n) := t9_eta rfl
noncomputable abbrev NOk (n : Int) : Prop := n.natAbs < 10 ^ 60
theorem numT_ok {n : Int} (h : NOk n) : (numT n).length ≤ 61 ∧ m_writes_whole [.str (T9 (numT n))] = some (.bl true) ∧ PySem.intText? (T9 (numT n)) = some n := by
  obtain ⟨l, e, a, b, c⟩ := num_text n h
  have : numT n = l := t9_inj ((numT_is n).symm.trans e)
  rw [this]
  exact ⟨a, b, c⟩
theorem numT_mem (n : Int) : ∀ c ∈ numT n, c = 45 ∨ (48 ≤ c ∧ c ≤ 57) := by
  intro c hc
  by_cases h0 : 0 ≤ n
  · obtain ⟨m, rfl⟩ := Int.eq_ofNat_of_zero_le h0
    rw [t9_inj ((numT_is (m : Int)).symm.trans (str_nat m))] at hc
    exact .inr (num_digits m c hc)
  · obtain ⟨m, rfl⟩ : ∃ m : Nat, n = -(m : Int) := ⟨n.natAbs, by omega⟩
    rw [t9_inj ((numT_is (-(m : Int))).symm.trans (str_neg m (by omega)))] at hc
    rcases List.mem_cons.mp hc with rfl | hc
    · exact .inl rfl
    · exact .inr (num_digits m c hc)
theorem read_num {n : Int} (h : NOk n) : m_read_whole [.str (T9 (numT n))] = some (.int n) := by
  obtain ⟨a, b, c⟩ := numT_ok h
  exact read_ok a b c
noncomputable def stT (s : Int × Int) : List Nat := if s.1 = s.2 then numT s.1 else numT s.1 ++ ([46, 46] ++ numT s.2)
noncomputable def rwT (r : R) : List Nat := jn [32] (r.map stT)
noncomputable def lnT (q : Int × R) : List Nat := numT q.1 ++ ([58, 32] ++ rwT q.2)
noncomputable def pcT (p : Pic) : List Nat := jn [59, 32] (p.map lnT)
theorem jn_mem {y : List Nat} {c : Nat} : ∀ {parts : List (List Nat)}, c ∈ jn y parts → c ∈ y ∨ ∃ p ∈ parts, c ∈ p
  | [], h => by cases h
  | [p], h => .inr ⟨p, List.mem_cons_self, h⟩
  | p :: q :: r, h => by
    rcases List.mem_append.mp h with h | h
    · exact .inr ⟨p, List.mem_cons_self, h⟩
    · rcases List.mem_append.mp h with h | h
      · exact .inl h
      · rcases jn_mem h with h | ⟨p', hp, h⟩
        · exact .inl h
        · exact .inr ⟨p', List.mem_cons_of_mem _ hp, h⟩
theorem jn_len {y : List Nat} {B : Nat} : ∀ {parts : List (List Nat)}, (∀ p ∈ parts, p.length ≤ B) → (jn y parts).length ≤ parts.length * (B + y.length)
  | [], _ => Nat.zero_le _
  | [p], h => by
    have := h p List.mem_cons_self
    show p.length ≤ 1 * (B + y.length)
    omega
  | p :: q :: r, h => by
    have h1 := h p List.mem_cons_self
    have h2 := jn_len (y := y) (B := B) (parts := q :: r) fun x hx => h x (List.mem_cons_of_mem _ hx)
    show (p ++ (y ++ jn y (q :: r))).length ≤ ((q :: r).length + 1) * (B + y.length)
    rw [List.length_append, List.length_append, Nat.add_mul, Nat.one_mul]
    omega
theorem stT_mem (s : Int × Int) : ∀ c ∈ stT s, c = 45 ∨ c = 46 ∨ (48 ≤ c ∧ c ≤ 57) := by
  intro c hc
  unfold stT at hc
  split at hc
  · rcases numT_mem _ c hc with h | h <;> omega
  · rcases List.mem_append.mp hc with h | h
    · rcases numT_mem _ c h with h | h <;> omega
    · rcases List.mem_append.mp h with h | h
      · simp at h
        omega
      · rcases numT_mem _ c h with h | h <;> omega
theorem rwT_mem (r : R) : ∀ c ∈ rwT r, c = 32 ∨ c = 45 ∨ c = 46 ∨ (48 ≤ c ∧ c ≤ 57) := by
  intro c hc
  rcases jn_mem hc with h | ⟨p, hp, h⟩
  · simp at h
    exact .inl h
  · obtain ⟨s, _, rfl⟩ := List.mem_map.mp hp
    exact .inr (stT_mem s c h)
theorem lnT_mem (q : Int × R) : ∀ c ∈ lnT q, c = 58 ∨ c = 32 ∨ c = 45 ∨ c = 46 ∨ (48 ≤ c ∧ c ≤ 57) := by
  intro c hc
  rcases List.mem_append.mp hc with h | h
  · rcases numT_mem _ c h with h | h <;> omega
  · rcases List.mem_append.mp h with h | h
    · simp at h
      omega
    · exact .inr (rwT_mem _ c h)
theorem stT_len {s : Int × Int} (h1 : NOk s.1) (h2 : NOk s.2) : (stT s).length ≤ 124 := by
  have a := (numT_ok h1).1
  have b := (numT_ok h2).1
  unfold stT
  split
  · omega
  · rw [List.length_append, List.length_append]
    show _ + (2 + _) ≤ _
    omega
noncomputable def ROk (r : R) : Prop := r.length ≤ 63 ∧ ∀ s ∈ r, NOk s.1 ∧ NOk s.2
noncomputable def POk (p : Pic) : Prop := p.length ≤ 63 ∧ ∀ q ∈ p, NOk q.1 ∧ ROk q.2
theorem rwT_len {r : R} (h : ROk r) : (rwT r).length ≤ 7875 := by
  have := jn_len (y := [32]) (B := 124) (parts := r.map stT) fun p hp => by
    obtain ⟨s, hs, rfl⟩ := List.mem_map.mp hp
    exact stT_len (h.2 s hs).1 (h.2 s hs).2
  rw [List.length_map] at this
  have h1 := h.1
  have : (rwT r).length ≤ r.length * 125 := this
  omega
theorem lnT_len {q : Int × R} (h1 : NOk q.1) (h2 : ROk q.2) : (lnT q).length ≤ 7938 := by
  have a := (numT_ok h1).1
  have b := rwT_len h2
  unfold lnT
  rw [List.length_append, List.length_append]
  show _ + (2 + _) ≤ _
  omega
theorem pcT_len {p : Pic} (h : POk p) : (pcT p).length ≤ 500220 := by
  have := jn_len (y := [59, 32]) (B := 7938) (parts := p.map lnT) fun x hx => by
    obtain ⟨q, hq, rfl⟩ := List.mem_map.mp hx
    exact lnT_len (h.2 q hq).1 (h.2 q hq).2
  rw [List.length_map] at this
  have h1 := h.1
  have : (pcT p).length ≤ p.length * 7940 := this
  omega
theorem lim6 {n : Nat} (h : n ≤ 1000000) : n ≤ LIM := by rw [lim_is]; exact h
theorem strsOf_map (l : List (List Nat)) : strsOf (l.map fun p => D.str (T9 p)) = some (l.map T9) := by
  induction l with
  | nil => rfl
  | cons p l ih =>
    show (strsOf (l.map fun p => D.str (T9 p))).map (fun r => T9 p :: r) = _
    rw [ih]
    rfl
theorem sum_len {B : Nat} : ∀ {l : List (List Nat)}, (∀ p ∈ l, p.length ≤ B) → ((l.map T9).map (·.length)).sum ≤ l.length * B
  | [], _ => Nat.zero_le _
  | p :: l, h => by
    have h1 := h p List.mem_cons_self
    have h2 := sum_len (l := l) fun x hx => h x (List.mem_cons_of_mem _ hx)
    show p.length + ((l.map T9).map (·.length)).sum ≤ (l.length + 1) * B
    rw [Nat.add_mul, Nat.one_mul]
    omega
theorem dJoin_jn {y : List Nat} {l : List (List Nat)} {B : Nat} (hB : ∀ p ∈ l, p.length ≤ B) (h : l.length * B + l.length * y.length ≤ 1000000) : dJoin (.str (T9 y)) (.lst (l.map fun p => D.str (T9 p))) = some (.str (T9 (jn y l))) := by
  have hs := sum_len hB
  show ((strsOf _).bind fun ys => if (ys.map (·.length)).sum + ys.length * (T9 y).length ≤ LIM then some (D.str (Txt.join (T9 y) ys)) else none) = _
  rw [strsOf_map]
  show (if _ then _ else none) = _
  rw [if_pos (lim6 (by rw [List.length_map, t9_len]; omega)), join_jn]
theorem fv_num {n : Int} (h : NOk n) : fvD (.int n) = some (.str (T9 (numT n))) := by
  show (if n.natAbs.log2 < 1920 then some (D.str (Str.ofString (toString n))) else none) = _
  rw [if_pos (log_lt h), numT_is]
theorem strI_num {n : Int} (h : NOk n) : bStrI [.int n] = some (.str (T9 (numT n))) := by
  show (if n.natAbs.log2 < 1920 then some (D.str (Str.ofString (toString n))) else none) = _
  rw [if_pos (log_lt h), numT_is]
theorem fv_str {l : List Nat} (h : l.length ≤ 1000000) : fvD (.str (T9 l)) = some (.str (T9 l)) := by
  show (if (T9 l).length ≤ LIM then some (D.str (T9 l)) else none) = _
  rw [if_pos (show (T9 l).length ≤ LIM from lim6 h)]
theorem js3 {a b c : XE} {ρ : M.Env} {l m n : List Nat} (ha : a ρ = some (.str (T9 l))) (hb : b ρ = some (.str (T9 m))) (hc : c ρ = some (.str (T9 n))) (h : l.length + m.length + n.length ≤ 1000000) : xJs [a, b, c] Str.empty ρ = some (.str (T9 (l ++ (m ++ n)))) := by
  have e : Str.empty = T9 [] := rfl
  have q : ∀ (u v : List Nat), u.length + v.length ≤ 1000000 → (T9 u ++ T9 v).length ≤ LIM := fun u v h => by rw [t9_app, t9_len, List.length_append]; exact lim6 h
  rw [e]
  unfold xJs
  rw [ha]
  show (if (T9 [] ++ T9 l).length ≤ LIM then _ else none) = _
  rw [if_pos (q _ _ (by show 0 + _ ≤ _; omega)), t9_app]
  unfold xJs
  rw [hb]
  show (if (T9 ([] ++ l) ++ T9 m).length ≤ LIM then _ else none) = _
  rw [if_pos (q _ _ (by rw [List.nil_append]; omega)), t9_app]
  unfold xJs
  rw [hc]
  show (if (T9 ([] ++ l ++ m) ++ T9 n).length ≤ LIM then _ else none) = _
  rw [if_pos (q _ _ (by rw [List.nil_append, List.length_append]; omega)), t9_app]
  unfold xJs
  rw [if_pos (lim6 (by rw [t9_len, List.nil_append, List.length_append, List.length_append]; omega)), List.nil_append, List.append_assoc]
theorem lit9 (s : String) : Str.ofString s = T9 (s.toList.map Char.toNat) := t9_eta (PyProof.Rows.signs_ofString s)
theorem lit_dd : Str.ofString ".." = T9 [46, 46] := (lit9 "..").trans (by decide)
theorem lit_cb : Str.ofString ": " = T9 [58, 32] := (lit9 ": ").trans (by decide)
theorem lit_sb : Str.ofString "; " = T9 [59, 32] := (lit9 "; ").trans (by decide)
theorem lit_b : Str.ofString " " = T9 [32] := (lit9 " ").trans (by decide)
theorem show_stretch_is {s : Int × Int} (h1 : NOk s.1) (h2 : NOk s.2) : m_show_stretch [.int s.1, .int s.2] = some (.str (T9 (stT s))) := by
  have a := fv_num h1
  have b := fv_num h2
  have la := (numT_ok h1).1
  have lb := (numT_ok h2).1
  refine fn_rt (n := 2) (ds := [.int s.1, .int s.2]) ?_
  show X_show_stretch [.sh (.int s.1), .sh (.int s.2)] = _
  unfold X_show_stretch stT
  by_cases h : s.1 = s.2
  · rw [if_pos h]
    simp [h] at a ⊢
    simp [a]
  · rw [if_neg h]
    refine (run_seq (ρ' := [.sh (.int s.1), .sh (.int s.2)]) (by simp [h])).trans ?_
    unfold xRet
    rw [js3 (l := numT s.1) (m := [46, 46]) (n := numT s.2) (by simp [a]) (by rw [lit_dd]; rfl) (by simp [b]) (by show _ + 2 + _ ≤ _; omega)]
    rfl
end P
namespace P
open PySem L2 M PySem.NumText Rw
theorem show_row_is {q : Int × R} (h1 : NOk q.1) (h2 : ROk q.2) : m_show_row [.int q.1, rowD q.2] = some (.str (T9 (lnT q))) := by
  have k := compF_map (g := xgTup (xgCons (xgName 0) (xgCons (xgName 1) xgNil))) (e := xCall m_show_stretch (xCons (xVar 0) (xCons (xVar 1) (xNil)))) (ρ0 := [.un, .un]) prD (fun s => D.str (T9 (stT s))) q.2 (fun s hs => by
    have := show_stretch_is (h2.2 s hs).1 (h2.2 s hs).2
    simp [oneF, this])
  have j := dJoin_jn (y := [32]) (l := q.2.map stT) (B := 124) (fun p hp => by
    obtain ⟨s, hs, rfl⟩ := List.mem_map.mp hp
    exact stT_len (h2.2 s hs).1 (h2.2 s hs).2) (by rw [List.length_map]; have := h2.1; show _ + _ * 1 ≤ _; omega)
  rw [List.map_map] at j
  have j : dJoin (.str (T9 [32])) (.lst (q.2.map fun s => D.str (T9 (stT s)))) = some (.str (T9 (rwT q.2))) := j
  have lm := lim6 (n := q.2.length) (by have := h2.1; omega)
  have a := fv_num h1
  have la := (numT_ok h1).1
  have lb := rwT_len h2
  refine fn_rt (n := 3) (ds := [.int q.1, rowD q.2]) ?_
  show X_show_row [.sh (.int q.1), .sh (rowD q.2), .un] = _
  unfold X_show_row
  refine (run_seq (ρ' := [.sh (.int q.1), .sh (rowD q.2), .sh (.str (T9 (rwT q.2)))]) (by rw [lit_b]; simp [k, lm, j])).trans ?_
  have b := fv_str (l := rwT q.2) (by omega)
  unfold xRet
  rw [js3 (l := numT q.1) (m := [58, 32]) (n := rwT q.2) (by simp [a]) (by rw [lit_cb]; rfl) (by simp [b]) (by show _ + 2 + _ ≤ _; omega)]
  rfl
theorem joinP {p : Pic} (h : POk p) : dJoin (.str (T9 [59, 32])) (.lst (p.map fun q => D.str (T9 (lnT q)))) = some (.str (T9 (pcT p))) := by
  have j := dJoin_jn (y := [59, 32]) (l := p.map lnT) (B := 7938) (fun x hx => by
    obtain ⟨q, hq, rfl⟩ := List.mem_map.mp hx
    exact lnT_len (h.2 q hq).1 (h.2 q hq).2) (by rw [List.length_map]; have := h.1; show _ + _ * 2 ≤ _; omega)
  rw [List.map_map] at j
  exact j
theorem okD_picT (p : Pic) : okD 50 (picD p) = true := by
  show okDs 49 (p.map pyD) = true
  refine okDs_map p fun q _ => ?_
  show okDs 48 [.int q.1, rowD q.2] = true
  simp only [okDs, okD, Bool.true_and, Bool.and_true]
  exact okDs_map q.2 fun s _ => by simp [okD, okDs]
theorem dEq_nil (p : Pic) (h : p ≠ []) : dEq false (picD p) (.tup []) = some (.bl false) := by
  unfold dEq
  rw [if_pos ⟨okD_picT p, by simp [okD, okDs]⟩]
  cases p with
  | nil => exact absurd rfl h
  | cons q p => simp [eqD, eqDs]
theorem show_is {p : Pic} (h : POk p) (hn : p ≠ []) : m_show [picD p] = some (.str (T9 (pcT p))) := by
  have k := compF_map (g := xgTup (xgCons (xgName 0) (xgCons (xgName 1) xgNil))) (e := xCall m_show_row (xCons (xVar 0) (xCons (xVar 1) (xNil)))) (ρ0 := [.un, .un]) pyD (fun q => D.str (T9 (lnT q))) p (fun q hq => by
    have := show_row_is (h.2 q hq).1 (h.2 q hq).2
    simp [oneF, this])
  have lm := lim6 (n := p.length) (by have := h.1; omega)
  have lm0 := lim6 (n := 0) (by omega)
  have j := joinP h
  have e := dEq_nil p hn
  refine fn_rt (n := 1) (ds := [picD p]) ?_
  show X_show [.sh (picD p)] = _
  unfold X_show
  refine (run_seq (ρ' := [.sh (picD p)]) (by simp [e, lm0])).trans ?_
  rw [lit_sb]
  simp [k, lm, j]
theorem addS {a b : List Nat} (h : a.length + b.length ≤ 1000000) : dAdd (.str (T9 a)) (.str (T9 b)) = some (.str (T9 (a ++ b))) := by
  show (if (T9 a).length + (T9 b).length ≤ LIM then some (D.str (T9 a ++ T9 b)) else none) = _
  rw [t9_len, t9_len, if_pos (lim6 h), t9_app]
theorem dd_free (s : Int × Int) : Txt.split (T9 (stT s)) (T9 [46, 46]) = if s.1 = s.2 then [T9 (numT s.1)] else [T9 (numT s.1), T9 (numT s.2)] := by
  have f : ∀ n : Int, 46 ∉ numT n := fun n h => by rcases numT_mem n _ h with h | h <;> omega
  unfold stT
  split
  · exact split_jn 46 [46] (by decide) [numT s.1] (by simp) (fun p hp => by rw [List.mem_singleton] at hp; subst hp; exact f _)
  · exact split_jn 46 [46] (by decide) [numT s.1, numT s.2] (by simp) (fun p hp => by
      simp only [List.mem_cons, List.not_mem_nil, or_false] at hp
      rcases hp with rfl | rfl <;> exact f _)
theorem dSplit_is {a y : List Nat} (hy : y.length ≠ 0) (h : a.length ≤ 900000) : dSplit (.str (T9 a)) (.str (T9 y)) = some (.lst ((Txt.split (T9 a) (T9 y)).map D.str)) := by
  show (if (T9 y).length ≠ 0 ∧ (T9 a).length + 2 ≤ LIM then _ else none) = _
  rw [if_pos ⟨hy, lim6 (by rw [t9_len]; omega)⟩]
theorem read_stretch_is (y : Int) {s : Int × Int} (h1 : NOk s.1) (h2 : NOk s.2) : m_read_stretch [.int y, .str (T9 (stT s))] = some (triD (y, s.1, s.2)) := by
  have d := dSplit_is (a := stT s) (y := [46, 46]) (by decide) (by have := stT_len h1 h2; omega)
  rw [dd_free] at d
  have a := read_num h1
  have b := read_num h2
  have lm3 := lim6 (n := 3) (by omega)
  refine fn_rt (n := 3) (ds := [.int y, .str (T9 (stT s))]) ?_
  show X_read_stretch [.sh (.int y), .sh (.str (T9 (stT s))), .un] = _
  unfold X_read_stretch
  rw [lit_dd]
  by_cases h : s.1 = s.2
  · rw [if_pos h] at d
    have i0 : atI [D.str (T9 (numT s.1))] 0 = some (.str (T9 (numT s.1))) := atI_of (j := 0) rfl
    have i1 : atI [D.str (T9 (numT s.1))] (-1) = some (.str (T9 (numT s.1))) := rfl
    rw [h] at i0 i1 a d
    simp [d, i0, i1, a, h, lm3]
  · rw [if_neg h] at d
    have i0 : atI [D.str (T9 (numT s.1)), D.str (T9 (numT s.2))] 0 = some (.str (T9 (numT s.1))) := atI_of (j := 0) rfl
    have i1 : atI [D.str (T9 (numT s.1)), D.str (T9 (numT s.2))] (-1) = some (.str (T9 (numT s.2))) := rfl
    simp [d, i0, i1, a, b, lm3]
end P
namespace P
open PySem L2 M PySem.NumText Rw
theorem strOf_append (p q : Pic) : strOf (p ++ q) = strOf p ++ strOf q := by unfold strOf; rw [List.flatMap_append]
noncomputable abbrev partD3 (q : Int × R) : D := .tup [.str (T9 (numT q.1)), .str (T9 [58, 32]), .str (T9 (rwT q.2))]
theorem split_pic {p : Pic} (hn : p ≠ []) : (Txt.split (T9 (pcT p)) (T9 [59, 32])).map D.str = p.map fun q => D.str (T9 (lnT q)) := by
  have := split_jn 59 [32] (by decide) (p.map lnT) (by simpa using hn) (fun x hx => by
    obtain ⟨q, _, rfl⟩ := List.mem_map.mp hx
    intro h
    rcases lnT_mem q _ h with h | h | h | h | h <;> omega)
  have this : Txt.split (T9 (pcT p)) (T9 [59, 32]) = (p.map lnT).map T9 := this
  rw [this, List.map_map, List.map_map]
  rfl
theorem split_row {r : R} (hn : r ≠ []) : (Txt.split (T9 (rwT r)) (T9 [32])).map D.str = r.map fun s => D.str (T9 (stT s)) := by
  have := split_jn 32 [] (by decide) (r.map stT) (by simpa using hn) (fun x hx => by
    obtain ⟨q, _, rfl⟩ := List.mem_map.mp hx
    intro h
    rcases stT_mem q _ h with h | h | h <;> omega)
  have this : Txt.split (T9 (rwT r)) (T9 [32]) = (r.map stT).map T9 := this
  rw [this, List.map_map, List.map_map]
  rfl
theorem part_line {q : Int × R} (h1 : NOk q.1) (h2 : ROk q.2) : dPart (.str (T9 (lnT q))) (.str (T9 [58, 32])) = some (partD3 q) := by
  have e := part_jn 58 [32] (numT q.1) (rwT q.2) (fun h => by rcases numT_mem _ _ h with h | h <;> omega)
  have l := lnT_len h1 h2
  show (if (T9 [58, 32]).length ≠ 0 ∧ (T9 (lnT q)).length ≤ LIM then some (D.tup [.str (Txt.partition (T9 (lnT q)) (T9 [58, 32])).1, .str (Txt.partition (T9 (lnT q)) (T9 [58, 32])).2.1, .str (Txt.partition (T9 (lnT q)) (T9 [58, 32])).2.2]) else none) = _
  rw [if_pos ⟨by decide, lim6 (by rw [t9_len]; omega)⟩]
  have e : Txt.partition (T9 (lnT q)) (T9 [58, 32]) = (T9 (numT q.1), T9 [58, 32], T9 (rwT q.2)) := e
  rw [e]
theorem read_stretches_is {p : Pic} (h : POk p) (hn : p ≠ []) (hr : ∀ q ∈ p, q.2 ≠ []) (hs : (strOf p).length ≤ 63) : m_read_stretches [.str (T9 (pcT p))] = some (.lst ((strOf p).map triD)) := by
  have d := dSplit_is (a := pcT p) (y := [59, 32]) (by decide) (by have := pcT_len h; omega)
  rw [split_pic hn] at d
  have lp := lim6 (n := p.length) (by have := h.1; omega)
  have k := compF_map (g := xgName 0) (e := xOp dPart (xVarP 0) (xC (.str (T9 [58, 32])))) (ρ0 := [.un]) (fun q => D.str (T9 (lnT q))) partD3 p (fun q hq => by
    have := part_line (h.2 q hq).1 (h.2 q hq).2
    simp [oneF, this])
  obtain ⟨ρ', k1, v2, v3, v4, v5, rfl⟩ := loopF_inv (g := xgTup (xgCons (xgName 2) (xgCons (xgName 3) (xgCons (xgName 4) xgNil)))) (m := B_read_stretches_0) partD3 (fun pre ρ => ∃ v2 v3 v4 v5, ρ = [.sh (.str (T9 (pcT p))), .ow (.lst ((strOf pre).map (O.sh ∘ triD))), v2, v3, v4, v5]) p [.sh (.str (T9 (pcT p))), .ow (.lst []), .un, .un, .un, .un] ⟨_, _, _, _, rfl⟩ (by
    rintro pre q post _ e ⟨v2, v3, v4, v5, rfl⟩
    have hq : q ∈ p := by rw [e]; simp
    have h1 := (h.2 q hq).1
    have h2 := (h.2 q hq).2
    have hlen : (strOf pre).length + q.2.length ≤ 63 := by
      rw [e, strOf_append, strOf_cons, List.length_append, List.length_append, List.length_map] at hs
      omega
    have hl : (strOf pre).length + q.2.length ≤ LIM := lim6 (by omega)
    have hl2 : q.2.length ≤ LIM := lim6 (by omega)
    have a := read_num h1
    have ds := dSplit_is (a := rwT q.2) (y := [32]) (by decide) (by have := rwT_len h2; omega)
    rw [split_row (hr q hq)] at ds
    have hc : compF (xgName 0) xYes (xCall m_read_stretch (xCons (xVar 1) (xCons (xVar 0) xNil))) [.un, .sh (.int q.1)] (q.2.map fun s => D.str (T9 (stT s))) = some (q.2.map fun s => triD (q.1, s)) := compF_map (fun s => D.str (T9 (stT s))) _ q.2 fun s hs => by
      have := read_stretch_is q.1 (h2.2 s hs).1 (h2.2 s hs).2
      simp [oneF, this]
    refine ⟨_, [.sh (.str (T9 (pcT p))), .ow (.lst ((strOf (pre ++ [q])).map (O.sh ∘ triD))), .sh (.str (T9 (numT q.1))), .sh (.str (T9 [58, 32])), .sh (.str (T9 (rwT q.2))), .sh (.int q.1)], rfl, .inl ?_, _, _, _, _, rfl⟩
    have es : strOf (pre ++ [q]) = strOf pre ++ q.2.map fun s => (q.1, s) := by rw [strOf_append, strOf_cons]; simp [strOf]
    rw [es]
    unfold B_read_stretches_0
    rw [lit_b]
    simp [a, ds, hl, hl2, hc])
  have e0 : mo_read_stretches [.str (T9 (pcT p))] = some (.lst ((strOf p).map (O.sh ∘ triD))) := by
    unfold mo_read_stretches X_read_stretches
    rw [lit_sb, lit_cb]
    simp [fnO, d, k, lp, k1]
  unfold m_read_stretches
  rw [e0]
  simp
theorem pcT_small (p : Pic) : ∀ c ∈ pcT p, c < 60 := by
  intro c hc
  rcases jn_mem hc with h | ⟨x, hx, h⟩
  · simp at h
    omega
  · obtain ⟨q, _, rfl⟩ := List.mem_map.mp hx
    rcases lnT_mem q _ h with h | h | h | h | h <;> omega
theorem lit_no : Str.ofString "nothing" = T9 [110, 111, 116, 104, 105, 110, 103] := (lit9 "nothing").trans (by decide)
theorem okN : PyData.strOk (T9 [110, 111, 116, 104, 105, 110, 103]) = true := okS (by decide)
theorem okP (p : Pic) : PyData.strOk (T9 (pcT p)) = true := okS fun c hc => by have := pcT_small p c hc; omega
theorem dNe_str {a b : Str} (ha : PyData.strOk a = true) (hb : PyData.strOk b = true) : dEq true (.str a) (.str b) = some (.bl (!decide (a = b))) := by
  unfold dEq
  rw [if_pos ⟨by simp [okD, ha], by simp [okD, hb]⟩]
  simp only [eqD]
  by_cases h : a = b <;> simp [h]
theorem read_is {p : Pic} (c : PCanon p) (h : POk p) (hn : p ≠ []) (hs : (strOf p).length ≤ 63) : m_read [.str (T9 (pcT p))] = some (picD p) := by
  have hr : ∀ q ∈ p, q.2 ≠ [] := fun q hq => (c.1 q hq).2
  have a := read_stretches_is h hn hr hs
  have b := m_picture_of_is (strOf p) (by omega)
  rw [picOf_str c] at b
  have e := show_is h hn
  have ne : ¬ T9 (pcT p) = T9 [110, 111, 116, 104, 105, 110, 103] := by
    intro z
    have z := t9_inj z
    have := pcT_small p 110 (by rw [z]; exact List.mem_cons_self)
    omega
  have q1 : dEq false (.str (T9 (pcT p))) (.str (T9 [110, 111, 116, 104, 105, 110, 103])) = some (.bl false) := by rw [dEq_str (okP p) okN, decide_eq_false ne]
  have q2 : dEq true (.str (T9 (pcT p))) (.str (T9 (pcT p))) = some (.bl false) := by rw [dNe_str (okP p) (okP p), decide_eq_true rfl]; rfl
  refine fn_rt (n := 2) (ds := [.str (T9 (pcT p))]) ?_
  show X_read [.sh (.str (T9 (pcT p))), .un] = _
  unfold X_read
  rw [lit_no]
  simp [isi_str, q1, q2, a, b, e]
theorem show_nothing : m_show [.tup []] = some (.str (Str.ofString "nothing")) := by
  have q := dEq_self false (d := .tup []) (by simp [okD, okDs])
  have lm0 := lim6 (n := 0) (by omega)
  simp at q
  simp [m_show, mo_show, fnO, X_show, q, lm0]
end P
namespace P
open PySem L2 M PySem.NumText
theorem rx_text {l : List Nat} (hw : m_writes_whole [.str (T9 l)] = some (.bl false)) : rX_read_whole [.str (T9 l)] = some (("NoText" : Str)) := by
  simp [rX_read_whole, fnX, Y_read_whole, isi_str, hw]
theorem eqDs_bls : ∀ (a b : List Bool), eqDs (a.map D.bl) (b.map D.bl) = decide (a = b)
  | [], [] => by simp [eqDs]
  | [], _ :: _ => by simp [eqDs]
  | _ :: _, [] => by simp [eqDs]
  | x :: a, y :: b => by
    rw [List.map_cons, List.map_cons, eqDs, eqDs_bls a b]
    cases x <;> cases y <;> simp [eqD]
theorem okDs_bls : ∀ (n : Nat) (a : List Bool), okDs n (a.map D.bl) = true
  | n, [] => by simp [okDs]
  | n, b :: a => by rw [List.map_cons, okDs, okDs_bls n a]; simp [okD]
theorem dEq_bls (a b : List Bool) : dEq false (.lst (a.map D.bl)) (.lst (b.map D.bl)) = some (.bl (decide (a = b))) := by
  unfold dEq
  rw [if_pos ⟨by rw [okD]; exact okDs_bls _ a, by rw [okD]; exact okDs_bls _ b⟩]
  simp only [eqD, eqDs_bls]
  rfl
noncomputable abbrev ansB : List Bool := [true, true, false, false, false, false, false, false]
theorem looks1 (l : List (List (Str × Bool))) (bs : List Bool) (h : lookN "NoText" l = some bs) (hb : bs.length ≤ 1000) (ρ : M.Env) (r : List (Nat × List (List (Str × Bool)))) : hSets 2 "NoText" ((1, l) :: r) ρ = hSets 2 "NoText" r (ρ.set 1 (.sh (.lst (bs.map .bl)))) := by
  rw [hSets, if_neg (show ¬ (1 : Nat) = 2 by decide), h]
  show (if bs.length ≤ 1000 then _ else none) = _
  rw [if_pos hb]
theorem refused_ok (d : D) (h : rX_read [d] = some (("NoText" : Str))) : m__law_refused [d] = some (.bl true) := by
  have l1 : lookN "NoText" [ax_ValueError, ax_NoText, ax_NoRow, ax_NoForm, ax_NoName, ax_NoBack, ax_TooGreat, ax_TooMany] = some ansB := by first | rfl | decide +kernel
  have d1 := dEq_bls ansB ansB
  have hc : xNs.contains "NoText" = true := by first | rfl | decide +kernel
  have ht : xTry xNs 2 (xrE (xeCall rX_read (xCons (xVar 0) xNil))) [(1, [ax_ValueError, ax_NoText, ax_NoRow, ax_NoForm, ax_NoName, ax_NoBack, ax_TooGreat, ax_TooMany])] [.sh d, .sh .non, .un] = some (.nx [.un, .sh (.lst (ansB.map .bl)), .un]) := by
    have hm : xrE (xeCall rX_read (xCons (xVar 0) xNil)) [.sh d, .sh .non, .un] = some (.rz "NoText") := by
      simp [h]
    unfold xTry
    rw [if_pos (by simp), hm]
    show (if xNs.contains "NoText" then _ else none) = _
    rw [if_pos hc, looks1 _ _ l1 (by decide)]
    rfl
  have e0 : X__law_refused [.sh d, .un, .un] = some (.rt (.bl true)) := by
    unfold X__law_refused
    refine (run_seq (ρ' := [.sh d, .sh .non, .un]) (by simp)).trans ?_
    refine (run_seq ht).trans ?_
    simp at d1
    have lm := lim_of (n := 8) (by decide)
    simp [d1, lm]
  exact fn_rt (n := 3) (ds := [d]) e0
end P
namespace P
open PySem L2 M PySem.NumText StrLaws Rw
noncomputable def zeros : List Nat := List.replicate 60 48
noncomputable abbrev Bad (l : List Nat) : Prop := m_writes_whole [.str (T9 l)] = some (.bl false)
theorem bad_sign {l : List Nat} (c : Nat) (hl : l.length ≤ 1000) (ho : ∀ c ∈ l, c < 1114112) (hc : c ∈ l) (h1 : c ≠ 45) (h2 : fig c = false) : Bad l := by
  refine ww_bad l hl ho ⟨c, ?_, h2⟩
  unfold figs
  split
  · rcases List.mem_cons.mp hc with e | e
    · exact absurd e h1
    · exact e
  · exact hc
theorem bad_nil : Bad [] := ww_len [] (by decide) (by decide) (.inl rfl)
theorem rx_good {n : Int} (h : NOk n) : rX_read_whole [.str (T9 (numT n))] = none := by
  have hw := (numT_ok h).2.1
  simp [rX_read_whole, fnX, Y_read_whole, isi_str, hw]
theorem rs_of {w : List Nat} {ps : List (List Nat)} (y : Int) (hl : w.length ≤ 1000) (hs : Txt.split (T9 w) (T9 [46, 46]) = ps.map T9) : dSplit (.str (T9 w)) (.str (T9 [46, 46])) = some (.lst (ps.map fun p => D.str (T9 p))) := by
  rw [dSplit_is (by decide) (by omega), hs, List.map_map]
  rfl
theorem bw_first {w f : List Nat} {ps : List (List Nat)} (y : Int) (hl : w.length ≤ 1000) (hs : Txt.split (T9 w) (T9 [46, 46]) = (f :: ps).map T9) (hf : Bad f) : rX_read_stretch [.int y, .str (T9 w)] = some ("NoText" : Str) := by
  have d := rs_of y hl hs
  have r := rx_text hf
  have i0 : atI ((f :: ps).map fun p => D.str (T9 p)) 0 = some (.str (T9 f)) := atI_of (j := 0) rfl
  simp only [List.map_cons] at d i0
  unfold rX_read_stretch Y_read_stretch
  rw [lit_dd]
  simp [fnX, d, i0, r]
theorem bw_last {w g : List Nat} {n : Int} {ps : List (List Nat)} (y : Int) (hl : w.length ≤ 1000) (hs : Txt.split (T9 w) (T9 [46, 46]) = (numT n :: ps).map T9) (hn : NOk n) (hg : atI ((numT n :: ps).map fun p => D.str (T9 p)) (-1) = some (.str (T9 g))) (hb : Bad g) : rX_read_stretch [.int y, .str (T9 w)] = some ("NoText" : Str) := by
  have d := rs_of y hl hs
  have r := rx_text hb
  have q := rx_good hn
  have q2 := read_num hn
  have i0 : atI ((numT n :: ps).map fun p => D.str (T9 p)) 0 = some (.str (T9 (numT n))) := atI_of (j := 0) rfl
  simp only [List.map_cons] at d i0 hg
  unfold rX_read_stretch Y_read_stretch
  rw [lit_dd]
  simp [fnX, d, i0, r, q, q2, hg]
theorem bw_plain {w : List Nat} (y : Int) (hl : w.length ≤ 1000) (h : 46 ∉ w) (hb : Bad w) : rX_read_stretch [.int y, .str (T9 w)] = some ("NoText" : Str) :=
  bw_first (f := w) (ps := []) y hl (split_jn2 46 46 (by decide) (by decide) [w] (never h)) hb
structure GW (y : Int) (w : List Nat) (s : Int × Int) : Prop where
  no : rX_read_stretch [.int y, .str (T9 w)] = none
  yes : m_read_stretch [.int y, .str (T9 w)] = some (triD (y, s))
  ok : 32 ∉ w
  sm : w.length ≤ 300
theorem gw_of {w : List Nat} {n m : Int} {ps : List (List Nat)} (y : Int) (hl : w.length ≤ 300) (h32 : 32 ∉ w) (hs : Txt.split (T9 w) (T9 [46, 46]) = (numT n :: ps).map T9) (hn : NOk n) (hm : NOk m) (hg : atI ((numT n :: ps).map fun p => D.str (T9 p)) (-1) = some (.str (T9 (numT m)))) : GW y w (n, m) := by
  have d := rs_of y (by omega) hs
  have q := rx_good hn
  have q2 := read_num hn
  have r := rx_good hm
  have r2 := read_num hm
  have lm3 := lim6 (n := 3) (by omega)
  have i0 : atI ((numT n :: ps).map fun p => D.str (T9 p)) 0 = some (.str (T9 (numT n))) := atI_of (j := 0) rfl
  simp only [List.map_cons] at d i0 hg
  refine ⟨?_, ?_, h32, hl⟩
  · unfold rX_read_stretch Y_read_stretch
    rw [lit_dd]
    simp [fnX, d, i0, q, q2, hg, r]
  · refine fn_rt (n := 3) (ds := [.int y, .str (T9 w)]) ?_
    show X_read_stretch [.sh (.int y), .sh (.str (T9 w)), .un] = _
    unfold X_read_stretch
    rw [lit_dd]
    simp [d, i0, q2, hg, r2, lm3]
theorem num_no (n : Int) {c : Nat} (h1 : c ≠ 45) (h2 : c < 48 ∨ 57 < c) : c ∉ numT n := fun h => by rcases numT_mem n c h with h | h <;> omega
theorem num_ne' (n : Int) (h : NOk n) : numT n ≠ [] := fun e => by
  have := (numT_ok h).2.1
  rw [e, bad_nil] at this
  cases this
theorem gw_one (y : Int) {n : Int} (h : NOk n) : GW y (numT n) (n, n) :=
  gw_of (ps := []) y (by have := (numT_ok h).1; omega) (num_no n (by decide) (by decide)) (split_jn2 46 46 (by decide) (by decide) [numT n] (never (num_no n (by decide) (by decide)))) h h rfl
theorem gw_two (y : Int) {n m : Int} (h : NOk n) (k : NOk m) : GW y (numT n ++ ([46, 46] ++ numT m)) (n, m) := by
  have a := (numT_ok h).1
  have b := (numT_ok k).1
  refine gw_of (ps := [numT m]) y (by simp; omega) ?_ (split_jn2 46 46 (by decide) (by decide) [numT n, numT m] ⟨num_no n (by decide) (by decide), never (num_no m (by decide) (by decide))⟩) h k rfl
  simp only [List.mem_append, not_or]
  exact ⟨num_no n (by decide) (by decide), by decide, num_no m (by decide) (by decide)⟩
theorem gw_three (y : Int) {n o m : Int} (h : NOk n) (l : NOk o) (k : NOk m) : GW y (numT n ++ ([46, 46] ++ (numT o ++ ([46, 46] ++ numT m)))) (n, m) := by
  have a := (numT_ok h).1
  have b := (numT_ok k).1
  have c := (numT_ok l).1
  refine gw_of (ps := [numT o, numT m]) y (by simp; omega) ?_ (split_jn2 46 46 (by decide) (by decide) [numT n, numT o, numT m] ⟨num_no n (by decide) (by decide), num_no o (by decide) (by decide), never (num_no m (by decide) (by decide))⟩) h k rfl
  simp only [List.mem_append, not_or]
  exact ⟨num_no n (by decide) (by decide), by decide, num_no o (by decide) (by decide), by decide, num_no m (by decide) (by decide)⟩
end P
namespace P
open PySem L2 M PySem.NumText
theorem all_app {a b : List Nat} (ha : AllDigits a) (hb : AllDigits b) : AllDigits (a ++ b) := fun c hc => (List.mem_append.mp hc).elim (ha c) (hb c)
theorem d0 : AllDigits [48] := fun c hc => by rw [List.mem_singleton] at hc; omega
theorem zeros_dig : AllDigits zeros := fun c hc => by
  have := List.eq_of_mem_replicate hc
  omega
theorem zeros_len : zeros.length = 60 := List.length_replicate
theorem zero_ahead {f : List Nat} {m : Nat} (e : f = numL m) (hl : f.length ≤ 60) : m_writes_whole [.str (T9 (48 :: f))] = some (.bl false) := by
  subst e
  have hd : AllDigits (48 :: numL m) := all_app d0 (num_digits m)
  have fg := figs_pos (dig_neg hd)
  by_cases h1 : 60 < (48 :: numL m).length
  · exact ww_len _ (by rw [List.length_cons]; omega) (dig_small hd) (.inr (by rw [fg]; exact h1))
  · have it : PySem.intText? (T9 (48 :: numL m)) = some (m : Int) := by
      have := intText_digits (x := T9 (48 :: numL m)) hd (by rw [t9_list]; exact fun z => by cases z) (by rw [t9_len]; omega)
      rw [t9_list, digitsVal_zero, num_val] at this
      exact this
    have hm : m < 10 ^ 60 := by
      have h2 := val_lt _ (numL m) rfl (num_digits m)
      rw [num_val] at h2
      exact Nat.lt_of_lt_of_le h2 (Nat.pow_le_pow_right (by decide) hl)
    have := ww_dig (48 :: numL m) (by omega) (dig_small hd) (by rw [fg]; exact fun z => by cases z) (by rw [fg]; omega) (by rw [fg]; exact hd) it (log_lt hm) (str_nat m) (dig_small (num_digits m))
    rw [this, decide_eq_false]
    intro z
    have := congrArg List.length z
    rw [List.length_cons] at this
    omega
end P
namespace P
open PySem L2 M PySem.NumText StrLaws Rw
noncomputable abbrev prt (p : List Nat) : D := .tup [.str (Txt.partition (T9 p) (T9 [58, 32])).1, .str (Txt.partition (T9 p) (T9 [58, 32])).2.1, .str (Txt.partition (T9 p) (T9 [58, 32])).2.2]
theorem dPart_is {p : List Nat} (h : p.length ≤ 900000) : dPart (.str (T9 p)) (.str (T9 [58, 32])) = some (prt p) := by
  show (if (T9 [58, 32]).length ≠ 0 ∧ (T9 p).length ≤ LIM then some _ else none) = _
  rw [if_pos ⟨by decide, lim6 (by rw [t9_len]; omega)⟩]
noncomputable abbrev cX : XE := xCall m_read_stretch (xCons (xVar 1) (xCons (xVar 0) (xNil)))
noncomputable abbrev cN : M.Env → Option Str := xeCall rX_read_stretch (xCons (xVar 1) (xCons (xVar 0) (xNil)))
inductive GWs (y : Int) : List (List Nat) → List (Int × Int) → Prop
  | nil : GWs y [] []
  | cons {w : List Nat} {s : Int × Int} {ws : List (List Nat)} {ss : List (Int × Int)} (h : GW y w s) (hs : GWs y ws ss) : GWs y (w :: ws) (s :: ss)
theorem GWs.len {y : Int} {ws : List (List Nat)} {ss : List (Int × Int)} (h : GWs y ws ss) : ss.length = ws.length := by
  induction h with
  | nil => rfl
  | cons _ _ ih => rw [List.length_cons, List.length_cons, ih]
theorem GWs.mem {y : Int} {ws : List (List Nat)} {ss : List (Int × Int)} (h : GWs y ws ss) : ∀ v ∈ ws, ∃ s, GW y v s := by
  induction h with
  | nil => intro v hv; cases hv
  | cons a b ih =>
    intro v hv
    rcases List.mem_cons.mp hv with rfl | hv
    · exact ⟨_, a⟩
    · exact ih v hv
theorem lX_rz {g : XG} {m : XR} {d : D} {l : List D} {ρ ρ1 : M.Env} {N : Str} (h : g d ρ = some ρ1) (k : m ρ1 = some (.rz N)) : loopX g m (d :: l) ρ = some (.rz N) := by
  rw [loopX, h]
  show (m ρ1).bind _ = _
  rw [k]
  rfl
theorem lX_nx {g : XG} {m : XR} {d : D} {l : List D} {ρ ρ1 ρ2 : M.Env} (h : g d ρ = some ρ1) (k : m ρ1 = some (.nx ρ2)) : loopX g m (d :: l) ρ = loopX g m l ρ2 := by
  rw [loopX, h]
  show (m ρ1).bind _ = _
  rw [k]
  rfl
theorem lF_nx {g : XG} {m : XS} {d : D} {l : List D} {ρ ρ1 ρ2 : M.Env} (h : g d ρ = some ρ1) (k : m ρ1 = some (.nx ρ2)) : loopF g m (d :: l) ρ = loopF g m l ρ2 := by
  rw [loopF, h]
  simp only [Option.bind]
  rw [k]
theorem words_bad (y : Int) {w : List Nat} (hw : rX_read_stretch [.int y, .str (T9 w)] = some ("NoText" : Str)) (post : List D) : ∀ (ws : List (List Nat)) (ss : List (Int × Int)), GWs y ws ss →
    compX (xgName 0) xYes cX cN [.un, .sh (.int y)] ((ws.map fun w => D.str (T9 w)) ++ D.str (T9 w) :: post) = some ("NoText" : Str)
  | _, _, .nil => by simp [compX, hw]
  | _, _, .cons h hs => by
    have ih := words_bad y hw post _ _ hs
    simp [compX, h.no, h.yes]
    simpa using ih
theorem words_good (y : Int) : ∀ (ws : List (List Nat)) (ss : List (Int × Int)), GWs y ws ss →
    compX (xgName 0) xYes cX cN [.un, .sh (.int y)] (ws.map fun w => D.str (T9 w)) = none ∧ compF (xgName 0) xYes cX [.un, .sh (.int y)] (ws.map fun w => D.str (T9 w)) = some (ss.map fun s => triD (y, s))
  | _, _, .nil => by simp [compX, compF]
  | _, _, .cons h hs => by
    obtain ⟨i1, i2⟩ := words_good y _ _ hs
    constructor
    · simp [compX, h.no, h.yes]
      simpa using i1
    · simp [compF, h.yes, i2]
noncomputable abbrev gT : XG := xgTup (xgCons (xgName 2) (xgCons (xgName 3) (xgCons (xgName 4) xgNil)))
noncomputable def BL (p : List Nat) : Prop := ∀ (t : Sl) (os : List O) (v2 v3 v4 v5 : Sl), ∃ ρ, gT (prt p) [t, .ow (.lst os), v2, v3, v4, v5] = some ρ ∧ BY_read_stretches_0 ρ = some (.rz "NoText")
noncomputable def GL (p : List Nat) (L : List Tri) : Prop := ∀ (t : Sl) (os : List O) (v2 v3 v4 v5 : Sl), os.length ≤ 100 → ∃ ρ w2 w3 w4 w5, gT (prt p) [t, .ow (.lst os), v2, v3, v4, v5] = some ρ ∧ BY_read_stretches_0 ρ = some (.nx [t, .ow (.lst (os ++ L.map (O.sh ∘ triD))), w2, w3, w4, w5]) ∧
  B_read_stretches_0 ρ = some (.nx [t, .ow (.lst (os ++ L.map (O.sh ∘ triD))), w2, w3, w4, w5])
theorem bl_head {p h : List Nat} (hp : (Txt.partition (T9 p) (T9 [58, 32])).1 = T9 h) (hb : Bad h) : BL p := fun t os v2 v3 v4 v5 => by
  have r := rx_text hb
  refine ⟨_, rfl, ?_⟩
  unfold BY_read_stretches_0
  simp [hp, r]
theorem part_at {h q : List Nat} (hh : 58 ∉ h) : Txt.partition (T9 (h ++ ([58, 32] ++ q))) (T9 [58, 32]) = (T9 h, T9 [58, 32], T9 q) := part_jn 58 [32] h q hh
theorem bl_word {y : Int} {p : List Nat} {c : Str} {ws vs : List (List Nat)} {ss : List (Int × Int)} {w : List Nat} (hy : NOk y) (hp : Txt.partition (T9 p) (T9 [58, 32]) = (T9 (numT y), c, T9 (jn [32] (ws ++ w :: vs)))) (hl : (jn [32] (ws ++ w :: vs)).length ≤ 2000) (hn : (ws ++ w :: vs).length ≤ 100) (hws : GWs y ws ss)
    (h32 : 32 ∉ w) (hvs : ∀ v ∈ vs, 32 ∉ v) (hb : rX_read_stretch [.int y, .str (T9 w)] = some ("NoText" : Str)) : BL p := fun t os v2 v3 v4 v5 => by
  have q := rx_good hy
  have q2 := read_num hy
  have all : ∀ v ∈ ws ++ w :: vs, 32 ∉ v := fun v hv => by
    rcases List.mem_append.mp hv with hv | hv
    · obtain ⟨s, hs⟩ := hws.mem v hv
      exact hs.ok
    · rcases List.mem_cons.mp hv with rfl | hv
      · exact h32
      · exact hvs v hv
  have hpp : prt p = .tup [.str (T9 (numT y)), .str c, .str (T9 (jn [32] (ws ++ w :: vs)))] := by unfold prt; rw [hp]
  have sp := split_jn 32 [] (by decide) (ws ++ w :: vs) (by simp) all
  have d := dSplit_is (a := jn [32] (ws ++ w :: vs)) (y := [32]) (by decide) (by omega)
  have sp : Txt.split (T9 (jn [32] (ws ++ w :: vs))) (T9 [32]) = (ws ++ w :: vs).map T9 := sp
  rw [sp, List.map_map] at d
  have k := words_bad y hb (vs.map fun w => D.str (T9 w)) ws ss hws
  have e : (ws ++ w :: vs).map (D.str ∘ T9) = (ws.map fun w => D.str (T9 w)) ++ D.str (T9 w) :: (vs.map fun w => D.str (T9 w)) := by
    rw [List.map_append, List.map_cons]
    rfl
  rw [e] at d
  have lm := lim6 (n := (ws ++ w :: vs).length) (by omega)
  have lm : ((ws.map fun w => D.str (T9 w)) ++ D.str (T9 w) :: (vs.map fun w => D.str (T9 w))).length ≤ LIM := by rw [← e, List.length_map]; exact lm
  refine ⟨[t, .ow (.lst os), .sh (.str (T9 (numT y))), .sh (.str c), .sh (.str (T9 (jn [32] (ws ++ w :: vs)))), v5], by rw [hpp]; rfl, ?_⟩
  unfold BY_read_stretches_0
  rw [lit_b]
  generalize jn [32] (ws ++ w :: vs) = tl at d ⊢
  generalize ((ws.map fun w => D.str (T9 w)) ++ D.str (T9 w) :: (vs.map fun w => D.str (T9 w))) = dl at d k lm
  simp [q, q2, d, lm, k]
theorem gl_line {y : Int} {ws : List (List Nat)} {ss : List (Int × Int)} (hy : NOk y) (hne : ws ≠ []) (hn : ws.length ≤ 10) (hws : GWs y ws ss) : GL (numT y ++ ([58, 32] ++ jn [32] ws)) (ss.map fun s => (y, s)) := fun t os v2 v3 v4 v5 ho => by
  have q := rx_good hy
  have q2 := read_num hy
  have hp := part_at (h := numT y) (q := jn [32] ws) (num_no y (by decide) (by decide))
  have all : ∀ v ∈ ws, 32 ∉ v ∧ v.length ≤ 300 := fun v hv => by
    obtain ⟨s, hs⟩ := hws.mem v hv
    exact ⟨hs.ok, hs.sm⟩
  have jl := jn_len (y := [32]) (B := 300) (parts := ws) fun v hv => (all v hv).2
  have jl : (jn [32] ws).length ≤ ws.length * 301 := jl
  have hpp : prt (numT y ++ ([58, 32] ++ jn [32] ws)) = .tup [.str (T9 (numT y)), .str (T9 [58, 32]), .str (T9 (jn [32] ws))] := by unfold prt; rw [hp]
  have sp := split_jn 32 [] (by decide) ws hne fun v hv => (all v hv).1
  have d := dSplit_is (a := jn [32] ws) (y := [32]) (by decide) (by omega)
  have sp : Txt.split (T9 (jn [32] ws)) (T9 [32]) = ws.map T9 := sp
  rw [sp, List.map_map] at d
  obtain ⟨k1, k2⟩ := words_good y ws ss hws
  have lw : ws.length ≤ LIM := lim6 (by omega)
  have ls : ss.length = ws.length := hws.len
  have lo : os.length + ss.length ≤ LIM := lim6 (by omega)
  have e : ws.map (D.str ∘ T9) = ws.map fun w => D.str (T9 w) := rfl
  rw [e] at d
  have lm : (ws.map fun w => D.str (T9 w)).length ≤ LIM := by rw [List.length_map]; exact lw
  refine ⟨[t, .ow (.lst os), .sh (.str (T9 (numT y))), .sh (.str (T9 [58, 32])), .sh (.str (T9 (jn [32] ws))), v5], .sh (.str (T9 (numT y))), .sh (.str (T9 [58, 32])), .sh (.str (T9 (jn [32] ws))), .sh (.int y), by rw [hpp]; rfl, ?_, ?_⟩
  · unfold BY_read_stretches_0
    rw [lit_b]
    generalize jn [32] ws = tl at d ⊢
    generalize (ws.map fun w => D.str (T9 w)) = dl at d k1 k2 lm
    simp [q, q2, d, lm, k1, k2, lo, subO, putO, Function.comp_def]
  · unfold B_read_stretches_0
    rw [lit_b]
    generalize jn [32] ws = tl at d ⊢
    generalize (ws.map fun w => D.str (T9 w)) = dl at d k1 k2 lm
    simp [q2, d, lm, k2, lo, subO, putO, Function.comp_def]
noncomputable abbrev env0 (t : List Nat) : M.Env := [.sh (.str (T9 t)), .ow (.lst []), .un, .un, .un, .un]
theorem comp_prt {ps : List (List Nat)} (hp : ∀ p ∈ ps, p.length ≤ 5000) : compF (xgName 0) xYes (xOp dPart (xVarP 0) (xC (.str (T9 [58, 32])))) [.un] (ps.map fun p => D.str (T9 p)) = some (ps.map prt) := compF_map (fun p => D.str (T9 p)) prt ps fun p h => by
  have := dPart_is (p := p) (by have := hp p h; omega)
  simp [oneF, this]
theorem rsX {t : List Nat} {ps : List (List Nat)} {N : Str} (hs : Txt.split (T9 t) (T9 [59, 32]) = ps.map T9) (hl : t.length ≤ 5000) (hp : ∀ p ∈ ps, p.length ≤ 5000) (hn : ps.length ≤ 100) (h : loopX gT BY_read_stretches_0 (ps.map prt) (env0 t) = some (.rz N)) : rX_read_stretches [.str (T9 t)] = some N := by
  have d := dSplit_is (a := t) (y := [59, 32]) (by decide) (by omega)
  rw [hs, List.map_map] at d
  have d : dSplit (.str (T9 t)) (.str (T9 [59, 32])) = some (.lst (ps.map fun p => D.str (T9 p))) := d
  have k := comp_prt hp
  have lm : (ps.map fun p => D.str (T9 p)).length ≤ LIM := by rw [List.length_map]; exact lim6 (by omega)
  have e0 : Y_read_stretches [.sh (.str (T9 t)), .un, .un, .un, .un, .un] = some (.rz N) := by
    unfold Y_read_stretches
    rw [lit_sb, lit_cb]
    generalize (ps.map fun p => D.str (T9 p)) = dl at d k lm
    generalize ps.map prt = el at k h
    simp [d, k, lm, h]
  show (match Y_read_stretches [.sh (.str (T9 t)), .un, .un, .un, .un, .un] with | some (.rz N) => some N | _ => none) = _
  rw [e0]
theorem rsN {t : List Nat} {ps : List (List Nat)} {ρ : M.Env} (hs : Txt.split (T9 t) (T9 [59, 32]) = ps.map T9) (hl : t.length ≤ 5000) (hp : ∀ p ∈ ps, p.length ≤ 5000) (hn : ps.length ≤ 100) (h : loopX gT BY_read_stretches_0 (ps.map prt) (env0 t) = some (.nx ρ)) : rX_read_stretches [.str (T9 t)] = none := by
  have d := dSplit_is (a := t) (y := [59, 32]) (by decide) (by omega)
  rw [hs, List.map_map] at d
  have d : dSplit (.str (T9 t)) (.str (T9 [59, 32])) = some (.lst (ps.map fun p => D.str (T9 p))) := d
  have k := comp_prt hp
  have lm : (ps.map fun p => D.str (T9 p)).length ≤ LIM := by rw [List.length_map]; exact lim6 (by omega)
  have e0 : Y_read_stretches [.sh (.str (T9 t)), .un, .un, .un, .un, .un] = none := by
    unfold Y_read_stretches
    rw [lit_sb, lit_cb]
    generalize (ps.map fun p => D.str (T9 p)) = dl at d k lm
    generalize ps.map prt = el at k h
    simp [d, k, lm, h]
  show (match Y_read_stretches [.sh (.str (T9 t)), .un, .un, .un, .un, .un] with | some (.rz N) => some N | _ => none) = _
  rw [e0]
theorem rsM {t : List Nat} {ps : List (List Nat)} {L : List Tri} {w2 w3 w4 w5 : Sl} (hs : Txt.split (T9 t) (T9 [59, 32]) = ps.map T9) (hl : t.length ≤ 5000) (hp : ∀ p ∈ ps, p.length ≤ 5000) (hn : ps.length ≤ 100)
    (h : loopF gT B_read_stretches_0 (ps.map prt) (env0 t) = some (.nx [.sh (.str (T9 t)), .ow (.lst (L.map (O.sh ∘ triD))), w2, w3, w4, w5])) : m_read_stretches [.str (T9 t)] = some (.lst (L.map triD)) := by
  have d := dSplit_is (a := t) (y := [59, 32]) (by decide) (by omega)
  rw [hs, List.map_map] at d
  have d : dSplit (.str (T9 t)) (.str (T9 [59, 32])) = some (.lst (ps.map fun p => D.str (T9 p))) := d
  have k := comp_prt hp
  have lm : (ps.map fun p => D.str (T9 p)).length ≤ LIM := by rw [List.length_map]; exact lim6 (by omega)
  have e0 : mo_read_stretches [.str (T9 t)] = some (.lst (L.map (O.sh ∘ triD))) := by
    unfold mo_read_stretches X_read_stretches
    rw [lit_sb, lit_cb]
    generalize (ps.map fun p => D.str (T9 p)) = dl at d k lm
    generalize ps.map prt = el at k h
    simp [fnO, d, k, lm, h]
  unfold m_read_stretches
  rw [e0]
  simp
noncomputable abbrev RS (t : List Nat) : Prop := rX_read_stretches [.str (T9 t)] = some ("NoText" : Str)
theorem rs_first {t p : List Nat} {ps : List (List Nat)} (ht : t = jn [59, 32] (p :: ps)) (hs : Sep2 59 32 (p :: ps)) (hl : t.length ≤ 5000) (hp : ∀ q ∈ p :: ps, q.length ≤ 5000) (hn : (p :: ps).length ≤ 100) (hb : BL p) : RS t := by
  refine rsX (ps := p :: ps) (by rw [ht]; exact split_jn2 59 32 (by decide) (by decide) _ hs) hl hp hn ?_
  obtain ⟨ρ, h1, h2⟩ := hb (.sh (.str (T9 t))) [] .un .un .un .un
  rw [List.map_cons]
  exact lX_rz h1 h2
theorem rs_second {t p q : List Nat} {ps : List (List Nat)} {L : List Tri} (ht : t = jn [59, 32] (p :: q :: ps)) (hs : Sep2 59 32 (p :: q :: ps)) (hl : t.length ≤ 5000) (hp : ∀ x ∈ p :: q :: ps, x.length ≤ 5000) (hn : (p :: q :: ps).length ≤ 100) (hg : GL p L) (hb : BL q) : RS t := by
  refine rsX (ps := p :: q :: ps) (by rw [ht]; exact split_jn2 59 32 (by decide) (by decide) _ hs) hl hp hn ?_
  obtain ⟨ρ, w2, w3, w4, w5, h1, h2, _⟩ := hg (.sh (.str (T9 t))) [] .un .un .un .un (Nat.zero_le _)
  obtain ⟨ρ', h3, h4⟩ := hb (.sh (.str (T9 t))) ([] ++ L.map (O.sh ∘ triD)) w2 w3 w4 w5
  rw [List.map_cons, lX_nx h1 h2, List.map_cons]
  exact lX_rz h3 h4
theorem rs_one {t : List Nat} {L : List Tri} (hs : Sep2 59 32 [t]) (hl : t.length ≤ 5000) (hg : GL t L) : rX_read_stretches [.str (T9 t)] = none ∧ m_read_stretches [.str (T9 t)] = some (.lst (L.map triD)) := by
  obtain ⟨ρ, w2, w3, w4, w5, h1, h2, h3⟩ := hg (.sh (.str (T9 t))) [] .un .un .un .un (Nat.zero_le _)
  have sp : Txt.split (T9 t) (T9 [59, 32]) = [t].map T9 := split_jn2 59 32 (by decide) (by decide) [t] hs
  have hp : ∀ p ∈ [t], p.length ≤ 5000 := fun p hp => by rw [List.mem_singleton.mp hp]; exact hl
  constructor
  · refine rsN sp hl hp (by simp) (ρ := [.sh (.str (T9 t)), .ow (.lst ([] ++ L.map (O.sh ∘ triD))), w2, w3, w4, w5]) ?_
    rw [List.map_cons, lX_nx h1 h2]
    rfl
  · refine rsM sp hl hp (by simp) (w2 := w2) (w3 := w3) (w4 := w4) (w5 := w5) ?_
    rw [List.map_cons, lF_nx h1 h3]
    rfl
theorem rs_two {t p q : List Nat} {L N : List Tri} (ht : t = jn [59, 32] [p, q]) (hs : Sep2 59 32 [p, q]) (hl : t.length ≤ 5000) (hL : L.length ≤ 100) (hg : GL p L) (hq : GL q N) : rX_read_stretches [.str (T9 t)] = none ∧ m_read_stretches [.str (T9 t)] = some (.lst ((L ++ N).map triD)) := by
  obtain ⟨ρ, w2, w3, w4, w5, h1, h2, h3⟩ := hg (.sh (.str (T9 t))) [] .un .un .un .un (Nat.zero_le _)
  obtain ⟨ρ', z2, z3, z4, z5, h4, h5, h6⟩ := hq (.sh (.str (T9 t))) ([] ++ L.map (O.sh ∘ triD)) w2 w3 w4 w5 (by rw [List.nil_append, List.length_map]; exact hL)
  have sp : Txt.split (T9 t) (T9 [59, 32]) = [p, q].map T9 := by rw [ht]; exact split_jn2 59 32 (by decide) (by decide) [p, q] hs
  have tl : t.length = p.length + (2 + q.length) := by rw [ht]; show (p ++ ([59, 32] ++ q)).length = _; rw [List.length_append, List.length_append]; rfl
  have hp : ∀ x ∈ [p, q], x.length ≤ 5000 := fun x hx => by
    rcases List.mem_cons.mp hx with rfl | hx
    · omega
    · rw [List.mem_singleton.mp hx]; omega
  constructor
  · refine rsN sp hl hp (by simp) (ρ := [.sh (.str (T9 t)), .ow (.lst ([] ++ L.map (O.sh ∘ triD) ++ N.map (O.sh ∘ triD))), z2, z3, z4, z5]) ?_
    rw [List.map_cons, lX_nx h1 h2, List.map_cons, lX_nx h4 h5]
    rfl
  · refine rsM sp hl hp (by simp) (w2 := z2) (w3 := z3) (w4 := z4) (w5 := z5) ?_
    rw [List.map_cons, lF_nx h1 h3, List.map_cons, lF_nx h4 h6, List.map_append, List.nil_append]
    rfl
noncomputable abbrev noth : List Nat := [110, 111, 116, 104, 105, 110, 103]
noncomputable abbrev NT (d : D) : Prop := rX_read [d] = some ("NoText" : Str)
theorem nt_else {d : D} (h : bIsi [d, .ty "str"] = some (.bl false)) : NT d := by simp [NT, rX_read, fnX, Y_read, h]
theorem nt_bad {t : List Nat} (ho : ∀ c ∈ t, c < 1114112) (hn : t ≠ noth) (h : RS t) : NT (.str (T9 t)) := by
  have q1 : dEq false (.str (T9 t)) (.str (T9 noth)) = some (.bl false) := by rw [dEq_str (okS ho) okN, decide_eq_false fun z => hn (t9_inj z)]
  have h : rX_read_stretches [.str (T9 t)] = some ("NoText" : Str) := h
  show rX_read [.str (T9 t)] = _
  unfold rX_read Y_read
  rw [lit_no]
  simp [fnX, isi_str, q1, h]
theorem nt_other {t s : List Nat} {L : List Tri} {p : Pic} (ho : ∀ c ∈ t, c < 1114112) (hn : t ≠ noth) (h : rX_read_stretches [.str (T9 t)] = none ∧ m_read_stretches [.str (T9 t)] = some (.lst (L.map triD))) (hL : L.length ≤ 15) (c : PCanon p) (hc : ∀ x y, TMem L x y ↔ PMem p x y)
    (hs : m_show [picD p] = some (.str (T9 s))) (hso : ∀ c ∈ s, c < 1114112) (hne : s ≠ t) : NT (.str (T9 t)) := by
  have q1 : dEq false (.str (T9 t)) (.str (T9 noth)) = some (.bl false) := by rw [dEq_str (okS ho) okN, decide_eq_false fun z => hn (t9_inj z)]
  have q2 : dEq true (.str (T9 s)) (.str (T9 t)) = some (.bl true) := by rw [dNe_str (okS hso) (okS ho), decide_eq_false fun z => hne (t9_inj z)]; rfl
  have b := m_picture_of_is L (by omega)
  rw [picOf_uniq c hc] at b
  obtain ⟨h0, h1⟩ := h
  show rX_read [.str (T9 t)] = _
  unfold rX_read Y_read
  rw [lit_no]
  generalize picD p = dp at b hs
  simp [fnX, isi_str, q1, h0, h1, b, hs, q2]
end P
namespace P
open PySem L2 M PySem.NumText StrLaws Rw
structure Nm (y a b c d : Int) : Prop where
  y0 : NOk y
  y1 : NOk (y + 1)
  a0 : NOk a
  b0 : NOk b
  b1 : NOk (b + 1)
  c0 : NOk c
  d0 : NOk d
  ab : a < b
  bc : b + 2 ≤ c
  cd : c < d
theorem n32 (n : Int) : 32 ∉ numT n := num_no n (by first | decide | simp) (by first | decide | simp)
theorem n46 (n : Int) : 46 ∉ numT n := num_no n (by first | decide | simp) (by first | decide | simp)
theorem n58 (n : Int) : 58 ∉ numT n := num_no n (by first | decide | simp) (by first | decide | simp)
theorem n59 (n : Int) : 59 ∉ numT n := num_no n (by first | decide | simp) (by first | decide | simp)
theorem numT_sm (n : Int) : ∀ c ∈ numT n, c < 1114112 := fun c h => by rcases numT_mem n c h with h | h <;> omega
theorem hd_no {n : Int} (h : NOk n) {c : Nat} (hc : c ∉ numT n) (X : List Nat) : (numT n ++ X)[0]? ≠ some c := by
  cases q : numT n with
  | nil => exact absurd q (num_ne' n h)
  | cons e l =>
    rw [List.cons_append, List.getElem?_cons_zero]
    intro z
    cases z
    exact hc (by rw [q]; exact List.mem_cons_self)
noncomputable abbrev ST (a b : Int) : List Nat := numT a ++ [46, 46] ++ numT b
noncomputable abbrev LN (a b c : Int) : List Nat := numT a ++ [46, 46] ++ numT b ++ [32] ++ numT c
noncomputable abbrev MR (y a b d : Int) : List Nat := numT (y + 1) ++ [58, 32] ++ numT a ++ [46, 46] ++ numT b ++ [32] ++ numT d
theorem one_le {t : List Nat} (hl : t.length ≤ 1000) : ∀ q ∈ [t], q.length ≤ 5000 := fun q h => by rw [List.mem_singleton.mp h]; omega
theorem hb_at {t h : List Nat} (hs : Sep2 59 32 [t]) (hl : t.length ≤ 1000) (hp : (Txt.partition (T9 t) (T9 [58, 32])).1 = T9 h) (hb : Bad h) : RS t := rs_first (ps := []) rfl hs (by omega) (one_le hl) (by first | decide | simp) (bl_head hp hb)
theorem hb_no {t : List Nat} (hs : Sep2 59 32 [t]) (h58 : ∀ k, t[k]? = some 58 → t[k + 1]? ≠ some 32) (hl : t.length ≤ 1000) (hb : Bad t) : RS t := hb_at hs hl (by rw [part_none 58 32 t h58]) hb
theorem hb_pre {t h q : List Nat} (ht : t = h ++ ([58, 32] ++ q)) (hs : Sep2 59 32 [t]) (hl : t.length ≤ 1000) (hh : 58 ∉ h) (hb : Bad h) : RS t := hb_at hs hl (by rw [ht, part_at hh]) hb
theorem wb_at {t : List Nat} {y : Int} {ws vs : List (List Nat)} {ss : List (Int × Int)} {w : List Nat} (ht : t = numT y ++ ([58, 32] ++ jn [32] (ws ++ w :: vs))) (hs : Sep2 59 32 [t]) (hl : t.length ≤ 1000) (hy : NOk y) (hn : (ws ++ w :: vs).length ≤ 100) (hws : GWs y ws ss)
    (h32 : 32 ∉ w) (hvs : ∀ v ∈ vs, 32 ∉ v) (hb : rX_read_stretch [.int y, .str (T9 w)] = some ("NoText" : Str)) : RS t := by
  refine rs_first (ps := []) rfl hs (by omega) (one_le hl) (by first | decide | simp) ?_
  have e := part_at (h := numT y) (q := jn [32] (ws ++ w :: vs)) (n58 y)
  rw [← ht] at e
  refine bl_word hy e ?_ hn hws h32 hvs hb
  have := congrArg List.length ht
  rw [List.length_append, List.length_append] at this
  omega
section
variable {y a b c d : Int}
theorem gab (H : Nm y a b c d) (z : Int) : GW z (numT a ++ ([46, 46] ++ numT b)) (a, b) := gw_two z H.a0 H.b0
theorem lens (H : Nm y a b c d) : (numT y).length ≤ 61 ∧ (numT (y + 1)).length ≤ 61 ∧ (numT a).length ≤ 61 ∧ (numT b).length ≤ 61 ∧ (numT (b + 1)).length ≤ 61 ∧ (numT c).length ≤ 61 ∧ (numT d).length ≤ 61 :=
  ⟨(numT_ok H.y0).1, (numT_ok H.y1).1, (numT_ok H.a0).1, (numT_ok H.b0).1, (numT_ok H.b1).1, (numT_ok H.c0).1, (numT_ok H.d0).1⟩
theorem sm_of {l : List Nat} (h : (l.all fun c => decide (c < 1114112)) = true) : ∀ c ∈ l, c < 1114112 := fun c hc => of_decide_eq_true (List.all_eq_true.mp h c hc)
theorem all_of {l : List Nat} (h : ∀ c ∈ l, c < 1114112) : (l.all fun c => decide (c < 1114112)) = true := List.all_eq_true.mpr fun c hc => decide_eq_true (h c hc)
theorem bsgn {l : List Nat} (c : Nat) (hl : l.length ≤ 1000) (ho : (l.all fun c => decide (c < 1114112)) = true) (hc : c ∈ l) (h1 : c ≠ 45 := by decide) (h2 : fig c = false := by decide) : Bad l := bad_sign c hl (sm_of ho) hc h1 h2
theorem t_1 (H : Nm y a b c d) : RS (numT y ++ [58] ++ LN a b c) := by
  have l := lens H
  have e : numT y ++ [58] ++ LN a b c = numT y ++ 58 :: (numT a ++ ([46, 46] ++ numT b ++ [32] ++ numT c)) := by simp [LN]
  rw [e]
  refine hb_no (never (by simp [n59])) (once (n58 y) (by simp [n58]) (hd_no H.a0 (n32 a) _)) (by simp; omega) (bsgn 58 (by simp; omega) (by simp [List.all_append, all_of (numT_sm _)]) (by simp))
theorem t_2 (H : Nm y a b c d) : RS (numT y ++ [58, 32] ++ LN a b c ++ [32]) := by
  have l := lens H
  refine wb_at (y := y) (ws := [numT a ++ ([46, 46] ++ numT b), numT c]) (w := []) (vs := []) (by simp [LN, jn]) (never (by simp [LN, n59])) (by simp; omega) H.y0 (by first | decide | simp) (.cons (gab H y) (.cons (gw_one y H.c0) .nil)) (by simp) (by simp) (bw_plain y (by first | decide | simp) (by simp) bad_nil)
theorem t_3 (H : Nm y a b c d) : RS ([32] ++ numT y ++ [58, 32] ++ LN a b c) := by
  have l := lens H
  exact hb_pre (h := 32 :: numT y) (q := LN a b c) (by simp) (never (by simp [LN, n59])) (by simp; omega) (by simp [n58]) (bsgn 32 (by simp; omega) (by simp [all_of (numT_sm _)]) (by simp))
theorem t_4 (H : Nm y a b c d) : RS (numT y ++ [58, 32, 32] ++ LN a b c) := by
  have l := lens H
  refine wb_at (y := y) (ws := []) (w := []) (vs := [numT a ++ ([46, 46] ++ numT b), numT c]) (by simp [LN, jn]) (never (by simp [LN, n59])) (by simp; omega) H.y0 (by first | decide | simp) .nil (by simp) (by simp [n32]) (bw_plain y (by first | decide | simp) (by simp) bad_nil)
theorem t_5 (H : Nm y a b c d) : RS (numT y ++ [32, 58, 32] ++ LN a b c) := by
  have l := lens H
  exact hb_pre (h := numT y ++ [32]) (q := LN a b c) (by simp) (never (by simp [LN, n59])) (by simp; omega) (by simp [n58]) (bsgn 32 (by simp; omega) (by simp [List.all_append, all_of (numT_sm _)]) (by simp))
theorem t_6 (H : Nm y a b c d) : RS (LN a b c) := by
  have l := lens H
  exact hb_no (never (by simp [LN, n59])) (never (by simp [LN, n58])) (by simp; omega) (bsgn 46 (by simp; omega) (by simp [List.all_append, all_of (numT_sm _)]) (by simp [LN]))
theorem t_7 (H : Nm y a b c d) : RS (numT y ++ [32] ++ LN a b c) := by
  have l := lens H
  exact hb_no (never (by simp [LN, n59])) (never (by simp [LN, n58])) (by simp; omega) (bsgn 46 (by simp; omega) (by simp [List.all_append, all_of (numT_sm _)]) (by simp [LN]))
theorem cword {n m : Int} (hn : NOk n) (hm : NOk m) (s : List Nat) (hs : s.length ≤ 3) (hb : (s.all fun c => decide (c < 1114112)) = true) (h46 : 46 ∉ s) (z : Int) : rX_read_stretch [.int z, .str (T9 (numT n ++ (s ++ (numT m ++ [58]))))] = some ("NoText" : Str) := by
  have l1 := (numT_ok hn).1
  have l2 := (numT_ok hm).1
  exact bw_plain z (by simp; omega) (by simp [n46, h46]) (bsgn 58 (by simp; omega) (by simp only [List.all_append, all_of (numT_sm _), hb, Bool.and_true, Bool.true_and]; decide) (by simp))
theorem t_8 (H : Nm y a b c d) : RS (numT y ++ [58, 32] ++ LN a b c ++ MR y a b d) := by
  have l := lens H
  refine wb_at (y := y) (ws := [numT a ++ ([46, 46] ++ numT b)]) (w := numT c ++ ([] ++ (numT (y + 1) ++ [58]))) (vs := [numT a ++ ([46, 46] ++ numT b), numT d]) (by simp [LN, MR, jn]) (never (by simp [LN, MR, n59])) (by simp; omega) H.y0 (by first | decide | simp) (.cons (gab H y) .nil) (by simp [n32]) (by simp [n32]) (cword H.c0 H.y1 [] (by first | decide | simp) (by first | decide | simp) (by first | decide | simp) y)
theorem t_9 (H : Nm y a b c d) : RS (numT y ++ [58, 32] ++ LN a b c ++ [59] ++ MR y a b d) := by
  have l := lens H
  have e : numT y ++ [58, 32] ++ LN a b c ++ [59] ++ MR y a b d = (numT y ++ [58, 32] ++ LN a b c) ++ 59 :: (numT (y + 1) ++ ([58, 32] ++ numT a ++ [46, 46] ++ numT b ++ [32] ++ numT d)) := by simp [MR]
  refine wb_at (y := y) (ws := [numT a ++ ([46, 46] ++ numT b)]) (w := numT c ++ ([59] ++ (numT (y + 1) ++ [58]))) (vs := [numT a ++ ([46, 46] ++ numT b), numT d]) (by simp [LN, MR, jn]) (by rw [e]; exact once (by simp [LN, n59]) (by simp [n59]) (hd_no H.y1 (n32 _) _)) (by simp; omega) H.y0 (by first | decide | simp) (.cons (gab H y) .nil) (by simp [n32]) (by simp [n32]) (cword H.c0 H.y1 [59] (by first | decide | simp) (by first | decide | simp) (by first | decide | simp) y)
theorem gline (H : Nm y a b c d) : GL (numT y ++ ([58, 32] ++ jn [32] [numT a ++ ([46, 46] ++ numT b), numT c])) ([(a, b), (c, c)].map fun s => (y, s)) := gl_line H.y0 (by simp) (by first | decide | simp) (.cons (gab H y) (.cons (gw_one y H.c0) .nil))
theorem two_le {p q : List Nat} (h1 : p.length ≤ 1000) (h2 : q.length ≤ 1000) : ∀ x ∈ [p, q], x.length ≤ 5000 := fun x hx => by
  rcases List.mem_cons.mp hx with rfl | hx
  · omega
  · rw [List.mem_singleton.mp hx]; omega
theorem sec (H : Nm y a b c d) {t q h : List Nat} (ht : t = numT y ++ [58, 32] ++ LN a b c ++ [59, 32] ++ q) (hq : Sep2 59 32 [q]) (hl : q.length ≤ 400) (hp : (Txt.partition (T9 q) (T9 [58, 32])).1 = T9 h) (hb : Bad h) : RS t := by
  have l := lens H
  have e : t = jn [59, 32] [numT y ++ ([58, 32] ++ jn [32] [numT a ++ ([46, 46] ++ numT b), numT c]), q] := by rw [ht]; simp [LN, jn]
  refine rs_second (ps := []) e ⟨by simp [jn, n59], hq⟩ (by rw [ht]; simp; omega) (two_le (by simp [jn]; omega) (by omega)) (by first | decide | simp) (gline H) (bl_head hp hb)
theorem t_10 (H : Nm y a b c d) : RS (numT y ++ [58, 32] ++ LN a b c ++ [59, 32]) := sec H (q := []) (h := []) (by simp) (never (by simp)) (by first | decide | simp) (by rw [part_none 58 32 [] (never (by simp))]) bad_nil
theorem t_11 (H : Nm y a b c d) : RS ([59, 32] ++ numT y ++ [58, 32] ++ LN a b c) := by
  have l := lens H
  refine rs_first (p := []) (ps := [numT y ++ [58, 32] ++ LN a b c]) (by simp [jn]) ⟨by simp, never (by simp [LN, n59])⟩ (by simp; omega) (two_le (by first | decide | simp) (by simp; omega)) (by first | decide | simp) (bl_head (h := []) (by rw [part_none 58 32 [] (never (by simp))]) bad_nil)
theorem t_12 (H : Nm y a b c d) : RS (numT y ++ [58, 32] ++ LN a b c ++ [59, 32, 32] ++ MR y a b d) := by
  have l := lens H
  refine sec H (q := 32 :: MR y a b d) (h := 32 :: numT (y + 1)) (by simp [MR]) (never (by simp [MR, n59])) (by simp; omega) ?_ (bsgn 32 (by simp; omega) (by simp [all_of (numT_sm _)]) (by simp))
  have e : 32 :: MR y a b d = (32 :: numT (y + 1)) ++ ([58, 32] ++ (numT a ++ [46, 46] ++ numT b ++ [32] ++ numT d)) := by simp [MR]
  rw [e, part_at (by simp [n58])]
theorem t_13 (H : Nm y a b c d) : RS (numT y ++ [58, 32]) := by
  have l := lens H
  exact wb_at (y := y) (ws := []) (w := []) (vs := []) (by simp [jn]) (never (by simp [n59])) (by simp; omega) H.y0 (by first | decide | simp) .nil (by simp) (by simp) (bw_plain y (by first | decide | simp) (by simp) bad_nil)
theorem t_14 (H : Nm y a b c d) : RS (numT y ++ [58]) := by
  have l := lens H
  refine hb_no (never (by simp [n59])) (once (B := []) (n58 y) (by simp) (by simp)) (by simp; omega) (bsgn 58 (by simp; omega) (by simp [List.all_append, all_of (numT_sm _)]) (by simp))
theorem t_15 (H : Nm y a b c d) : RS (numT y) := by
  have l := lens H
  refine rs_first (p := numT y) (ps := []) rfl (never (n59 y)) (by omega) (one_le (by omega)) (by first | decide | simp) ?_
  refine bl_word (ws := []) (vs := []) (w := []) (ss := []) H.y0 (c := Str.empty) ?_ (by first | decide | simp) (by first | decide | simp) .nil (by simp) (by simp) (bw_plain y (by first | decide | simp) (by simp) bad_nil)
  rw [part_none 58 32 _ (never (n58 y))]
  rfl
theorem t_16 : RS [] := hb_no (never (by simp)) (never (by simp)) (by first | decide | simp) bad_nil
theorem t_17 : RS [32] := hb_no (never (by simp)) (never (by simp)) (by first | decide | simp) (bsgn 32 (by first | decide | simp) (by first | decide | simp) (by first | decide | simp))
theorem t_18 : RS [59] := hb_no (once (A := []) (B := []) (by simp) (by simp) (by simp)) (never (by simp)) (by first | decide | simp) (bsgn 59 (by first | decide | simp) (by first | decide | simp) (by first | decide | simp))
theorem t_19 : RS [58, 32] := hb_pre (h := []) (q := []) rfl (never (by simp)) (by first | decide | simp) (by simp) bad_nil
theorem t_20 (H : Nm y a b c d) : RS (numT y ++ [58, 32] ++ LN a b c ++ [10]) := by
  have l := lens H
  refine wb_at (y := y) (ws := [numT a ++ ([46, 46] ++ numT b)]) (w := numT c ++ [10]) (vs := []) (by simp [LN, jn]) (never (by simp [LN, n59])) (by simp; omega) H.y0 (by first | decide | simp) (.cons (gab H y) .nil) (by simp [n32]) (by simp) (bw_plain y (by simp; omega) (by simp [n46]) (bsgn 10 (by simp; omega) (by simp [List.all_append, all_of (numT_sm _)]) (by simp)))
theorem t_21 (H : Nm y a b c d) : RS (numT y ++ [58, 32] ++ LN a b c ++ [32, 59, 32] ++ MR y a b d) := by
  have l := lens H
  refine rs_first (p := numT y ++ ([58, 32] ++ jn [32] ([numT a ++ ([46, 46] ++ numT b), numT c] ++ [] :: []))) (ps := [MR y a b d]) (by simp [LN, MR, jn]) ⟨by simp [jn, n59], never (by simp [MR, n59])⟩ (by simp; omega) (two_le (by simp [jn]; omega) (by simp; omega)) (by first | decide | simp) ?_
  exact bl_word H.y0 (part_at (n58 y)) (by simp [jn]; omega) (by first | decide | simp) (.cons (gab H y) (.cons (gw_one y H.c0) .nil)) (by simp) (by simp) (bw_plain y (by first | decide | simp) (by simp) bad_nil)
theorem t_22 (H : Nm y a b c d) : RS (numT y ++ [58, 32] ++ LN a b c ++ [58]) := by
  have l := lens H
  refine wb_at (y := y) (ws := [numT a ++ ([46, 46] ++ numT b)]) (w := numT c ++ [58]) (vs := []) (by simp [LN, jn]) (never (by simp [LN, n59])) (by simp; omega) H.y0 (by first | decide | simp) (.cons (gab H y) .nil) (by simp [n32]) (by simp) (bw_plain y (by simp; omega) (by simp [n46]) (bsgn 58 (by simp; omega) (by simp [List.all_append, all_of (numT_sm _)]) (by simp)))
theorem t_23 : RS [59, 32] := rs_first (p := []) (ps := [[]]) rfl ⟨by simp, never (by simp)⟩ (by first | decide | simp) (two_le (by first | decide | simp) (by first | decide | simp)) (by first | decide | simp) (bl_head (h := []) (by rw [part_none 58 32 [] (never (by simp))]) bad_nil)
end
end P
namespace P
open PySem L2 M PySem.NumText StrLaws Rw
section
variable {y a b c d : Int}
theorem numL_no (m : Nat) {c : Nat} (h : c < 48 ∨ 57 < c) : c ∉ numL m := fun z => by have := num_digits m c z; omega
theorem numL_sm (m : Nat) : ∀ c ∈ numL m, c < 1114112 := fun c h => by have := num_digits m c h; omega
theorem big_bad : Bad (49 :: zeros) := by
  have z9 : AllDigits (49 :: zeros) := all_app (a := [49]) (fun c hc => by rw [List.mem_singleton] at hc; omega) zeros_dig
  exact ww_len _ (by rw [List.length_cons, zeros_len]; decide) (dig_small z9) (.inr (by rw [figs_pos (dig_neg z9), List.length_cons, zeros_len]; decide))
theorem z_no {c : Nat} (h : c ≠ 48) : c ∉ zeros := fun z => h (List.eq_of_mem_replicate z)
theorem z_sm : (zeros.all fun c => decide (c < 1114112)) = true := List.all_eq_true.mpr fun c hc => by rw [List.eq_of_mem_replicate hc]; decide
theorem zl : zeros.length = 60 := zeros_len
theorem neg0_bad : Bad [45, 48] := by
  have := ww_dig [45, 48] (by first | decide | simp) (by first | decide | simp) (by first | decide | simp) (by first | decide | simp) P.d0 (v := 0) (intText_neg (x := T9 [45, 48]) (t9_list _) P.d0 (by first | decide | simp) (by first | decide | simp)) (by first | decide | simp) (str_nat 0) (dig_small (num_digits 0))
  show m_writes_whole _ = _
  rw [this, decide_eq_false]
  intro z
  have e : numL 0 = [48] := by decide
  rw [e] at z
  exact absurd z (by first | decide | simp)
theorem lw (H : Nm y a b c d) {t w : List Nat} {vs : List (List Nat)} (ht : t = numT y ++ ([58, 32] ++ jn [32] (w :: vs))) (h59 : 59 ∉ t) (hl : t.length ≤ 1000) (hn : (w :: vs).length ≤ 100) (h32 : 32 ∉ w) (hvs : ∀ v ∈ vs, 32 ∉ v) (hb : rX_read_stretch [.int y, .str (T9 w)] = some ("NoText" : Str)) : RS t :=
  wb_at (ws := []) (ss := []) ht (never h59) hl H.y0 hn .nil h32 hvs hb
theorem lw2 (H : Nm y a b c d) {t w : List Nat} (ht : t = numT y ++ ([58, 32] ++ jn [32] [numT a ++ ([46, 46] ++ numT b), w])) (h59 : 59 ∉ t) (hl : t.length ≤ 1000) (h32 : 32 ∉ w) (hb : rX_read_stretch [.int y, .str (T9 w)] = some ("NoText" : Str)) : RS t :=
  wb_at (ws := [numT a ++ ([46, 46] ++ numT b)]) (vs := []) ht (never h59) hl H.y0 (by show 2 ≤ 100; decide) (.cons (gab H y) .nil) h32 (by simp) hb
theorem t_30 (H : Nm y a b c d) : RS (numT y ++ [58, 32] ++ (numT a ++ [46, 46, 46] ++ numT b)) := by
  have l := lens H
  refine lw H (w := numT a ++ ([46, 46] ++ 46 :: numT b)) (vs := []) (by simp [jn]) (by simp [n59]) (by simp; omega) (by show 1 ≤ 100; decide) (by simp [n32]) (by simp) ?_
  refine bw_last (n := a) (ps := [46 :: numT b]) (g := 46 :: numT b) y (by simp; omega) (split_jn2 46 46 (by first | decide | simp) (by first | decide | simp) [numT a, 46 :: numT b] ⟨n46 a, ?_⟩) H.a0 rfl (bsgn 46 (by simp; omega) (by simp [all_of (numT_sm _)]) (by simp))
  have h0 := hd_no H.b0 (n46 b) []
  rw [List.append_nil] at h0
  exact once (A := []) (by simp) (n46 b) h0
theorem t_31 (H : Nm y a b c d) : RS (numT y ++ [58, 32] ++ (numT a ++ [46] ++ numT b)) := by
  have l := lens H
  refine lw H (w := numT a ++ 46 :: numT b) (vs := []) (by simp [jn]) (by simp [n59]) (by simp; omega) (by show 1 ≤ 100; decide) (by simp [n32]) (by simp) ?_
  have h0 := hd_no H.b0 (n46 b) []
  rw [List.append_nil] at h0
  exact bw_first (f := numT a ++ 46 :: numT b) (ps := []) y (by simp; omega) (split_jn2 46 46 (by first | decide | simp) (by first | decide | simp) [numT a ++ 46 :: numT b] (once (n46 a) (n46 b) h0)) (bsgn 46 (by simp; omega) (by simp [List.all_append, all_of (numT_sm _)]) (by simp))
theorem t_32 (H : Nm y a b c d) : RS (numT y ++ [58, 32] ++ (ST a b ++ [46, 46])) := by
  have l := lens H
  refine lw H (w := numT a ++ ([46, 46] ++ (numT b ++ ([46, 46] ++ [])))) (vs := []) (by simp [jn, ST]) (by simp [n59]) (by simp; omega) (by show 1 ≤ 100; decide) (by simp [n32]) (by simp) ?_
  exact bw_last (n := a) (ps := [numT b, []]) (g := []) y (by simp; omega) (split_jn2 46 46 (by first | decide | simp) (by first | decide | simp) [numT a, numT b, []] ⟨n46 a, n46 b, never (by simp)⟩) H.a0 rfl bad_nil
theorem t_33 (H : Nm y a b c d) : RS (numT y ++ [58, 32] ++ ([46, 46] ++ numT b)) := by
  have l := lens H
  refine lw H (w := [] ++ ([46, 46] ++ numT b)) (vs := []) (by simp [jn]) (by simp [n59]) (by simp; omega) (by show 1 ≤ 100; decide) (by simp [n32]) (by simp) ?_
  exact bw_first (f := []) (ps := [numT b]) y (by simp; omega) (split_jn2 46 46 (by first | decide | simp) (by first | decide | simp) [[], numT b] ⟨by simp, never (n46 b)⟩) bad_nil
theorem t_34 (H : Nm y a b c d) : RS (numT y ++ [58, 32] ++ (ST a b ++ [32, 48] ++ numL d.natAbs)) := by
  have l := lens H
  have ld := num_len H.d0
  refine lw2 H (w := 48 :: numL d.natAbs) (by simp [jn, ST]) (by simp [n59, numL_no]) (by simp; omega) (by simp [numL_no]) (bw_plain y (by simp; omega) (by simp [numL_no]) (zero_ahead rfl ld))
theorem t_35 (H : Nm y a b c d) : RS (numT y ++ [58, 32] ++ (ST a b ++ [32, 43] ++ numL d.natAbs)) := by
  have l := lens H
  have ld := num_len H.d0
  refine lw2 H (w := 43 :: numL d.natAbs) (by simp [jn, ST]) (by simp [n59, numL_no]) (by simp; omega) (by simp [numL_no]) (bw_plain y (by simp; omega) (by simp [numL_no]) (bsgn 43 (by simp; omega) (by simp [all_of (numL_sm _)]) (by simp)))
theorem t_36 (H : Nm y a b c d) : RS (numT y ++ [58, 32] ++ (ST a b ++ [32, 45, 48])) := by
  have l := lens H
  refine lw2 H (w := [45, 48]) (by simp [jn, ST]) (by simp [n59]) (by simp; omega) (by simp) (bw_plain y (by first | decide | simp) (by simp) neg0_bad)
theorem t_38 (H : Nm y a b c d) : RS (numT y ++ [58, 32] ++ (ST a b ++ [44, 32] ++ numT c)) := by
  have l := lens H
  refine lw H (w := numT a ++ ([46, 46] ++ (numT b ++ [44]))) (vs := [numT c]) (by simp [jn, ST]) (by simp [n59]) (by simp; omega) (by show 2 ≤ 100; decide) (by simp [n32]) (by simp [n32]) ?_
  exact bw_last (n := a) (ps := [numT b ++ [44]]) (g := numT b ++ [44]) y (by simp; omega) (split_jn2 46 46 (by first | decide | simp) (by first | decide | simp) [numT a, numT b ++ [44]] ⟨n46 a, never (by simp [n46])⟩) H.a0 rfl (bsgn 44 (by simp; omega) (by simp [List.all_append, all_of (numT_sm _)]) (by simp))
theorem t_39 (H : Nm y a b c d) : RS (numT y ++ [58, 32] ++ ([49] ++ zeros)) := by
  have l := lens H
  refine lw H (w := 49 :: zeros) (vs := []) (by simp [jn]) (by simp [n59, z_no]) (by simp [zl]; omega) (by show 1 ≤ 100; decide) (by simp [z_no]) (by simp) (bw_plain y (by simp [zl]) (by simp [z_no]) big_bad)
theorem t_42 (H : Nm y a b c d) : RS ([49] ++ zeros ++ [58, 32] ++ ST a b) := by
  have l := lens H
  exact hb_pre (h := 49 :: zeros) (q := ST a b) (by simp) (never (by simp [n59, z_no])) (by simp [zl]; omega) (by simp [z_no]) big_bad
theorem t_43 (H : Nm y a b c d) : RS (numT y ++ [58, 32] ++ numT a ++ [46, 46, 49] ++ zeros) := by
  have l := lens H
  refine lw H (w := numT a ++ ([46, 46] ++ 49 :: zeros)) (vs := []) (by simp [jn]) (by simp [n59, z_no]) (by simp [zl]; omega) (by show 1 ≤ 100; decide) (by simp [n32, z_no]) (by simp) ?_
  exact bw_last (n := a) (ps := [49 :: zeros]) (g := 49 :: zeros) y (by simp [zl]; omega) (split_jn2 46 46 (by first | decide | simp) (by first | decide | simp) [numT a, 49 :: zeros] ⟨n46 a, never (by simp [z_no])⟩) H.a0 rfl big_bad
theorem t_44 (H : Nm y a b c d) : RS ([48] ++ numL y.natAbs ++ [58, 32] ++ ST a b) := by
  have l := lens H
  have ly := num_len H.y0
  exact hb_pre (h := 48 :: numL y.natAbs) (q := ST a b) (by simp) (never (by simp [n59, numL_no])) (by simp; omega) (by simp [numL_no]) (zero_ahead rfl ly)
theorem t_45 (H : Nm y a b c d) : RS (noth ++ [59, 32] ++ (numT y ++ [58, 32] ++ LN a b c)) := by
  have l := lens H
  refine rs_first (p := noth) (ps := [numT y ++ [58, 32] ++ LN a b c]) (by simp [jn]) ⟨by decide, never (by simp [LN, n59])⟩ (by simp; omega) (two_le (by first | decide | simp) (by simp; omega)) (by first | decide | simp) (bl_head (h := noth) (by rw [part_none 58 32 noth (never (by first | decide | simp))]) (bsgn 110 (by first | decide | simp) (by first | decide | simp) (by first | decide | simp)))
theorem t_46 (H : Nm y a b c d) : RS (numT y ++ [58, 32] ++ LN a b c ++ [59, 32] ++ noth) :=
  sec H (q := noth) (h := noth) rfl (never (by first | decide | simp)) (by first | decide | simp) (by rw [part_none 58 32 noth (never (by first | decide | simp))]) (bsgn 110 (by first | decide | simp) (by first | decide | simp) (by first | decide | simp))
theorem wordT {t : List Nat} (c : Nat) (h58 : 58 ∉ t) (h59 : 59 ∉ t) (hl : t.length ≤ 1000) (ho : (t.all fun c => decide (c < 1114112)) = true) (hc : c ∈ t) (h1 : c ≠ 45) (h2 : fig c = false) : RS t := hb_no (never h59) (never h58) hl (bsgn c hl ho hc h1 h2)
theorem ne_noth {t : List Nat} (c : Nat) (hc : c ∈ t) (h : c ∉ noth) : t ≠ noth := fun e => h (e ▸ hc)
theorem oth {t : List Nat} {L : List Tri} {r : R} (hy : NOk y) (hr : ROk r) (hne : r ≠ []) (hc : Canon r) (ho : (t.all fun c => decide (c < 1114112)) = true) (hn : t ≠ noth) (h : rX_read_stretches [.str (T9 t)] = none ∧ m_read_stretches [.str (T9 t)] = some (.lst (L.map triD))) (hL : L.length ≤ 15)
    (hm : ∀ x z, TMem L x z ↔ (y = z ∧ Mem r x)) (hd : numT y ++ ([58, 32] ++ rwT r) ≠ t) : NT (.str (T9 t)) := by
  have pk : POk [(y, r)] := ⟨by simp, fun q hq => by rw [List.mem_singleton.mp hq]; exact ⟨hy, hr⟩⟩
  refine nt_other (sm_of ho) hn h hL (p := [(y, r)]) ⟨fun q hq => by rw [List.mem_singleton.mp hq]; exact ⟨hc, hne⟩, List.pairwise_singleton _ _⟩ (fun x z => by rw [hm, pmem_cons]; simp [pmem_nil]) (show_is pk (by simp)) (fun c hc => by have := pcT_small _ c hc; omega) hd
theorem stT_ab (h : a < b) : stT (a, b) = numT a ++ ([46, 46] ++ numT b) := if_neg (by intro z; have z : a = b := z; omega)
theorem stT_cc : stT (c, c) = numT c := if_pos rfl
theorem rd_line (hy : NOk y) {ws : List (List Nat)} {ss : List (Int × Int)} {t : List Nat} (ht : t = numT y ++ ([58, 32] ++ jn [32] ws)) (h59 : 59 ∉ t) (hl : t.length ≤ 1000) (hne : ws ≠ []) (hn : ws.length ≤ 10) (hws : GWs y ws ss) : rX_read_stretches [.str (T9 t)] = none ∧ m_read_stretches [.str (T9 t)] = some (.lst ((ss.map fun s => (y, s)).map triD)) :=
  rs_one (never h59) (by omega) (by rw [ht]; exact gl_line hy hne hn hws)
theorem rok1 {n m : Int} (h : NOk n) (k : NOk m) : ROk [(n, m)] := ⟨by simp, fun s hs => by rw [List.mem_singleton.mp hs]; exact ⟨h, k⟩⟩
theorem can1 {n m : Int} (h : n ≤ m) : Canon [(n, m)] := ⟨fun s hs => by rw [List.mem_singleton.mp hs]; exact h, List.pairwise_singleton _ _⟩
theorem rok2 (H : Nm y a b c d) : ROk [(a, b), (c, c)] := ⟨by simp, fun s hs => by
  rcases List.mem_cons.mp hs with rfl | hs
  · exact ⟨H.a0, H.b0⟩
  · rw [List.mem_singleton.mp hs]; exact ⟨H.c0, H.c0⟩⟩
theorem can2 (H : Nm y a b c d) : Canon [(a, b), (c, c)] := by
  have := H.ab; have := H.bc
  refine ⟨fun s hs => ?_, ?_⟩
  · rcases List.mem_cons.mp hs with rfl | hs
    · show a ≤ b; omega
    · rw [List.mem_singleton.mp hs]; exact Int.le_refl _
  · simp; omega
theorem rw2 (H : Nm y a b c d) : rwT [(a, b), (c, c)] = numT a ++ ([46, 46] ++ numT b) ++ ([32] ++ numT c) := by
  show jn [32] [stT (a, b), stT (c, c)] = _
  rw [stT_ab H.ab, stT_cc]
  rfl
theorem nt_24 (H : Nm y a b c d) : NT (.str (T9 (numT y ++ [58, 32] ++ (numT c ++ [32] ++ ST a b)))) := by
  have l := lens H; have h1 := H.ab; have h2 := H.bc
  refine oth H.y0 (rok2 H) (by simp) (can2 H) (by simp [List.all_append, all_of (numT_sm _)]) (ne_noth 58 (by simp) (by first | decide | simp)) (rd_line H.y0 (ws := [numT c, numT a ++ ([46, 46] ++ numT b)]) (by simp [jn, ST]) (by simp [n59]) (by simp; omega) (by simp) (by show 2 ≤ 10; decide) (.cons (gw_one y H.c0) (.cons (gab H y) .nil))) (by simp) (fun x z => ?_) ?_
  · simp [TMem, Mem]; constructor
    · rintro (⟨e, p, q⟩ | ⟨e, p, q⟩)
      · exact ⟨e, .inr (by omega)⟩
      · exact ⟨e, .inl (by omega)⟩
    · rintro ⟨e, (p | p)⟩
      · exact .inr (by omega)
      · exact .inl (by omega)
  · intro e
    rw [rw2 H] at e
    have e : numT y ++ ([58, 32] ++ jn [32] [numT a ++ ([46, 46] ++ numT b), numT c]) = numT y ++ ([58, 32] ++ jn [32] [numT c, numT a ++ ([46, 46] ++ numT b)]) := by
      simpa [jn, ST] using e
    have e := List.append_cancel_left (List.append_cancel_left e)
    have s1 : Txt.split (T9 (jn [32] [numT a ++ ([46, 46] ++ numT b), numT c])) (T9 [32]) = [numT a ++ ([46, 46] ++ numT b), numT c].map T9 := split_jn 32 [] (by first | decide | simp) _ (by simp) (by simp [n32])
    have s2 : Txt.split (T9 (jn [32] [numT c, numT a ++ ([46, 46] ++ numT b)])) (T9 [32]) = [numT c, numT a ++ ([46, 46] ++ numT b)].map T9 := split_jn 32 [] (by first | decide | simp) _ (by simp) (by simp [n32])
    rw [e, s2] at s1
    have s1 : [T9 (numT c), T9 (numT a ++ ([46, 46] ++ numT b))] = [T9 (numT a ++ ([46, 46] ++ numT b)), T9 (numT c)] := s1
    injection s1 with s3 s4
    have s3 := t9_inj s3
    exact n46 c (by rw [s3]; simp)
theorem oth1 {t : List Nat} {L : List Tri} {n m : Int} (hy : NOk y) (h0 : NOk n) (k0 : NOk m) (hnm : n < m) (ho : (t.all fun c => decide (c < 1114112)) = true) (hn : t ≠ noth) (h : rX_read_stretches [.str (T9 t)] = none ∧ m_read_stretches [.str (T9 t)] = some (.lst (L.map triD))) (hL : L.length ≤ 15)
    (hm : ∀ x z, TMem L x z ↔ (y = z ∧ n ≤ x ∧ x ≤ m)) (hd : (numT y).length + 2 + (numT n).length + 2 + (numT m).length < t.length) : NT (.str (T9 t)) := by
  refine oth hy (rok1 h0 k0) (by simp) (can1 (by omega)) ho hn h hL (fun x z => by rw [hm]; simp [Mem]) fun e => ?_
  have := congrArg List.length e
  have r : rwT [(n, m)] = numT n ++ ([46, 46] ++ numT m) := stT_ab hnm
  rw [r] at this
  simp at this
  omega
theorem nt_25 (H : Nm y a b c d) : NT (.str (T9 (numT y ++ [58, 32] ++ (ST a b ++ [32] ++ numT (b + 1))))) := by
  have l := lens H; have h1 := H.ab; have h2 := H.bc
  have lb : 0 < (numT b).length := List.length_pos_iff.mpr (num_ne' b H.b0)
  refine oth1 H.y0 H.a0 H.b1 (by omega) (by simp [List.all_append, all_of (numT_sm _)]) (ne_noth 58 (by simp) (by first | decide | simp)) (rd_line H.y0 (ws := [numT a ++ ([46, 46] ++ numT b), numT (b + 1)]) (by simp [jn, ST]) (by simp [n59]) (by simp; omega) (by simp) (by show 2 ≤ 10; decide) (.cons (gab H y) (.cons (gw_one y H.b1) .nil))) (by simp) (fun x z => ?_) (by simp; omega)
  simp [TMem]; omega
theorem nt_26 (H : Nm y a b c d) : NT (.str (T9 (numT y ++ [58, 32] ++ (ST a b ++ [32] ++ numT b)))) := by
  have l := lens H; have h1 := H.ab; have h2 := H.bc
  refine oth1 H.y0 H.a0 H.b0 (by omega) (by simp [List.all_append, all_of (numT_sm _)]) (ne_noth 58 (by simp) (by first | decide | simp)) (rd_line H.y0 (ws := [numT a ++ ([46, 46] ++ numT b), numT b]) (by simp [jn, ST]) (by simp [n59]) (by simp; omega) (by simp) (by show 2 ≤ 10; decide) (.cons (gab H y) (.cons (gw_one y H.b0) .nil))) (by simp) (fun x z => ?_) (by simp; omega)
  simp [TMem]; omega
theorem nt_27 (H : Nm y a b c d) : NT (.str (T9 (numT y ++ [58, 32] ++ (numT b ++ [46, 46] ++ numT a)))) := by
  have l := lens H; have h1 := H.ab; have h2 := H.bc
  have sh : m_show [picD []] = some (.str (T9 noth)) := by have := show_nothing; rw [lit_no] at this; exact this
  refine nt_other (p := []) (sm_of (by simp [List.all_append, all_of (numT_sm _)])) (ne_noth 58 (by simp) (by first | decide | simp)) (rd_line H.y0 (ws := [numT b ++ ([46, 46] ++ numT a)]) (by simp [jn]) (by simp [n59]) (by simp; omega) (by simp) (by show 1 ≤ 10; decide) (.cons (gw_two y H.b0 H.a0) .nil)) (by simp) ⟨by simp, .nil⟩ (fun x z => ?_) sh (by first | decide | simp) (Ne.symm (ne_noth 58 (by simp) (by first | decide | simp)))
  simp [TMem, pmem_nil]; omega
theorem nt_28 (H : Nm y a b c d) : NT (.str (T9 (numT y ++ [58, 32] ++ (ST a b ++ [32] ++ ST a b)))) := by
  have l := lens H; have h1 := H.ab; have h2 := H.bc
  refine oth1 H.y0 H.a0 H.b0 (by omega) (by simp [List.all_append, all_of (numT_sm _)]) (ne_noth 58 (by simp) (by first | decide | simp)) (rd_line H.y0 (ws := [numT a ++ ([46, 46] ++ numT b), numT a ++ ([46, 46] ++ numT b)]) (by simp [jn, ST]) (by simp [n59]) (by simp; omega) (by simp) (by show 2 ≤ 10; decide) (.cons (gab H y) (.cons (gab H y) .nil))) (by simp) (fun x z => ?_) (by simp; omega)
  simp [TMem]
theorem nt_29 (H : Nm y a b c d) : NT (.str (T9 (numT y ++ [58, 32] ++ (numT a ++ [46, 46] ++ numT a)))) := by
  have l := lens H; have h1 := H.ab; have h2 := H.bc
  refine oth H.y0 (rok1 H.a0 H.a0) (by simp) (can1 (Int.le_refl _)) (by simp [List.all_append, all_of (numT_sm _)]) (ne_noth 58 (by simp) (by first | decide | simp)) (rd_line H.y0 (ws := [numT a ++ ([46, 46] ++ numT a)]) (by simp [jn]) (by simp [n59]) (by simp; omega) (by simp) (by show 1 ≤ 10; decide) (.cons (gw_two y H.a0 H.a0) .nil)) (by simp) (fun x z => by simp [TMem, Mem]) fun e => ?_
  have := congrArg List.length e
  have r : rwT [(a, a)] = numT a := stT_cc
  rw [r] at this
  simp at this
theorem nt_37 (H : Nm y a b c d) : NT (.str (T9 (numT y ++ [58, 32] ++ (ST a b ++ [46, 46] ++ numT d)))) := by
  have l := lens H; have h1 := H.ab; have h2 := H.bc; have h3 := H.cd
  refine oth1 H.y0 H.a0 H.d0 (by omega) (by simp [List.all_append, all_of (numT_sm _)]) (ne_noth 58 (by simp) (by first | decide | simp)) (rd_line H.y0 (ws := [numT a ++ ([46, 46] ++ (numT b ++ ([46, 46] ++ numT d)))]) (by simp [jn, ST]) (by simp [n59]) (by simp; omega) (by simp) (by show 1 ≤ 10; decide) (.cons (gw_three y H.a0 H.b0 H.d0) .nil)) (by simp) (fun x z => ?_) (by simp; omega)
  simp [TMem]
theorem nt_40 (H : Nm y a b c d) : NT (.str (T9 (numT y ++ [58, 32] ++ ST a b ++ [59, 32] ++ numT y ++ [58, 32] ++ numT c))) := by
  have l := lens H; have h1 := H.ab; have h2 := H.bc
  have g1 : GL (numT y ++ ([58, 32] ++ jn [32] [numT a ++ ([46, 46] ++ numT b)])) ([(a, b)].map fun s => (y, s)) := gl_line H.y0 (by simp) (by first | decide | simp) (.cons (gab H y) .nil)
  have g2 : GL (numT y ++ ([58, 32] ++ jn [32] [numT c])) ([(c, c)].map fun s => (y, s)) := gl_line H.y0 (by simp) (by first | decide | simp) (.cons (gw_one y H.c0) .nil)
  refine oth H.y0 (rok2 H) (by simp) (can2 H) (by simp [List.all_append, all_of (numT_sm _)]) (ne_noth 58 (by simp) (by first | decide | simp)) (rs_two (by simp [jn, ST]) ⟨by simp [jn, n59], never (by simp [jn, n59])⟩ (by simp; omega) (by simp) g1 g2) (by simp) (fun x z => ?_) fun e => ?_
  · simp [TMem, Mem]; constructor
    · rintro (⟨e, p, q⟩ | ⟨e, p, q⟩)
      · exact ⟨e, .inl (by omega)⟩
      · exact ⟨e, .inr (by omega)⟩
    · rintro ⟨e, (p | p)⟩
      · exact .inl (by omega)
      · exact .inr (by omega)
  · rw [rw2 H] at e
    have e : (numT y ++ ([58, 32] ++ (numT a ++ ([46, 46] ++ numT b)))) ++ (32 :: numT c) = (numT y ++ ([58, 32] ++ (numT a ++ ([46, 46] ++ numT b)))) ++ (59 :: 32 :: (numT y ++ ([58, 32] ++ numT c))) := by
      simpa [ST] using e
    have e := List.append_cancel_left e
    injection e with e1 e2
    exact absurd e1 (by first | decide | simp)
theorem nt_41 (H : Nm y a b c d) : NT (.str (T9 (numT (y + 1) ++ [58, 32] ++ numT c ++ [59, 32] ++ (numT y ++ [58, 32] ++ LN a b c)))) := by
  have l := lens H; have h1 := H.ab; have h2 := H.bc
  have g1 : GL (numT (y + 1) ++ ([58, 32] ++ jn [32] [numT c])) ([(c, c)].map fun s => (y + 1, s)) := gl_line H.y1 (by simp) (by first | decide | simp) (.cons (gw_one (y + 1) H.c0) .nil)
  have g2 := gline H
  have pk : POk [(y, [(a, b), (c, c)]), (y + 1, [(c, c)])] := ⟨by simp, fun q hq => by
    rcases List.mem_cons.mp hq with rfl | hq
    · exact ⟨H.y0, rok2 H⟩
    · rw [List.mem_singleton.mp hq]; exact ⟨H.y1, rok1 H.c0 H.c0⟩⟩
  refine nt_other (p := [(y, [(a, b), (c, c)]), (y + 1, [(c, c)])]) (sm_of (by simp [List.all_append, all_of (numT_sm _)])) (ne_noth 58 (by simp) (by first | decide | simp)) (rs_two (by simp [jn, LN]) ⟨by simp [jn, n59], never (by simp [jn, n59])⟩ (by simp; omega) (by simp) g1 g2) (by simp) ⟨fun q hq => ?_, by simp; omega⟩ (fun x z => ?_) (show_is pk (by simp)) (fun c hc => by have := pcT_small _ c hc; omega) fun e => ?_
  · rcases List.mem_cons.mp hq with rfl | hq
    · exact ⟨can2 H, by simp⟩
    · rw [List.mem_singleton.mp hq]; exact ⟨can1 (Int.le_refl _), by simp⟩
  · rw [pmem_cons, pmem_cons, mem_cons, mem_cons]
    simp [TMem, pmem_nil, mem_nil]
    omega
  · have p1 : pcT [(y, [(a, b), (c, c)]), (y + 1, [(c, c)])] = jn [59, 32] [numT y ++ ([58, 32] ++ (numT a ++ ([46, 46] ++ numT b) ++ ([32] ++ numT c))), numT (y + 1) ++ ([58, 32] ++ numT c)] := by
      show jn [59, 32] [numT y ++ ([58, 32] ++ rwT [(a, b), (c, c)]), numT (y + 1) ++ ([58, 32] ++ rwT [(c, c)])] = _
      rw [rw2 H]
      have : rwT [(c, c)] = numT c := stT_cc
      rw [this]
    have e2 : jn [59, 32] [numT y ++ ([58, 32] ++ (numT a ++ ([46, 46] ++ numT b) ++ ([32] ++ numT c))), numT (y + 1) ++ ([58, 32] ++ numT c)] = jn [59, 32] [numT (y + 1) ++ ([58, 32] ++ numT c), numT y ++ ([58, 32] ++ (numT a ++ ([46, 46] ++ numT b) ++ ([32] ++ numT c)))] := by
      rw [← p1, e]; simp [jn, LN]
    have s1 := split_jn2 59 32 (by first | decide | simp) (by first | decide | simp) [numT y ++ ([58, 32] ++ (numT a ++ ([46, 46] ++ numT b) ++ ([32] ++ numT c))), numT (y + 1) ++ ([58, 32] ++ numT c)] ⟨by simp [n59], never (by simp [n59])⟩
    have s2 := split_jn2 59 32 (by first | decide | simp) (by first | decide | simp) [numT (y + 1) ++ ([58, 32] ++ numT c), numT y ++ ([58, 32] ++ (numT a ++ ([46, 46] ++ numT b) ++ ([32] ++ numT c)))] ⟨by simp [n59], never (by simp [n59])⟩
    rw [e2, s2] at s1
    rw [List.map_cons, List.map_cons] at s1
    injection s1 with s3 s4
    have s3 := t9_inj s3
    have : (46 : Nat) ∈ numT (y + 1) ++ ([58, 32] ++ numT c) := by rw [s3]; simp
    simp [n46] at this
end
end P
namespace P
open PySem L2 M PySem.NumText StrLaws Rw
noncomputable def blanksL (Y Ln Mr : List Nat) : List (List Nat) :=
  [Y ++ [58] ++ Ln, Y ++ [58, 32] ++ Ln ++ [32], [32] ++ Y ++ [58, 32] ++ Ln, Y ++ [58, 32, 32] ++ Ln, Y ++ [32, 58, 32] ++ Ln, Ln,
   Y ++ [32] ++ Ln, Y ++ [58, 32] ++ Ln ++ Mr, Y ++ [58, 32] ++ Ln ++ [59] ++ Mr, Y ++ [58, 32] ++ Ln ++ [59, 32],
   [59, 32] ++ Y ++ [58, 32] ++ Ln, Y ++ [58, 32] ++ Ln ++ [59, 32, 32] ++ Mr, Y ++ [58, 32], Y ++ [58], Y, [], [32], [59], [58, 32],
   Y ++ [58, 32] ++ Ln ++ [10], Y ++ [58, 32] ++ Ln ++ [32, 59, 32] ++ Mr, Y ++ [58, 32] ++ Ln ++ [58], [59, 32]]
noncomputable def ordersS (a b c d : Int) : List (List Nat) :=
  [numT c ++ [32] ++ ST a b, ST a b ++ [32] ++ numT (b + 1), ST a b ++ [32] ++ numT b, numT b ++ [46, 46] ++ numT a,
   ST a b ++ [32] ++ ST a b, numT a ++ [46, 46] ++ numT a, numT a ++ [46, 46, 46] ++ numT b, numT a ++ [46] ++ numT b,
   ST a b ++ [46, 46], [46, 46] ++ numT b, ST a b ++ [32, 48] ++ numL d.natAbs, ST a b ++ [32, 43] ++ numL d.natAbs,
   ST a b ++ [32, 45, 48], ST a b ++ [46, 46] ++ numT d, ST a b ++ [44, 32] ++ numT c, [49] ++ zeros]
noncomputable def ordersT (y a b c : Int) (mo : List Nat) : List (List Nat) :=
  [numT y ++ [58, 32] ++ ST a b ++ [59, 32] ++ numT y ++ [58, 32] ++ numT c, numT (y + 1) ++ [58, 32] ++ numT c ++ [59, 32] ++ mo,
   [49] ++ zeros ++ [58, 32] ++ ST a b, numT y ++ [58, 32] ++ numT a ++ [46, 46, 49] ++ zeros,
   [48] ++ numL y.natAbs ++ [58, 32] ++ ST a b, noth ++ [59, 32] ++ mo, mo ++ [59, 32] ++ noth]
noncomputable def ordersL (y a b c d : Int) (mo : List Nat) : List (List Nat) := ((ordersS a b c d).map fun s => numT y ++ [58, 32] ++ s) ++ ordersT y a b c mo
noncomputable def thingsL (t : List Nat) (p : D) : List D := [.str (T9 [78, 111, 116, 104, 105, 110, 103]), .str (T9 [110, 111, 116, 104, 105, 110, 103, 32]), .str (T9 [32, 110, 111, 116, 104, 105, 110, 103]), .str (T9 [110, 111, 116, 104, 105, 110]), .str (T9 [110, 111, 110, 101]),
  .non, .int 7, .bl true, .lst [.str (T9 t)], .tup [.str (T9 t)], p, .tup [], .lst []]
noncomputable abbrev sD (l : List (List Nat)) : List D := l.map fun t => D.str (T9 t)
theorem addL {a b : List D} (h : a.length + b.length ≤ 1000) : dAdd (.lst a) (.lst b) = some (.lst (a ++ b)) := by
  show (if a.length + b.length ≤ LIM then some (D.lst (a ++ b)) else none) = _
  rw [if_pos (lim_of (by omega))]
theorem add9 {a b : List Nat} (h : a.length + b.length ≤ 1000) : dAdd (.str (T9 a)) (.str (T9 b)) = some (.str (T9 (a ++ b))) := addS (by omega)
theorem lt_c : Str.ofString ":" = T9 [58] := (lit9 ":").trans (by decide)
theorem lt_cbb : Str.ofString ":  " = T9 [58, 32, 32] := (lit9 ":  ").trans (by decide)
theorem lt_bcb : Str.ofString " : " = T9 [32, 58, 32] := (lit9 " : ").trans (by decide)
theorem lt_s : Str.ofString ";" = T9 [59] := (lit9 ";").trans (by decide)
theorem lt_sbb : Str.ofString ";  " = T9 [59, 32, 32] := (lit9 ";  ").trans (by decide)
theorem lt_n : Str.ofString "\n" = T9 [10] := (lit9 "\n").trans (by decide)
theorem lt_bsb : Str.ofString " ; " = T9 [32, 59, 32] := (lit9 " ; ").trans (by decide)
theorem lim7 {n : Nat} (h : n ≤ 100) : n ≤ LIM := lim_of (by omega)
theorem blanks_is {Y Ln Mr : List Nat} (hY : Y.length ≤ 61) (hL : Ln.length ≤ 190) (hM : Mr.length ≤ 260) : m__law_blanks [.str (T9 Y), .str (T9 Ln), .str (T9 Mr)] = some (.lst (sD (blanksL Y Ln Mr))) := by
  have lm6 := lim7 (n := 6) (by decide); have lm4 := lim7 (n := 4) (by decide); have lm9 := lim7 (n := 9) (by decide)
  refine fn_rt (n := 4) (ds := [.str (T9 Y), .str (T9 Ln), .str (T9 Mr)]) ?_
  show X__law_blanks [.sh (.str (T9 Y)), .sh (.str (T9 Ln)), .sh (.str (T9 Mr)), .un] = _
  unfold X__law_blanks
  rw [lit_cb, lit_sb, lit_b, lt_c, lt_cbb, lt_bcb, lt_s, lt_sbb, lt_n, lt_bsb, emptyS]
  refine (run_seq (ρ' := [.sh (.str (T9 Y)), .sh (.str (T9 Ln)), .sh (.str (T9 Mr)), .sh (.lst (sD ((blanksL Y Ln Mr).take 6)))]) (by simp (disch := (first | (simp <;> omega) | omega)) [add9, lm6, blanksL])).trans ?_
  refine (run_seq (ρ' := [.sh (.str (T9 Y)), .sh (.str (T9 Ln)), .sh (.str (T9 Mr)), .sh (.lst (sD ((blanksL Y Ln Mr).take 10)))]) (by simp (disch := (first | (simp <;> omega) | omega)) [add9, addL, lm4, blanksL])).trans ?_
  refine (run_seq (ρ' := [.sh (.str (T9 Y)), .sh (.str (T9 Ln)), .sh (.str (T9 Mr)), .sh (.lst (sD ((blanksL Y Ln Mr).take 19)))]) (by simp (disch := (first | (simp <;> omega) | omega)) [add9, addL, lm9, blanksL])).trans ?_
  simp (disch := (first | (simp <;> omega) | omega)) [add9, addL, lm4, blanksL]
theorem lt_ddd : Str.ofString "..." = T9 [46, 46, 46] := (lit9 "...").trans (by decide)
theorem lt_d : Str.ofString "." = T9 [46] := (lit9 ".").trans (by decide)
theorem lt_b0 : Str.ofString " 0" = T9 [32, 48] := (lit9 " 0").trans (by decide)
theorem lt_bp : Str.ofString " +" = T9 [32, 43] := (lit9 " +").trans (by decide)
theorem lt_bm0 : Str.ofString " -0" = T9 [32, 45, 48] := (lit9 " -0").trans (by decide)
theorem lt_kb : Str.ofString ", " = T9 [44, 32] := (lit9 ", ").trans (by decide)
theorem lt_1 : Str.ofString "1" = T9 [49] := (lit9 "1").trans (by decide)
theorem lt_0 : Str.ofString "0" = T9 [48] := (lit9 "0").trans (by decide)
theorem lt_dd1 : Str.ofString "..1" = T9 [46, 46, 49] := (lit9 "..1").trans (by decide)
theorem lt_nsb : Str.ofString "nothing; " = T9 (noth ++ [59, 32]) := (lit9 "nothing; ").trans (by decide)
theorem lt_sbn : Str.ofString "; nothing" = T9 ([59, 32] ++ noth) := (lit9 "; nothing").trans (by decide)
theorem rep9 : dMulS (.str (T9 [48])) (.int 60) = some (.str (T9 (zeros))) := by
  show (if (T9 [48]).length = 1 ∧ (1 : Int) < 60 ∧ (60 : Int) ≤ 1000 then some (D.str _) else none) = _
  rw [if_pos (by decide)]
  rfl
theorem abs_text (n : Int) (h : n.natAbs < 10 ^ 60) : bStrI [.int (if n < 0 then -n else n)] = some (.str (T9 (numL n.natAbs))) := by
  have e : (if n < 0 then -n else n) = (n.natAbs : Int) := by split <;> omega
  rw [e]
  show (if (n.natAbs : Int).natAbs.log2 < 1920 then some (D.str (Str.ofString (toString (n.natAbs : Int)))) else none) = _
  rw [if_pos (log_lt (by rw [Int.natAbs_natCast]; exact h)), str_nat]
theorem orders_is {y a b c d : Int} (H : Nm y a b c d) {mo : List Nat} (hm : mo.length ≤ 260) : m__law_orders [.int y, .int a, .int b, .int c, .int d, .str (T9 mo)] = some (.lst (sD (ordersL y a b c d mo))) := by
  have lm4 := lim7 (n := 4) (by decide); have lm2 := lim7 (n := 2) (by decide); have lm3 := lim7 (n := 3) (by decide); have lm16 := lim7 (n := 16) (by decide)
  obtain ⟨l1, l2, l3, l4, l5, l6, l7⟩ := lens H
  have sy := strI_num H.y0; have sy1 := strI_num H.y1; have sa := strI_num H.a0; have sb := strI_num H.b0; have sb1 := strI_num H.b1; have sc := strI_num H.c0; have sd := strI_num H.d0
  have ad : bAbs [.int d] = some (.int (if d < 0 then -d else d)) := rfl
  have ay : bAbs [.int y] = some (.int (if y < 0 then -y else y)) := rfl
  have td := abs_text d H.d0
  have ty := abs_text y H.y0
  have ld := num_len H.d0
  have ly := num_len H.y0
  have rp := rep9
  have zz := zl
  have k : compF (xgName 0) xYes (xOp (dAdd) (xOp (dAdd) (xCB bStrI (xCons (xVarP 1) (xNil))) (xC (.str (T9 [58, 32])))) (xVarP 0)) [.un, .sh (.int y)] (sD (ordersS a b c d)) = some (sD ((ordersS a b c d).map fun s => numT y ++ [58, 32] ++ s)) := by
    have h1 : ∀ s ∈ ordersS a b c d, s.length ≤ 400 := by
      intro s hs
      simp only [ordersS, List.mem_cons, List.not_mem_nil, or_false] at hs
      rcases hs with rfl | rfl | rfl | rfl | rfl | rfl | rfl | rfl | rfl | rfl | rfl | rfl | rfl | rfl | rfl | rfl <;> simp [zz] <;> omega
    have := compF_map (g := xgName 0) (e := xOp (dAdd) (xOp (dAdd) (xCB bStrI (xCons (xVarP 1) (xNil))) (xC (.str (T9 [58, 32])))) (xVarP 0)) (ρ0 := [.un, .sh (.int y)]) (fun t : List Nat => D.str (T9 t)) (fun s => D.str (T9 (numT y ++ [58, 32] ++ s))) (ordersS a b c d) (fun s hs => by
      have hl := h1 s hs
      have q1 := add9 (a := numT y) (b := [58, 32]) (by simp; omega)
      have q2 := add9 (a := numT y ++ [58, 32]) (b := s) (by simp; omega)
      simp [oneF, sy, q1, q2])
    rw [this]
    show _ = some (List.map (fun t => D.str (T9 t)) (List.map (fun s => numT y ++ [58, 32] ++ s) (ordersS a b c d)))
    rw [List.map_map]
    rfl
  refine fn_rt (n := 9) (ds := [.int y, .int a, .int b, .int c, .int d, .str (T9 mo)]) ?_
  show X__law_orders [.sh (.int y), .sh (.int a), .sh (.int b), .sh (.int c), .sh (.int d), .sh (.str (T9 mo)), .un, .un, .un] = _
  unfold X__law_orders
  rw [lit_dd, lit_cb, lit_sb, lit_b, lt_ddd, lt_d, lt_b0, lt_bp, lt_bm0, lt_kb, lt_1, lt_0, lt_dd1, lt_nsb, lt_sbn]
  refine (run_seq (ρ' := [.sh (.int y), .sh (.int a), .sh (.int b), .sh (.int c), .sh (.int d), .sh (.str (T9 mo)), .sh (.str (T9 (ST a b))), .un, .un]) (by simp (disch := (first | (simp <;> omega) | omega)) [add9, sa, sb])).trans ?_
  refine (run_seq (ρ' := [.sh (.int y), .sh (.int a), .sh (.int b), .sh (.int c), .sh (.int d), .sh (.str (T9 mo)), .sh (.str (T9 (ST a b))), .sh (.lst (sD ((ordersS a b c d).take 4))), .un]) (by simp (disch := (first | (simp <;> omega) | omega)) [add9, sa, sb, sc, sb1, lm4, ordersS])).trans ?_
  refine (run_seq (ρ' := [.sh (.int y), .sh (.int a), .sh (.int b), .sh (.int c), .sh (.int d), .sh (.str (T9 mo)), .sh (.str (T9 (ST a b))), .sh (.lst (sD ((ordersS a b c d).take 8))), .un]) (by simp (disch := (first | (simp <;> omega) | omega)) [add9, addL, sa, sb, lm4, ordersS])).trans ?_
  refine (run_seq (ρ' := [.sh (.int y), .sh (.int a), .sh (.int b), .sh (.int c), .sh (.int d), .sh (.str (T9 mo)), .sh (.str (T9 (ST a b))), .sh (.lst (sD ((ordersS a b c d).take 12))), .un]) (by simp (disch := (first | (simp <;> omega) | omega)) [add9, addL, sb, ad, td, lm4, ordersS])).trans ?_
  refine (run_seq (ρ' := [.sh (.int y), .sh (.int a), .sh (.int b), .sh (.int c), .sh (.int d), .sh (.str (T9 mo)), .sh (.str (T9 (ST a b))), .sh (.lst (sD (ordersS a b c d))), .un]) (by simp (disch := (first | (simp <;> omega) | omega)) [add9, addL, sc, sd, rp, zz, lm4, ordersS])).trans ?_
  have ls : (ordersS a b c d).length = 16 := rfl
  refine (run_seq (ρ' := [.sh (.int y), .sh (.int a), .sh (.int b), .sh (.int c), .sh (.int d), .sh (.str (T9 mo)), .sh (.str (T9 (ST a b))), .sh (.lst (sD (ordersS a b c d))), .sh (.lst (sD ((ordersS a b c d).map fun s => numT y ++ [58, 32] ++ s)))]) (by
    generalize ordersS a b c d = os at k ls ⊢
    have k' := k
    simp only [sD] at k' ⊢
    simp [k', ls, lm16])).trans ?_
  have lL : (sD ((ordersS a b c d).map fun s => numT y ++ [58, 32] ++ s)).length = 16 := rfl
  show _ = some (Out.rt (.lst (sD (((ordersS a b c d).map fun s => numT y ++ [58, 32] ++ s) ++ ordersT y a b c mo))))
  rw [show sD (((ordersS a b c d).map fun s => numT y ++ [58, 32] ++ s) ++ ordersT y a b c mo) = sD ((ordersS a b c d).map fun s => numT y ++ [58, 32] ++ s) ++ sD (ordersT y a b c mo) from List.map_append]
  generalize sD ((ordersS a b c d).map fun s => numT y ++ [58, 32] ++ s) = ll at lL ⊢
  refine (run_seq (ρ' := [.sh (.int y), .sh (.int a), .sh (.int b), .sh (.int c), .sh (.int d), .sh (.str (T9 mo)), .sh (.str (T9 (ST a b))), .sh (.lst (sD (ordersS a b c d))), .sh (.lst (ll ++ sD ((ordersT y a b c mo).take 2)))]) (by simp (disch := (first | (simp <;> omega) | omega)) [add9, addL, sy, sc, sy1, lm2, lL, ordersT])).trans ?_
  refine (run_seq (ρ' := [.sh (.int y), .sh (.int a), .sh (.int b), .sh (.int c), .sh (.int d), .sh (.str (T9 mo)), .sh (.str (T9 (ST a b))), .sh (.lst (sD (ordersS a b c d))), .sh (.lst (ll ++ sD ((ordersT y a b c mo).take 4)))]) (by simp (disch := (first | (simp <;> omega) | omega)) [add9, addL, sy, sa, rp, zz, lm2, lL, ordersT])).trans ?_
  simp (disch := (first | (simp <;> omega) | omega)) [add9, addL, ay, ty, lm3, lL, ordersT]
theorem things_is (t : List Nat) (p : D) : m__law_things [.str (T9 t), p] = some (.lst (thingsL t p)) := by
  have lm13 := lim7 (n := 13) (by decide); have lm1 := lim7 (n := 1) (by decide); have lm0 := lim7 (n := 0) (by decide)
  have e1 : Str.ofString "Nothing" = T9 [78, 111, 116, 104, 105, 110, 103] := (lit9 _).trans (by decide)
  have e2 : Str.ofString "nothing " = T9 [110, 111, 116, 104, 105, 110, 103, 32] := (lit9 _).trans (by decide)
  have e3 : Str.ofString " nothing" = T9 [32, 110, 111, 116, 104, 105, 110, 103] := (lit9 _).trans (by decide)
  have e4 : Str.ofString "nothin" = T9 [110, 111, 116, 104, 105, 110] := (lit9 _).trans (by decide)
  have e5 : Str.ofString "none" = T9 [110, 111, 110, 101] := (lit9 _).trans (by decide)
  unfold m__law_things mo__law_things X__law_things
  rw [e1, e2, e3, e4, e5]
  simp [fnO, thingsL, lm13, lm1, lm0]
end P
namespace P
open PySem L2 M PySem.NumText StrLaws Rw
theorem nt_of {t : List Nat} (ho : (t.all fun c => decide (c < 1114112)) = true) (hn : t ≠ noth) (h : RS t) : NT (.str (T9 t)) := nt_bad (sm_of ho) hn h
theorem blanks_bad {y a b c d : Int} (H : Nm y a b c d) : ∀ t ∈ blanksL (numT y) (LN a b c) (MR y a b d), NT (.str (T9 t)) := by
  intro t h
  have q : ∀ n, ((numT n).all fun c => decide (c < 1114112)) = true := fun n => all_of (numT_sm n)
  simp only [blanksL, List.mem_cons, List.not_mem_nil, or_false] at h
  rcases h with rfl | rfl | rfl | rfl | rfl | rfl | rfl | rfl | rfl | rfl | rfl | rfl | rfl | rfl | rfl | rfl | rfl | rfl | rfl | rfl | rfl | rfl | rfl
  · exact nt_of (by simp [List.all_append, q]) (ne_noth 58 (by simp) (by decide)) (t_1 H)
  · exact nt_of (by simp [List.all_append, q]) (ne_noth 58 (by simp) (by decide)) (t_2 H)
  · exact nt_of (by simp [List.all_append, q]) (ne_noth 58 (by simp) (by decide)) (t_3 H)
  · exact nt_of (by simp [List.all_append, q]) (ne_noth 58 (by simp) (by decide)) (t_4 H)
  · exact nt_of (by simp [List.all_append, q]) (ne_noth 58 (by simp) (by decide)) (t_5 H)
  · exact nt_of (by simp [List.all_append, q]) (ne_noth 46 (by simp) (by decide)) (t_6 H)
  · exact nt_of (by simp [List.all_append, q]) (ne_noth 46 (by simp) (by decide)) (t_7 H)
  · exact nt_of (by simp [List.all_append, q]) (ne_noth 58 (by simp) (by decide)) (t_8 H)
  · exact nt_of (by simp [List.all_append, q]) (ne_noth 58 (by simp) (by decide)) (t_9 H)
  · exact nt_of (by simp [List.all_append, q]) (ne_noth 58 (by simp) (by decide)) (t_10 H)
  · exact nt_of (by simp [List.all_append, q]) (ne_noth 58 (by simp) (by decide)) (t_11 H)
  · exact nt_of (by simp [List.all_append, q]) (ne_noth 58 (by simp) (by decide)) (t_12 H)
  · exact nt_of (by simp [List.all_append, q]) (ne_noth 58 (by simp) (by decide)) (t_13 H)
  · exact nt_of (by simp [List.all_append, q]) (ne_noth 58 (by simp) (by decide)) (t_14 H)
  · refine nt_of (q y) (fun e => ?_) (t_15 H)
    have := numT_mem y 110 (by rw [e]; decide)
    omega
  · exact nt_of (by decide) (by decide) t_16
  · exact nt_of (by decide) (by decide) t_17
  · exact nt_of (by decide) (by decide) t_18
  · exact nt_of (by decide) (by decide) t_19
  · exact nt_of (by simp [List.all_append, q]) (ne_noth 58 (by simp) (by decide)) (t_20 H)
  · exact nt_of (by simp [List.all_append, q]) (ne_noth 58 (by simp) (by decide)) (t_21 H)
  · exact nt_of (by simp [List.all_append, q]) (ne_noth 58 (by simp) (by decide)) (t_22 H)
  · exact nt_of (by decide) (by decide) t_23
theorem orders_bad {y a b c d : Int} (H : Nm y a b c d) : ∀ t ∈ ordersL y a b c d (numT y ++ [58, 32] ++ LN a b c), NT (.str (T9 t)) := by
  intro t h
  have q : ∀ n, ((numT n).all fun c => decide (c < 1114112)) = true := fun n => all_of (numT_sm n)
  have ql : ∀ n, ((numL n).all fun c => decide (c < 1114112)) = true := fun n => all_of (numL_sm n)
  have qz := z_sm
  simp only [ordersL, ordersS, ordersT, List.map_cons, List.map_nil, List.cons_append, List.nil_append, List.mem_cons, List.not_mem_nil, or_false] at h
  rcases h with rfl | rfl | rfl | rfl | rfl | rfl | rfl | rfl | rfl | rfl | rfl | rfl | rfl | rfl | rfl | rfl | rfl | rfl | rfl | rfl | rfl | rfl | rfl
  · exact nt_24 H
  · exact nt_25 H
  · exact nt_26 H
  · exact nt_27 H
  · exact nt_28 H
  · exact nt_29 H
  · exact nt_of (by simp [List.all_append, q]) (ne_noth 58 (by simp) (by decide)) (t_30 H)
  · exact nt_of (by simp [List.all_append, q]) (ne_noth 58 (by simp) (by decide)) (t_31 H)
  · exact nt_of (by simp [List.all_append, q]) (ne_noth 58 (by simp) (by decide)) (t_32 H)
  · exact nt_of (by simp [List.all_append, q]) (ne_noth 58 (by simp) (by decide)) (t_33 H)
  · exact nt_of (by simp [List.all_append, q, ql]) (ne_noth 58 (by simp) (by decide)) (t_34 H)
  · exact nt_of (by simp [List.all_append, q, ql]) (ne_noth 58 (by simp) (by decide)) (t_35 H)
  · exact nt_of (by simp [List.all_append, q]) (ne_noth 58 (by simp) (by decide)) (t_36 H)
  · exact nt_37 H
  · exact nt_of (by simp [List.all_append, q]) (ne_noth 58 (by simp) (by decide)) (t_38 H)
  · exact nt_of (by simp [List.all_append, q, qz]) (ne_noth 58 (by simp) (by decide)) (t_39 H)
  · exact nt_40 H
  · exact nt_41 H
  · exact nt_of (by simp [List.all_append, q, qz]) (ne_noth 58 (by simp) (by decide)) (t_42 H)
  · exact nt_of (by simp [List.all_append, q, qz]) (ne_noth 58 (by simp) (by decide)) (t_43 H)
  · exact nt_of (by simp [List.all_append, q, ql]) (ne_noth 58 (by simp) (by decide)) (t_44 H)
  · exact nt_of (by simp [List.all_append, q]) (ne_noth 58 (by simp) (by decide)) (t_45 H)
  · exact nt_of (by simp [List.all_append, q]) (ne_noth 58 (by simp) (by decide)) (t_46 H)
theorem things_bad (t : List Nat) (l : List D) : ∀ d ∈ thingsL t (.tup l), NT d := by
  intro d h
  simp only [thingsL, List.mem_cons, List.not_mem_nil, or_false] at h
  rcases h with rfl | rfl | rfl | rfl | rfl | rfl | rfl | rfl | rfl | rfl | rfl | rfl | rfl
  · exact nt_of (by decide) (by decide) (wordT 78 (by decide) (by decide) (by decide) (by decide) (by decide) (by decide) (by decide))
  · exact nt_of (by decide) (by decide) (wordT 110 (by decide) (by decide) (by decide) (by decide) (by decide) (by decide) (by decide))
  · exact nt_of (by decide) (by decide) (wordT 110 (by decide) (by decide) (by decide) (by decide) (by decide) (by decide) (by decide))
  · exact nt_of (by decide) (by decide) (wordT 110 (by decide) (by decide) (by decide) (by decide) (by decide) (by decide) (by decide))
  · exact nt_of (by decide) (by decide) (wordT 110 (by decide) (by decide) (by decide) (by decide) (by decide) (by decide) (by decide))
  all_goals exact nt_else (by simp [bIsi, isiM, tyD, subM])
theorem signed_is (c m : Int) (h : 0 < m) : ∃ v : Int, m__law_signed [.int c, .int m] = some (.int v) ∧ -m < v ∧ v < m := by
  by_cases hc : c < 0
  · refine ⟨0 - (0 - c) % m, by simp [m__law_signed, mo__law_signed, fnO, X__law_signed, hc, h], ?_⟩
    have h1 := Int.emod_nonneg (0 - c) (b := m) (by omega)
    have h2 := Int.emod_lt_of_pos (0 - c) h
    omega
  · refine ⟨c % m, by simp [m__law_signed, mo__law_signed, fnO, X__law_signed, hc, h], ?_⟩
    have h1 := Int.emod_nonneg c (b := m) (by omega)
    have h2 := Int.emod_lt_of_pos c h
    omega
theorem pow_is (n : Int) (h : 0 ≤ n ∧ n ≤ 1000) : dPow (.int 10) (.int n) = some (.int (10 ^ n.toNat)) := v_pow ⟨h.1, by omega, by decide⟩
theorem two_of (u P m : Int) (h0 : 0 < u) (h : u ≤ P) : ∃ f : Int, atI [D.int u, D.int P] (m % 2) = some (.int f) ∧ 0 < f ∧ f ≤ P := by
  rcases (show m % 2 = 0 ∨ m % 2 = 1 by omega) with e | e <;> rw [e]
  · exact ⟨u, atI_of (j := 0) rfl, h0, h⟩
  · exact ⟨P, atI_of (j := 1) rfl, by omega, Int.le_refl _⟩
theorem numbers_is (u v : Int) : ∃ y a b c d : Int, m__law_numbers [.int u, .int v] = some (.lst [.int y, .int a, .int b, .int c, .int d]) ∧ Nm y a b c d := by
  obtain ⟨A, hA⟩ : ∃ A : Int, (10 : Int) ^ 58 = A := ⟨_, rfl⟩
  obtain ⟨B, hB⟩ : ∃ B : Int, (10 : Int) ^ 57 = B := ⟨_, rfl⟩
  have a9 : 9 ≤ A := by rw [← hA]; decide
  have b9 : 9 ≤ B := by rw [← hB]; decide
  have AB : A = 10 * B := by rw [← hA, ← hB]; decide
  have pA : dPow (.int 10) (.int 58) = some (.int A) := by rw [← hA]; exact pow_is 58 (by decide)
  have pB : dPow (.int 10) (.int 57) = some (.int B) := by rw [← hB]; exact pow_is 57 (by decide)
  have big : ((10 ^ 60 : Nat) : Int) = 100 * A := by rw [← hA]; decide
  obtain ⟨m, hm⟩ : ∃ m : Int, u * 48271 % 2147483647 / 37 = m := ⟨_, rfl⟩
  obtain ⟨f1, q1, q2, q3⟩ := two_of 7 A m (by decide) (by omega)
  obtain ⟨a, t1, t2, t3⟩ := signed_is u f1 q2
  obtain ⟨f2, q4, q5, q6⟩ := two_of 3 B (m / 2) (by decide) (by omega)
  obtain ⟨f3, q7, q8, q9⟩ := two_of 7 A (m / 16) (by decide) (by omega)
  obtain ⟨y, t4, t5, t6⟩ := signed_is v f3 q8
  have e1 := Int.emod_nonneg v (b := f2) (by omega)
  have e2 := Int.emod_lt_of_pos v q5
  have mf := v_mod (i := v) q5
  have lm2 := lim7 (n := 2) (by decide); have lm5 := lim7 (n := 5) (by decide)
  refine ⟨y, a, a + 1 + v % f2, a + 1 + v % f2 + 2 + m / 4 % 3, a + 1 + v % f2 + 2 + m / 4 % 3 + 1 + m / 32 % 4, ?_, ?_⟩
  · simp [m__law_numbers, mo__law_numbers, fnO, X__law_numbers, hm, pA, pB, q1, q4, q7, t1, t4, mf, q5, lm2, lm5]
  · constructor <;> first | (show Int.natAbs _ < 10 ^ 60; omega) | omega
theorem dNe_pic (p : Pic) : dEq true (picD p) (picD p) = some (.bl false) := dEq_self true (okD_picT p)
theorem dEq_pic (p : Pic) : dEq false (picD p) (picD p) = some (.bl true) := dEq_self false (okD_picT p)
theorem one_is (u v : Int) : m__law_one [.int u, .int v] = some (.bl true) := by
  obtain ⟨y, a, b, c, d, hn, H⟩ := numbers_is u v
  have h1 := H.ab; have h2 := H.bc; have h3 := H.cd
  obtain ⟨l1, l2, l3, l4, l5, l6, l7⟩ := lens H
  have sy := strI_num H.y0; have sy1 := strI_num H.y1; have sa := strI_num H.a0; have sb := strI_num H.b0; have sc := strI_num H.c0; have sd := strI_num H.d0
  have bl := blanks_is (Y := numT y) (Ln := LN a b c) (Mr := MR y a b d) (by omega) (by simp; omega) (by simp; omega)
  have od := orders_is H (mo := numT y ++ [58, 32] ++ LN a b c) (by simp; omega)
  have pk1 : POk [(y, [(a, b), (c, c)])] := ⟨by simp, fun q hq => by rw [List.mem_singleton.mp hq]; exact ⟨H.y0, rok2 H⟩⟩
  have rd2 : ROk [(a, b), (d, d)] := ⟨by simp, fun s hs => by
    rcases List.mem_cons.mp hs with rfl | hs
    · exact ⟨H.a0, H.b0⟩
    · rw [List.mem_singleton.mp hs]; exact ⟨H.d0, H.d0⟩⟩
  have cd2 : Canon [(a, b), (d, d)] := by
    refine ⟨fun s hs => ?_, by simp; omega⟩
    rcases List.mem_cons.mp hs with rfl | hs
    · show a ≤ b; omega
    · rw [List.mem_singleton.mp hs]; exact Int.le_refl _
  have pk2 : POk [(y, [(a, b), (c, c)]), (y + 1, [(a, b), (d, d)])] := ⟨by simp, fun q hq => by
    rcases List.mem_cons.mp hq with rfl | hq
    · exact ⟨H.y0, rok2 H⟩
    · rw [List.mem_singleton.mp hq]; exact ⟨H.y1, rd2⟩⟩
  have r1 := read_is (p := [(y, [(a, b), (c, c)])]) ⟨fun q hq => by rw [List.mem_singleton.mp hq]; exact ⟨can2 H, by simp⟩, List.pairwise_singleton _ _⟩ pk1 (by simp) (by simp [strOf])
  have r2 := read_is (p := [(y, [(a, b), (c, c)]), (y + 1, [(a, b), (d, d)])]) ⟨fun q hq => by
    rcases List.mem_cons.mp hq with rfl | hq
    · exact ⟨can2 H, by simp⟩
    · rw [List.mem_singleton.mp hq]; exact ⟨cd2, by simp⟩, by simp; omega⟩ pk2 (by simp) (by simp [strOf])
  have e1 : pcT [(y, [(a, b), (c, c)])] = numT y ++ [58, 32] ++ LN a b c := by
    show numT y ++ ([58, 32] ++ rwT [(a, b), (c, c)]) = _
    rw [rw2 H]
    simp [LN]
  have e2 : pcT [(y, [(a, b), (c, c)]), (y + 1, [(a, b), (d, d)])] = numT y ++ [58, 32] ++ LN a b c ++ [59, 32] ++ MR y a b d := by
    show jn [59, 32] [numT y ++ ([58, 32] ++ rwT [(a, b), (c, c)]), numT (y + 1) ++ ([58, 32] ++ rwT [(a, b), (d, d)])] = _
    have : rwT [(a, b), (d, d)] = numT a ++ ([46, 46] ++ numT b) ++ ([32] ++ numT d) := by
      show jn [32] [stT (a, b), stT (d, d)] = _
      rw [stT_ab h1, stT_cc]
      rfl
    rw [rw2 H, this]
    simp [LN, MR, jn]
  rw [e1] at r1
  rw [e2] at r2
  have q1 := dNe_pic [(y, [(a, b), (c, c)])]
  have q2 := dEq_pic [(y, [(a, b), (c, c)])]
  have q3 := dEq_pic [(y, [(a, b), (c, c)]), (y + 1, [(a, b), (d, d)])]
  have th := things_is (LN a b c) (picD [(y, [(a, b), (c, c)])])
  obtain ⟨j, hj⟩ : ∃ j : Int, (u * 39373 + v) % 2147483629 / 37 = j := ⟨_, rfl⟩
  have lb : (sD (blanksL (numT y) (LN a b c) (MR y a b d))).length = 23 := rfl
  have lo : (sD (ordersL y a b c d (numT y ++ [58, 32] ++ LN a b c))).length = 23 := rfl
  have lt : (thingsL (LN a b c) (picD [(y, [(a, b), (c, c)])])).length = 13 := rfl
  have bad : ∀ x ∈ sD (blanksL (numT y) (LN a b c) (MR y a b d)) ++ sD (ordersL y a b c d (numT y ++ [58, 32] ++ LN a b c)) ++ thingsL (LN a b c) (picD [(y, [(a, b), (c, c)])]), NT x := fun x hx => by
    rcases List.mem_append.mp hx with hx | hx
    · rcases List.mem_append.mp hx with hx | hx
      · obtain ⟨t, ht, rfl⟩ := List.mem_map.mp hx
        exact blanks_bad H t ht
      · obtain ⟨t, ht, rfl⟩ := List.mem_map.mp hx
        exact orders_bad H t ht
    · exact things_bad _ _ x hx
  generalize sD (blanksL (numT y) (LN a b c) (MR y a b d)) = lB at bl lb bad
  generalize sD (ordersL y a b c d (numT y ++ [58, 32] ++ LN a b c)) = lO at od lo bad
  have pd : picD [(y, [(a, b), (c, c)])] = .tup [.tup [.int y, .tup [.tup [.int a, .int b], .tup [.int c, .int c]]]] := rfl
  have pd2 : picD [(y, [(a, b), (c, c)]), (y + 1, [(a, b), (d, d)])] = .tup [.tup [.int y, .tup [.tup [.int a, .int b], .tup [.int c, .int c]]], .tup [.int (y + 1), .tup [.tup [.int a, .int b], .tup [.int d, .int d]]]] := rfl
  generalize thingsL (LN a b c) (picD [(y, [(a, b), (c, c)])]) = lT at th lt bad
  rw [pd] at q1 q2 th r1
  rw [pd2] at q3 r2
  have len : (lB ++ lO ++ lT).length = 59 := by rw [List.length_append, List.length_append, lb, lo, lt]
  obtain ⟨x, hx, hi⟩ : ∃ x ∈ lB ++ lO ++ lT, atI (lB ++ lO ++ lT) (j % 59) = some x := by
    obtain ⟨k, hk⟩ := Int.eq_ofNat_of_zero_le (show 0 ≤ j % 59 by omega)
    have hl : k < (lB ++ lO ++ lT).length := by rw [len]; omega
    refine ⟨(lB ++ lO ++ lT)[k], List.getElem_mem hl, ?_⟩
    rw [hk]
    exact atI_of (List.getElem?_eq_getElem hl)
  have f := refused_ok x (bad x hx)
  have lm1 := lim7 (n := 1) (by decide); have lm2 := lim7 (n := 2) (by decide); have lm59 := lim7 (n := 59) (by decide)
  have s1 := addL (a := lB) (b := lO) (by omega)
  have s2 := addL (a := lB ++ lO) (b := lT) (by rw [List.length_append]; omega)
  have ta : ∀ p q : List D, p.length + q.length ≤ 100 → dAdd (.tup p) (.tup q) = some (.tup (p ++ q)) := fun p q h => by
    show (if p.length + q.length ≤ LIM then some (D.tup (p ++ q)) else none) = _
    rw [if_pos (lim7 h)]
  refine fn_rt (n := 13) (ds := [.int u, .int v]) ?_
  show X__law_one [.sh (.int u), .sh (.int v), .un, .un, .un, .un, .un, .un, .un, .un, .un, .un, .un] = _
  unfold X__law_one
  rw [lit_dd, lit_b, lit_cb, lit_sb]
  refine (run_seq (ρ' := [.sh (.int u), .sh (.int v), .sh (.int y), .sh (.int a), .sh (.int b), .sh (.int c), .sh (.int d), .un, .un, .un, .un, .un, .un]) (by simp [hn, xgLst, xgCons, xgNil])).trans ?_
  refine (run_seq (ρ' := [.sh (.int u), .sh (.int v), .sh (.int y), .sh (.int a), .sh (.int b), .sh (.int c), .sh (.int d), .sh (.str (T9 (LN a b c))), .un, .un, .un, .un, .un]) (by simp (disch := (first | (simp <;> omega) | omega)) [add9, sa, sb, sc])).trans ?_
  refine (run_seq (ρ' := [.sh (.int u), .sh (.int v), .sh (.int y), .sh (.int a), .sh (.int b), .sh (.int c), .sh (.int d), .sh (.str (T9 (LN a b c))), .sh (.str (T9 (MR y a b d))), .un, .un, .un, .un]) (by simp (disch := (first | (simp <;> omega) | omega)) [add9, sy1, sa, sb, sd])).trans ?_
  have lL : (LN a b c).length ≤ 190 := by simp; omega
  have lM : (MR y a b d).length ≤ 260 := by simp; omega
  generalize LN a b c = ln at bl od th r1 r2 lL ⊢
  generalize MR y a b d = mr at bl r2 lM ⊢
  have dx1 := add9 (a := numT y) (b := [58, 32]) (by simp; omega)
  have dx2 := add9 (a := numT y ++ [58, 32]) (b := ln) (by simp; omega)
  have d1 := add9 (a := numT y ++ [58, 32] ++ ln) (b := [59, 32]) (by simp; omega)
  have d2 := add9 (a := numT y ++ [58, 32] ++ ln ++ [59, 32]) (b := mr) (by simp; omega)
  generalize numT y ++ [58, 32] ++ ln ++ [59, 32] ++ mr = ty at d2 r2
  generalize numT y ++ [58, 32] ++ ln ++ [59, 32] = tz at d1 d2
  generalize numT y ++ [58, 32] ++ ln = tx at dx2 d1 od r1
  generalize numT y ++ [58, 32] = yc at dx1 dx2
  generalize numT y = yt at sy bl dx1
  have lnB : bLen [.lst (lB ++ lO ++ lT)] = some (.int 59) := by
    show some (D.int ((lB ++ lO ++ lT).length : Nat)) = _
    rw [len]
    rfl
  have m59 : dMod (.int j) (.int 59) = some (.int (j % 59)) := v_mod (by decide)
  generalize lB ++ lO ++ lT = lA at lnB hi s2
  generalize lB ++ lO = lBO at s1 s2
  refine (run_seq (ρ' := [.sh (.int u), .sh (.int v), .sh (.int y), .sh (.int a), .sh (.int b), .sh (.int c), .sh (.int d), .sh (.str (T9 ln)), .sh (.str (T9 mr)), .sh (.tup [.tup [.int y, .tup [.tup [.int a, .int b], .tup [.int c, .int c]]]]), .un, .un, .un]) (by simp [lm1, lm2])).trans ?_
  refine (run_seq (ρ' := [.sh (.int u), .sh (.int v), .sh (.int y), .sh (.int a), .sh (.int b), .sh (.int c), .sh (.int d), .sh (.str (T9 ln)), .sh (.str (T9 mr)), .sh (.tup [.tup [.int y, .tup [.tup [.int a, .int b], .tup [.int c, .int c]]]]), .sh (.tup [.tup [.int y, .tup [.tup [.int a, .int b], .tup [.int c, .int c]]], .tup [.int (y + 1), .tup [.tup [.int a, .int b], .tup [.int d, .int d]]]]), .un, .un]) (by simp [lm1, lm2, ta])).trans ?_
  refine (run_seq (ρ' := [.sh (.int u), .sh (.int v), .sh (.int y), .sh (.int a), .sh (.int b), .sh (.int c), .sh (.int d), .sh (.str (T9 ln)), .sh (.str (T9 mr)), .sh (.tup [.tup [.int y, .tup [.tup [.int a, .int b], .tup [.int c, .int c]]]]), .sh (.tup [.tup [.int y, .tup [.tup [.int a, .int b], .tup [.int c, .int c]]], .tup [.int (y + 1), .tup [.tup [.int a, .int b], .tup [.int d, .int d]]]]), .sh (.lst (lBO)), .un]) (by simp [sy, dx1, dx2, bl, od, s1])).trans ?_
  refine (run_seq (ρ' := [.sh (.int u), .sh (.int v), .sh (.int y), .sh (.int a), .sh (.int b), .sh (.int c), .sh (.int d), .sh (.str (T9 ln)), .sh (.str (T9 mr)), .sh (.tup [.tup [.int y, .tup [.tup [.int a, .int b], .tup [.int c, .int c]]]]), .sh (.tup [.tup [.int y, .tup [.tup [.int a, .int b], .tup [.int c, .int c]]], .tup [.int (y + 1), .tup [.tup [.int a, .int b], .tup [.int d, .int d]]]]), .sh (.lst lA), .un]) (by simp [th, s2])).trans ?_
  refine (run_seq (ρ' := [.sh (.int u), .sh (.int v), .sh (.int y), .sh (.int a), .sh (.int b), .sh (.int c), .sh (.int d), .sh (.str (T9 ln)), .sh (.str (T9 mr)), .sh (.tup [.tup [.int y, .tup [.tup [.int a, .int b], .tup [.int c, .int c]]]]), .sh (.tup [.tup [.int y, .tup [.tup [.int a, .int b], .tup [.int c, .int c]]], .tup [.int (y + 1), .tup [.tup [.int a, .int b], .tup [.int d, .int d]]]]), .sh (.lst lA), .sh (.str (T9 tx))]) (by simp [sy, dx1, dx2])).trans ?_
  refine (run_seq (ρ' := [.sh (.int u), .sh (.int v), .sh (.int y), .sh (.int a), .sh (.int b), .sh (.int c), .sh (.int d), .sh (.str (T9 ln)), .sh (.str (T9 mr)), .sh (.tup [.tup [.int y, .tup [.tup [.int a, .int b], .tup [.int c, .int c]]]]), .sh (.tup [.tup [.int y, .tup [.tup [.int a, .int b], .tup [.int c, .int c]]], .tup [.int (y + 1), .tup [.tup [.int a, .int b], .tup [.int d, .int d]]]]), .sh (.lst lA), .sh (.str (T9 tx))]) (by simp [r1, q1, hj, lnB, m59, hi, f])).trans ?_
  simp [d1, d2, r1, r2, q2, q3]
theorem m_law_is (ns : List Int) (h : ns.length ≤ 63) : m_law [.scr (ns.map D.int)] = some (.bl true) := by
  have mn : bMin2 [.int ns.length, .int 63] = some (.int ns.length) := by
    show some (D.int (if (63 : Int) < ns.length then 63 else ns.length)) = _
    rw [if_neg (by omega)]
  have bl : bLen [.scr (ns.map D.int)] = some (.int ns.length) := by
    show some (D.int ((ns.map D.int).length : Nat)) = _
    rw [List.length_map]
  have hr : rngD [.int ns.length] = some ((List.range ns.length).map fun k : Nat => D.int (k : Int)) := by
    rw [v_rng (by omega), Int.toNat_natCast, intsD_is]
  obtain ⟨ρ', k1, v1, rfl⟩ := loopF_inv (g := xgName 1) (m := B_law_0) (fun k : Nat => D.int (k : Int)) (fun pre ρ => ∃ v1, ρ = [.sh (.scr (ns.map D.int)), v1]) (List.range ns.length) [.sh (.scr (ns.map D.int)), .un] ⟨.un, rfl⟩ (by
    rintro pre k post _ e ⟨v1, rfl⟩
    have hk : k < ns.length := List.mem_range.mp (by rw [e]; simp)
    have hk2 : (k + 1) % ns.length < ns.length := Nat.mod_lt _ (by omega)
    have a1 : atI (ns.map D.int) (k : Int) = some (.int ns[k]) := atI_of (by rw [List.getElem?_map, List.getElem?_eq_getElem hk]; rfl)
    have a2 : atI (ns.map D.int) ((((k + 1) % ns.length : Nat)) : Int) = some (.int ns[(k + 1) % ns.length]) := atI_of (by rw [List.getElem?_map, List.getElem?_eq_getElem hk2]; rfl)
    have e2 : ((((k + 1) % ns.length : Nat)) : Int) = ((k : Int) + 1) % (ns.length : Int) := by rw [Int.natCast_emod]; rfl
    rw [e2] at a2
    have m2 : dMod (.int ((k : Int) + 1)) (.int (ns.length : Int)) = some (.int (((k : Int) + 1) % (ns.length : Int))) := v_mod (by omega)
    have o := one_is ns[k] ns[(k + 1) % ns.length]
    refine ⟨_, [.sh (.scr (ns.map D.int)), .sh (.int (k : Int))], rfl, .inl ?_, _, rfl⟩
    simp only [B_law_0]
    generalize ns.map D.int = sc at a1 a2 bl
    simp [a1, a2, bl, m2, o])
  generalize ns.map D.int = sc at bl k1
  simp [m_law, mo_law, fnO, X_law, bl, mn, hr, k1]
end P
namespace Lw
open PySem L2 M P
noncomputable def top (i : Nat) : Stmt := PySem.Challenge.pw_shapethin_k23_texts_of_no_picture.main.body.getD i (.Pass ⟨0, 0, 0, 0⟩)
noncomputable abbrev s_row_of : Stmt := top 10
noncomputable abbrev s_picture_of : Stmt := top 12
noncomputable abbrev s_show : Stmt := top 17
noncomputable abbrev s_show_row : Stmt := top 18
noncomputable abbrev s_show_stretch : Stmt := top 19
noncomputable abbrev s_read : Stmt := top 20
noncomputable abbrev s_read_stretches : Stmt := top 21
noncomputable abbrev s_read_stretch : Stmt := top 22
noncomputable abbrev s_read_whole : Stmt := top 23
noncomputable abbrev s_writes_whole : Stmt := top 24
noncomputable abbrev s__law_signed : Stmt := top 26
noncomputable abbrev s__law_numbers : Stmt := top 27
noncomputable abbrev s__law_blanks : Stmt := top 28
noncomputable abbrev s__law_orders : Stmt := top 29
noncomputable abbrev s__law_things : Stmt := top 30
noncomputable abbrev s__law_refused : Stmt := top 31
noncomputable abbrev s__law_one : Stmt := top 32
noncomputable abbrev s_law : Stmt := top 33
structure Txt (K : PySem.W.Frag) (mg : Str → Option Value) : Prop where
  ValueError : mg "ValueError" = none
  abs : mg "abs" = none
  all : mg "all" = none
  int : mg "int" = none
  isinstance : mg "isinstance" = none
  len : mg "len" = none
  max : mg "max" = none
  min : mg "min" = none
  range : mg "range" = none
  sorted : mg "sorted" = none
  str : mg "str" = none
  tuple : mg "tuple" = none
  FIGURES : ∃ t : Tok, mg "FIGURES" = some (.str (Str.ofString "0123456789") t)
  MOST_FIGURES : ∃ t : Tok, mg "MOST_FIGURES" = some (.int (60) t)
  WITHOUT_CELLS : ∃ t : Tok, mg "WITHOUT_CELLS" = some (.str (Str.ofString "nothing") t)
  xc_ShapeError : ∃ T : Addr, mg "ShapeError" = some (.ref T) ∧ ∀ N ∈ xNs, ∀ C : Addr, PySem.W.nsIn K mainGlobals N = some (some (.ref C)) → PySem.W.exmOne K (.ref C) (.ref T) = some true
  xa_NoBack : ∃ T : Addr, mg "NoBack" = some (.ref T) ∧ AnsX K ax_NoBack (.ref T)
  xa_NoForm : ∃ T : Addr, mg "NoForm" = some (.ref T) ∧ AnsX K ax_NoForm (.ref T)
  xa_NoName : ∃ T : Addr, mg "NoName" = some (.ref T) ∧ AnsX K ax_NoName (.ref T)
  xa_NoRow : ∃ T : Addr, mg "NoRow" = some (.ref T) ∧ AnsX K ax_NoRow (.ref T)
  xa_NoText : ∃ T : Addr, mg "NoText" = some (.ref T) ∧ AnsX K ax_NoText (.ref T)
  xa_TooGreat : ∃ T : Addr, mg "TooGreat" = some (.ref T) ∧ AnsX K ax_TooGreat (.ref T)
  xa_TooMany : ∃ T : Addr, mg "TooMany" = some (.ref T) ∧ AnsX K ax_TooMany (.ref T)
  xa_ValueError : AnsX K ax_ValueError (.type "ValueError")
  xr_NoText : ∃ C : Addr, PySem.W.nsIn K mainGlobals "NoText" = some (some (.ref C)) ∧ PySem.W.excIn K C bmV "ValueError.__new__" = true ∧ mg "NoText" = some (.ref C)
section
variable {P : Program} {w : World} {K : PySem.W.Frag} {mg : Str → Option Value} {base : Heap}
theorem sc_row_of : FnScope ["pairs", "stretches", "a", "b"] ["pairs"] (defScope s_row_of) := ⟨rfl, rfl, rfl, by decide +kernel, rfl, by decide +kernel, by decide +kernel⟩
theorem sc_show_stretch : FnScope ["a", "b"] ["a", "b"] (defScope s_show_stretch) := ⟨rfl, rfl, rfl, by decide +kernel, rfl, by decide +kernel, by decide +kernel⟩
theorem sc_writes_whole : FnScope ["text", "figures"] ["text"] (defScope s_writes_whole) := ⟨rfl, rfl, rfl, by decide +kernel, rfl, by decide +kernel, by decide +kernel⟩
theorem sc__law_signed : FnScope ["_law_cell", "_law_most"] ["_law_cell", "_law_most"] (defScope s__law_signed) := ⟨rfl, rfl, rfl, by decide +kernel, rfl, by decide +kernel, by decide +kernel⟩
theorem sc__law_blanks : FnScope ["_law_y", "_law_line", "_law_more", "_law_some"] ["_law_y", "_law_line", "_law_more"] (defScope s__law_blanks) := ⟨rfl, rfl, rfl, by decide +kernel, rfl, by decide +kernel, by decide +kernel⟩
theorem sc__law_orders : FnScope ["_law_y", "_law_a", "_law_b", "_law_c", "_law_d", "_law_more", "_law_stretch", "_law_some", "_law_lines"] ["_law_y", "_law_a", "_law_b", "_law_c", "_law_d", "_law_more"] (defScope s__law_orders) := ⟨rfl, rfl, rfl, by decide +kernel, rfl, by decide +kernel, by decide +kernel⟩
theorem sc__law_things : FnScope ["_law_text", "_law_picture"] ["_law_text", "_law_picture"] (defScope s__law_things) := ⟨rfl, rfl, rfl, by decide +kernel, rfl, by decide +kernel, by decide +kernel⟩
theorem sc_picture_of : FnScope ["stretches", "pairs_by_row", "y", "a", "b"] ["stretches"] (defScope s_picture_of) := ⟨rfl, rfl, rfl, by decide +kernel, rfl, by decide +kernel, by decide +kernel⟩
theorem sc_show_row : FnScope ["y", "row", "stretches"] ["y", "row"] (defScope s_show_row) := ⟨rfl, rfl, rfl, by decide +kernel, rfl, by decide +kernel, by decide +kernel⟩
theorem sc_read_whole : FnScope ["text"] ["text"] (defScope s_read_whole) := ⟨rfl, rfl, rfl, by decide +kernel, rfl, by decide +kernel, by decide +kernel⟩
theorem sc__law_numbers : FnScope ["_law_cell", "_law_other", "_law_mixed", "_law_far", "_law_low", "_law_high", "_law_start"] ["_law_cell", "_law_other"] (defScope s__law_numbers) := ⟨rfl, rfl, rfl, by decide +kernel, rfl, by decide +kernel, by decide +kernel⟩
theorem sc_show : FnScope ["picture"] ["picture"] (defScope s_show) := ⟨rfl, rfl, rfl, by decide +kernel, rfl, by decide +kernel, by decide +kernel⟩
theorem sc_read_stretch : FnScope ["y", "text", "ends"] ["y", "text"] (defScope s_read_stretch) := ⟨rfl, rfl, rfl, by decide +kernel, rfl, by decide +kernel, by decide +kernel⟩
theorem sc_read_stretches : FnScope ["text", "stretches", "head", "colon", "tail", "y"] ["text"] (defScope s_read_stretches) := ⟨rfl, rfl, rfl, by decide +kernel, rfl, by decide +kernel, by decide +kernel⟩
theorem sc_read : FnScope ["text", "picture"] ["text"] (defScope s_read) := ⟨rfl, rfl, rfl, by decide +kernel, rfl, by decide +kernel, by decide +kernel⟩
theorem sc__law_refused : FnScope ["_law_thing", "_law_caught", "e"] ["_law_thing"] (defScope s__law_refused) := ⟨rfl, rfl, rfl, by decide +kernel, rfl, by decide +kernel, by decide +kernel⟩
theorem sc__law_one : FnScope ["_law_cell", "_law_other", "_law_y", "_law_a", "_law_b", "_law_c", "_law_d", "_law_line", "_law_more", "_law_picture", "_law_greater", "_law_bad", "_law_text"] ["_law_cell", "_law_other"] (defScope s__law_one) := ⟨rfl, rfl, rfl, by decide +kernel, rfl, by decide +kernel, by decide +kernel⟩
theorem sc_law : FnScope ["_law_script", "_law_k"] ["_law_script"] (defScope s_law) := ⟨rfl, rfl, rfl, by decide +kernel, rfl, by decide +kernel, by decide +kernel⟩
theorem ok__law_blanks {f : Addr} {fd : FuncData} (F : Fun K "_law_blanks" "_law_blanks" s__law_blanks f fd) (T : Txt K mg) : FnOk P w K mg base CX0 1 f fd ["_law_y", "_law_line", "_law_more"] (sp__law_blanks K) := by
  refine F.ok sc__law_blanks (fun vs H Q E h => h.1) (fun cdv A outer s H vs Q E hr h => ?_)
  have nd := (sc__law_blanks).nd
  exact ⟨_, pss_cons (ps_set (i := 3) nd rfl (Or.inl rfl) (pe_lst (pa_cons (pe_op op_addM (pe_op op_addM (pv 0) (pe_str)) (pv 1)) (pa_cons (pe_op op_addM (pe_op op_addM (pe_op op_addM (pv 0) (pe_str)) (pv 1)) (pe_str)) (pa_cons (pe_op op_addM (pe_op op_addM (pe_op op_addM (pe_str) (pv 0)) (pe_str)) (pv 1)) (pa_cons (pe_op op_addM (pe_op op_addM (pv 0) (pe_str)) (pv 1)) (pa_cons (pe_op op_addM (pe_op op_addM (pv 0) (pe_str)) (pv 1)) (pa_cons (pv 1) (pa_nil))))))))) (pss_cons (ps_set (i := 3) nd rfl (Or.inl rfl) (pe_op op_addM (pv 3) (pe_lst (pa_cons (pe_op op_addM (pe_op op_addM (pv 0) (pe_str)) (pv 1)) (pa_cons (pe_op op_addM (pe_op op_addM (pe_op op_addM (pv 0) (pe_str)) (pv 1)) (pv 2)) (pa_cons (pe_op op_addM (pe_op op_addM (pe_op op_addM (pe_op op_addM (pv 0) (pe_str)) (pv 1)) (pe_str)) (pv 2)) (pa_cons (pe_op op_addM (pe_op op_addM (pe_op op_addM (pv 0) (pe_str)) (pv 1)) (pe_str)) (pa_nil)))))))) (pss_cons (ps_set (i := 3) nd rfl (Or.inl rfl) (pe_op op_addM (pv 3) (pe_lst (pa_cons (pe_op op_addM (pe_op op_addM (pe_op op_addM (pe_str) (pv 0)) (pe_str)) (pv 1)) (pa_cons (pe_op op_addM (pe_op op_addM (pe_op op_addM (pe_op op_addM (pv 0) (pe_str)) (pv 1)) (pe_str)) (pv 2)) (pa_cons (pe_op op_addM (pv 0) (pe_str)) (pa_cons (pe_op op_addM (pv 0) (pe_str)) (pa_cons (pv 0) (pa_cons (pe_str) (pa_cons (pe_str) (pa_cons (pe_str) (pa_cons (pe_str) (pa_nil))))))))))))) (pss_one (ps_ret (pe_op op_addM (pv 3) (pe_lst (pa_cons (pe_op op_addM (pe_op op_addM (pe_op op_addM (pv 0) (pe_str)) (pv 1)) (pe_str)) (pa_cons (pe_op op_addM (pe_op op_addM (pe_op op_addM (pe_op op_addM (pv 0) (pe_str)) (pv 1)) (pe_str)) (pv 2)) (pa_cons (pe_op op_addM (pe_op op_addM (pe_op op_addM (pv 0) (pe_str)) (pv 1)) (pe_str)) (pa_cons (pe_str) (pa_nil))))))))))), rd__law_blanks h⟩
theorem ok__law_orders {f : Addr} {fd : FuncData} (F : Fun K "_law_orders" "_law_orders" s__law_orders f fd) (T : Txt K mg) : FnOk P w K mg base CX0 1 f fd ["_law_y", "_law_a", "_law_b", "_law_c", "_law_d", "_law_more"] (sp__law_orders K) := by
  refine F.ok sc__law_orders (fun vs H Q E h => h.1) (fun cdv A outer s H vs Q E hr h => ?_)
  have nd := (sc__law_orders).nd
  exact ⟨_, pss_cons (ps_set (i := 6) nd rfl (Or.inl rfl) (pe_op op_addM (pe_op op_addM (pe_callTy call_strI (by rfl) T.str bt_str (pa_cons (pv 1) (pa_nil))) (pe_str)) (pe_callTy call_strI (by rfl) T.str bt_str (pa_cons (pv 2) (pa_nil))))) (pss_cons (ps_set (i := 7) nd rfl (Or.inl rfl) (pe_lst (pa_cons (pe_op op_addM (pe_op op_addM (pe_callTy call_strI (by rfl) T.str bt_str (pa_cons (pv 3) (pa_nil))) (pe_str)) (pv 6)) (pa_cons (pe_op op_addM (pe_op op_addM (pv 6) (pe_str)) (pe_callTy call_strI (by rfl) T.str bt_str (pa_cons (pe_op op_addM (pv 2) (pe_int)) (pa_nil)))) (pa_cons (pe_op op_addM (pe_op op_addM (pv 6) (pe_str)) (pe_callTy call_strI (by rfl) T.str bt_str (pa_cons (pv 2) (pa_nil)))) (pa_cons (pe_op op_addM (pe_op op_addM (pe_callTy call_strI (by rfl) T.str bt_str (pa_cons (pv 2) (pa_nil))) (pe_str)) (pe_callTy call_strI (by rfl) T.str bt_str (pa_cons (pv 1) (pa_nil)))) (pa_nil))))))) (pss_cons (ps_set (i := 7) nd rfl (Or.inl rfl) (pe_op op_addM (pv 7) (pe_lst (pa_cons (pe_op op_addM (pe_op op_addM (pv 6) (pe_str)) (pv 6)) (pa_cons (pe_op op_addM (pe_op op_addM (pe_callTy call_strI (by rfl) T.str bt_str (pa_cons (pv 1) (pa_nil))) (pe_str)) (pe_callTy call_strI (by rfl) T.str bt_str (pa_cons (pv 1) (pa_nil)))) (pa_cons (pe_op op_addM (pe_op op_addM (pe_callTy call_strI (by rfl) T.str bt_str (pa_cons (pv 1) (pa_nil))) (pe_str)) (pe_callTy call_strI (by rfl) T.str bt_str (pa_cons (pv 2) (pa_nil)))) (pa_cons (pe_op op_addM (pe_op op_addM (pe_callTy call_strI (by rfl) T.str bt_str (pa_cons (pv 1) (pa_nil))) (pe_str)) (pe_callTy call_strI (by rfl) T.str bt_str (pa_cons (pv 2) (pa_nil)))) (pa_nil)))))))) (pss_cons (ps_set (i := 7) nd rfl (Or.inl rfl) (pe_op op_addM (pv 7) (pe_lst (pa_cons (pe_op op_addM (pv 6) (pe_str)) (pa_cons (pe_op op_addM (pe_str) (pe_callTy call_strI (by rfl) T.str bt_str (pa_cons (pv 2) (pa_nil)))) (pa_cons (pe_op op_addM (pe_op op_addM (pv 6) (pe_str)) (pe_callTy call_strI (by rfl) T.str bt_str (pa_cons (pe_callB call_absM (by rfl) T.abs bt_abs (pa_cons (pv 4) (pa_nil))) (pa_nil)))) (pa_cons (pe_op op_addM (pe_op op_addM (pv 6) (pe_str)) (pe_callTy call_strI (by rfl) T.str bt_str (pa_cons (pe_callB call_absM (by rfl) T.abs bt_abs (pa_cons (pv 4) (pa_nil))) (pa_nil)))) (pa_nil)))))))) (pss_cons (ps_set (i := 7) nd rfl (Or.inl rfl) (pe_op op_addM (pv 7) (pe_lst (pa_cons (pe_op op_addM (pv 6) (pe_str)) (pa_cons (pe_op op_addM (pe_op op_addM (pv 6) (pe_str)) (pe_callTy call_strI (by rfl) T.str bt_str (pa_cons (pv 4) (pa_nil)))) (pa_cons (pe_op op_addM (pe_op op_addM (pv 6) (pe_str)) (pe_callTy call_strI (by rfl) T.str bt_str (pa_cons (pv 3) (pa_nil)))) (pa_cons (pe_op op_addM (pe_str) (pe_op op_mulS (pe_str) (pe_int))) (pa_nil)))))))) (pss_cons (ps_setC (i := 8) (hN := nd) (hi0 := rfl) (hx := Or.inl rfl) (ck := (show CmpOk ["_law_y", "_law_a", "_law_b", "_law_c", "_law_d", "_law_more", "_law_stretch", "_law_some", "_law_lines"] (defScope s__law_orders) _ ["_law_one_here", "_law_y"] [none, some 0] from cmpok)) (hi := pi_seq (pv 7)) (hg := fun _ => pg_name (i := 0) (show List.Nodup (["_law_one_here", "_law_y"] : List Str) from by decide +kernel) rfl (Or.inl rfl)) (hs := st_name) (ht := fun _ => pif_nil) (he := fun _ => pe_op op_addM (pe_op op_addM (pe_callTy call_strI (by rfl) T.str bt_str (pa_cons (pv 1) (pa_nil))) (pe_str)) (pv 0))) (pss_cons (ps_set (i := 8) nd rfl (Or.inl rfl) (pe_op op_addM (pv 8) (pe_lst (pa_cons (pe_op op_addM (pe_op op_addM (pe_op op_addM (pe_op op_addM (pe_op op_addM (pe_op op_addM (pe_callTy call_strI (by rfl) T.str bt_str (pa_cons (pv 0) (pa_nil))) (pe_str)) (pv 6)) (pe_str)) (pe_callTy call_strI (by rfl) T.str bt_str (pa_cons (pv 0) (pa_nil)))) (pe_str)) (pe_callTy call_strI (by rfl) T.str bt_str (pa_cons (pv 3) (pa_nil)))) (pa_cons (pe_op op_addM (pe_op op_addM (pe_op op_addM (pe_op op_addM (pe_callTy call_strI (by rfl) T.str bt_str (pa_cons (pe_op op_addM (pv 0) (pe_int)) (pa_nil))) (pe_str)) (pe_callTy call_strI (by rfl) T.str bt_str (pa_cons (pv 3) (pa_nil)))) (pe_str)) (pv 5)) (pa_nil)))))) (pss_cons (ps_set (i := 8) nd rfl (Or.inl rfl) (pe_op op_addM (pv 8) (pe_lst (pa_cons (pe_op op_addM (pe_op op_addM (pe_op op_addM (pe_str) (pe_op op_mulS (pe_str) (pe_int))) (pe_str)) (pv 6)) (pa_cons (pe_op op_addM (pe_op op_addM (pe_op op_addM (pe_op op_addM (pe_callTy call_strI (by rfl) T.str bt_str (pa_cons (pv 0) (pa_nil))) (pe_str)) (pe_callTy call_strI (by rfl) T.str bt_str (pa_cons (pv 1) (pa_nil)))) (pe_str)) (pe_op op_mulS (pe_str) (pe_int))) (pa_nil)))))) (pss_one (ps_ret (pe_op op_addM (pv 8) (pe_lst (pa_cons (pe_op op_addM (pe_op op_addM (pe_op op_addM (pe_str) (pe_callTy call_strI (by rfl) T.str bt_str (pa_cons (pe_callB call_absM (by rfl) T.abs bt_abs (pa_cons (pv 0) (pa_nil))) (pa_nil)))) (pe_str)) (pv 6)) (pa_cons (pe_op op_addM (pe_str) (pv 5)) (pa_cons (pe_op op_addM (pv 5) (pe_str)) (pa_nil))))))))))))))), rd__law_orders h⟩
theorem ok__law_signed {f : Addr} {fd : FuncData} (F : Fun K "_law_signed" "_law_signed" s__law_signed f fd) (T : Txt K mg) : FnOk P w K mg base CX0 1 f fd ["_law_cell", "_law_most"] (sp__law_signed K) := by
  refine F.ok sc__law_signed (fun vs H Q E h => h.1) (fun cdv A outer s H vs Q E hr h => ?_)
  have nd := (sc__law_signed).nd
  exact ⟨_, pss_cons (ps_if (pt_cmpR op_lt (pv 0) (pe_int) (nomark _)) (pss_one (ps_ret (pe_op op_sub (pe_int) (pe_op op_mod (pe_op op_sub (pe_int) (pv 0)) (pv 1))))) (pss_nil)) (pss_one (ps_ret (pe_op op_mod (pv 0) (pv 1)))), rd__law_signed h⟩
theorem ok__law_things {f : Addr} {fd : FuncData} (F : Fun K "_law_things" "_law_things" s__law_things f fd) (T : Txt K mg) : FnOk P w K mg base CX0 1 f fd ["_law_text", "_law_picture"] (sp__law_things K) := by
  refine F.ok sc__law_things (fun vs H Q E h => h.1) (fun cdv A outer s H vs Q E hr h => ?_)
  have nd := (sc__law_things).nd
  exact ⟨_, pss_one (ps_ret (pe_lst (pa_cons (pe_str) (pa_cons (pe_str) (pa_cons (pe_str) (pa_cons (pe_str) (pa_cons (pe_str) (pa_cons (pe_non) (pa_cons (pe_int) (pa_cons (pe_bl) (pa_cons (pe_lst (pa_cons (pv 0) (pa_nil))) (pa_cons (pe_tup (pa_cons (pv 0) (pa_nil))) (pa_cons (pv 1) (pa_cons (pe_tup (pa_nil)) (pa_cons (pe_lst (pa_nil)) (pa_nil)))))))))))))))), rd__law_things h⟩
theorem ok_row_of {f : Addr} {fd : FuncData} (F : Fun K "row_of" "row_of" s_row_of f fd) (T : Txt K mg) : FnOk P w K mg base CX0 1 f fd ["pairs"] (sp_row_of K) := by
  refine F.ok sc_row_of (fun vs H Q E h => h.1) (fun cdv A outer s H vs Q E hr h => ?_)
  have nd := (sc_row_of).nd
  exact ⟨_, pss_cons (ps_set (i := 1) nd rfl (Or.inl rfl) (pe_lst (pa_nil))) (pss_cons (ps_for PassesOwn.never rfl (pi_seq (pe_callB call_sortedM (by rfl) T.sorted bt_sorted (pa_cons (pe_comp (show CmpOk ["pairs", "stretches", "a", "b"] (defScope s_row_of) _ ["a", "b"] [none, none] from cmpok) (pi_seq (pv 0)) (fun _ => pg_tup rfl (pgs_cons (pg_name (i := 0) (show List.Nodup (["a", "b"] : List Str) from by decide +kernel) rfl (Or.inl rfl)) (pgs_cons (pg_name (i := 1) (show List.Nodup (["a", "b"] : List Str) from by decide +kernel) rfl (Or.inl rfl)) (pgs_nil)))) (st_tup (sts_cons (st_name) (sts_cons (st_name) (sts_nil) gName_mono) gName_mono)) (fun _ => pif_one (pt_cmpR op_le (pv 0) (pv 1) (nomark _))) (fun _ => pe_tup (pa_cons (pv 0) (pa_cons (pv 1) (pa_nil))))) (pa_nil)))) (pg_tup rfl (pgs_cons (pg_name (i := 2) nd rfl (Or.inl rfl)) (pgs_cons (pg_name (i := 3) nd rfl (Or.inl rfl)) (pgs_nil)))) (pss_one (ps_if (PW.pt (pw_and (pt_truth (pv 1) (fun _ => rfl)) (pw_and1 (pt_cmpR op_le (pv 2) (pe_op op_addM (pe_ix ix_seq (pe_ix ix_seq (pv 1) (pe_un un_neg (pe_int)) (fun _ _ => rfl)) (pe_int) (fun _ _ => rfl)) (pe_int)) (nomark _))))) (pss_one (ps_asg (pe_tup (pa_cons (pe_ix ix_seq (pe_ix ix_seq (pv 1) (pe_un un_neg (pe_int)) (fun _ _ => rfl)) (pe_int) (fun _ _ => rfl)) (pa_cons (pe_callB (call_max2 rfl) (by rfl) T.max bt_max (pa_cons (pe_ix ix_seq (pe_ix ix_seq (pv 1) (pe_un un_neg (pe_int)) (fun _ _ => rfl)) (pe_int) (fun _ _ => rfl)) (pa_cons (pv 3) (pa_nil)))) (pa_nil)))) (pg_sub (pv 1) (pe_un un_neg (pe_int)) set_list))) (pss_one (ps_expr (pe_bm PySem.F.plainAttrs_list PySem.F.slot_list_append PySem.F.type_list_append mt_append (pv 1) (pa_cons (pe_tup (pa_cons (pv 2) (pa_cons (pv 3) (pa_nil)))) pa_nil))))))) (pss_one (ps_ret (pe_callTy call_tuple_of (by rfl) T.tuple bt_tuple (pa_cons (pv 1) (pa_nil)))))), rd_row_of h⟩
theorem ok_show_stretch {f : Addr} {fd : FuncData} (F : Fun K "show_stretch" "show_stretch" s_show_stretch f fd) (T : Txt K mg) : FnOk P w K mg base CX0 1 f fd ["a", "b"] (sp_show_stretch K) := by
  refine F.ok sc_show_stretch (fun vs H Q E h => h.1) (fun cdv A outer s H vs Q E hr h => ?_)
  have nd := (sc_show_stretch).nd
  exact ⟨_, pss_cons (ps_if (pt_cmpR (op_eqM hr.units) (pv 0) (pv 1) (nomark _)) (pss_one (ps_ret (pe_js1 (pe_fv (pv 0))))) (pss_nil)) (pss_one (ps_ret (pe_js (PJ.cons (pe_fv (pv 0)) (PJ.cons (pe_str) (PJ.cons (pe_fv (pv 1)) (PJ.nil))))))), rd_show_stretch h⟩
theorem ok_writes_whole {f : Addr} {fd : FuncData} (F : Fun K "writes_whole" "writes_whole" s_writes_whole f fd) (T : Txt K mg) : FnOk P w K mg base CX0 1 f fd ["text"] (sp_writes_whole K) := by
  refine F.ok sc_writes_whole (fun vs H Q E h => h.1) (fun cdv A outer s H vs Q E hr h => ?_)
  have nd := (sc_writes_whole).nd
  exact ⟨_, pss_cons (ps_set (i := 1) nd rfl (Or.inl rfl) (pe_ifExp (pt_truth (pe_bm PySem.F.plainAttrs_str PySem.F.slot_str_startswith PySem.F.type_str_startswith mt_starts (pv 0) (pa_cons (pe_str) pa_nil)) (fun _ => rfl)) (pe_slice sl_str (pv 0) (po_some (pe_int)) (po_none)) (pv 0))) (pss_cons (ps_if (PW.pt (pw_or (pt_cmpR (op_eqM hr.units) (pv 1) (pe_str) (nomark _)) (pw_or1 (pt_cmpR op_gt (pe_callB call_lenM (by rfl) T.len bt_len (pa_cons (pv 1) (pa_nil))) (pe_glob (v := .int (60)) (by rfl) T.MOST_FIGURES.choose_spec ⟨_, rfl⟩) (nomark _))))) (pss_one (ps_ret (pe_bl))) (pss_nil)) (pss_cons (ps_if (pt_not (pt_truth (pe_callB (call_allM rfl) (by rfl) T.all bt_all (pa_cons (pe_comp (show CmpOk ["text", "figures"] (defScope s_writes_whole) _ ["sign"] [none] from cmpok) (pi_str (pv 1)) (fun _ => pg_name (i := 0) (show List.Nodup (["sign"] : List Str) from by decide +kernel) rfl (Or.inl rfl)) (st_name) (fun _ => pif_nil) (fun _ => pe_cmpR op_inS (pv 0) (pe_glob (v := .str (Str.ofString "0123456789")) (by rfl) T.FIGURES.choose_spec ⟨_, rfl⟩) rfl)) (pa_nil))) (fun _ => rfl))) (pss_one (ps_ret (pe_bl))) (pss_nil)) (pss_one (ps_ret (pe_cmpR (op_eqM hr.units) (pe_callTy call_strI (by rfl) T.str bt_str (pa_cons (pe_callTy call_intS (by rfl) T.int bt_int (pa_cons (pv 0) (pa_nil))) (pa_nil))) (pv 0) (nomark _)))))), rd_writes_whole h⟩
theorem okX_read_whole {f : Addr} {fd : FuncData} (F : Fun K "read_whole" "read_whole" s_read_whole f fd) (T : Txt K mg) {f_writes_whole : Addr} {fd_writes_whole : FuncData} (G_writes_whole : FnOk P w K mg base CX0 1 f_writes_whole fd_writes_whole ["text"] (sp_writes_whole K)) (m_writes_whole : mg "writes_whole" = some (.ref f_writes_whole)) (k_writes_whole : PySem.W.keepIn K (.ref f_writes_whole) = true) (b_writes_whole : Binds K fd_writes_whole ["text"] []) : FnOk P w K mg base (CXe P w) 2 f fd ["text"] (spX_read_whole K) := by
  refine F.okX sc_read_whole (fun vs H Q E h => h.1) (fun cdv A outer s H vs Q E hr h => ?_)
  have nd := (sc_read_whole).nd
  exact ⟨_, pss_stop (ps_if (PW.pt (pw_or (pt_not (pt_truth (pe_callB call_isiM (by rfl) T.isinstance bt_isinstance (pa_cons (pv 0) (pa_cons (pe_bltn (v := .ty "str") (by rfl) T.str bt_str rfl) pa_nil))) (fun _ => rfl))) (pw_or1 (pt_not (pt_truth (pe_call G_writes_whole (hr.mono (by decide)) (by rfl) m_writes_whole k_writes_whole b_writes_whole .nil pass0 (pa_cons (pv 0) (pa_nil))) (fun _ => rfl)))))) (pss_one (ps_raise raise_e T.xr_NoText hr.hd (by rfl) (pe_str))) (pss_nil)), rdX_read_whole h⟩
theorem ok__law_numbers {f : Addr} {fd : FuncData} (F : Fun K "_law_numbers" "_law_numbers" s__law_numbers f fd) (T : Txt K mg) {f__law_signed : Addr} {fd__law_signed : FuncData} (G__law_signed : FnOk P w K mg base CX0 1 f__law_signed fd__law_signed ["_law_cell", "_law_most"] (sp__law_signed K)) (m__law_signed : mg "_law_signed" = some (.ref f__law_signed)) (k__law_signed : PySem.W.keepIn K (.ref f__law_signed) = true) (b__law_signed : Binds K fd__law_signed ["_law_cell", "_law_most"] []) : FnOk P w K mg base CX0 2 f fd ["_law_cell", "_law_other"] (sp__law_numbers K) := by
  refine F.ok sc__law_numbers (fun vs H Q E h => h.1) (fun cdv A outer s H vs Q E hr h => ?_)
  have nd := (sc__law_numbers).nd
  exact ⟨_, pss_cons (ps_set (i := 2) nd rfl (Or.inl rfl) (pe_op op_fdiv (pe_op op_mod (pe_op op_mul (pv 0) (pe_int)) (pe_int)) (pe_int))) (pss_cons (ps_set (i := 3) nd rfl (Or.inl rfl) (pe_ix ix_seq (pe_lst (pa_cons (pe_int) (pa_cons (pe_op op_pow (pe_int) (pe_int)) (pa_nil)))) (pe_op op_mod (pv 2) (pe_int)) (fun _ _ => rfl))) (pss_cons (ps_set (i := 4) nd rfl (Or.inl rfl) (pe_call G__law_signed (hr.mono (by decide)) (by rfl) m__law_signed k__law_signed b__law_signed .nil pass0 (pa_cons (pv 0) (pa_cons (pv 3) (pa_nil))))) (pss_cons (ps_set (i := 5) nd rfl (Or.inl rfl) (pe_op op_addM (pe_op op_addM (pv 4) (pe_int)) (pe_op op_mod (pv 1) (pe_ix ix_seq (pe_lst (pa_cons (pe_int) (pa_cons (pe_op op_pow (pe_int) (pe_int)) (pa_nil)))) (pe_op op_mod (pe_op op_fdiv (pv 2) (pe_int)) (pe_int)) (fun _ _ => rfl))))) (pss_cons (ps_set (i := 6) nd rfl (Or.inl rfl) (pe_op op_addM (pe_op op_addM (pv 5) (pe_int)) (pe_op op_mod (pe_op op_fdiv (pv 2) (pe_int)) (pe_int)))) (pss_one (ps_ret (pe_lst (pa_cons (pe_call G__law_signed (hr.mono (by decide)) (by rfl) m__law_signed k__law_signed b__law_signed .nil pass0 (pa_cons (pv 1) (pa_cons (pe_ix ix_seq (pe_lst (pa_cons (pe_int) (pa_cons (pe_op op_pow (pe_int) (pe_int)) (pa_nil)))) (pe_op op_mod (pe_op op_fdiv (pv 2) (pe_int)) (pe_int)) (fun _ _ => rfl)) (pa_nil)))) (pa_cons (pv 4) (pa_cons (pv 5) (pa_cons (pv 6) (pa_cons (pe_op op_addM (pe_op op_addM (pv 6) (pe_int)) (pe_op op_mod (pe_op op_fdiv (pv 2) (pe_int)) (pe_int))) (pa_nil))))))))))))), rd__law_numbers h⟩
theorem ok_picture_of {f : Addr} {fd : FuncData} (F : Fun K "picture_of" "picture_of" s_picture_of f fd) (T : Txt K mg) {f_row_of : Addr} {fd_row_of : FuncData} (G_row_of : FnOk P w K mg base CX0 1 f_row_of fd_row_of ["pairs"] (sp_row_of K)) (m_row_of : mg "row_of" = some (.ref f_row_of)) (k_row_of : PySem.W.keepIn K (.ref f_row_of) = true) (b_row_of : Binds K fd_row_of ["pairs"] []) : FnOk P w K mg base CX0 2 f fd ["stretches"] (sp_picture_of K) := by
  refine F.ok sc_picture_of (fun vs H Q E h => h.1) (fun cdv A outer s H vs Q E hr h => ?_)
  have nd := (sc_picture_of).nd
  exact ⟨_, pss_cons (ps_set (i := 1) nd rfl (Or.inl rfl) (pe_lst (pa_nil))) (pss_cons (ps_for PassesOwn.never rfl (pi_seq (pe_callB call_sortedM (by rfl) T.sorted bt_sorted (pa_cons (pe_comp (show CmpOk ["stretches", "pairs_by_row", "y", "a", "b"] (defScope s_picture_of) _ ["y", "a", "b"] [none, none, none] from cmpok) (pi_seq (pv 0)) (fun _ => pg_tup rfl (pgs_cons (pg_name (i := 0) (show List.Nodup (["y", "a", "b"] : List Str) from by decide +kernel) rfl (Or.inl rfl)) (pgs_cons (pg_name (i := 1) (show List.Nodup (["y", "a", "b"] : List Str) from by decide +kernel) rfl (Or.inl rfl)) (pgs_cons (pg_name (i := 2) (show List.Nodup (["y", "a", "b"] : List Str) from by decide +kernel) rfl (Or.inl rfl)) (pgs_nil))))) (st_tup (sts_cons (st_name) (sts_cons (st_name) (sts_cons (st_name) (sts_nil) gName_mono) gName_mono) gName_mono)) (fun _ => pif_one (pt_cmpR op_le (pv 1) (pv 2) (nomark _))) (fun _ => pe_tup (pa_cons (pv 0) (pa_cons (pv 1) (pa_cons (pv 2) (pa_nil)))))) (pa_nil)))) (pg_tup rfl (pgs_cons (pg_name (i := 2) nd rfl (Or.inl rfl)) (pgs_cons (pg_name (i := 3) nd rfl (Or.inl rfl)) (pgs_cons (pg_name (i := 4) nd rfl (Or.inl rfl)) (pgs_nil))))) (pss_cons (ps_if (PW.pt (pw_or (pt_not (pt_truth (pv 1) (fun _ => rfl))) (pw_or1 (pt_cmpR (op_neM hr.units) (pe_ix ix_seq (pe_ix ix_seq (pv 1) (pe_un un_neg (pe_int)) (fun _ _ => rfl)) (pe_int) (fun _ _ => rfl)) (pv 2) (nomark _))))) (pss_one (ps_expr (pe_bm PySem.F.plainAttrs_list PySem.F.slot_list_append PySem.F.type_list_append mt_append (pv 1) (pa_cons (pe_tup (pa_cons (pv 2) (pa_cons (pe_lst (pa_nil)) (pa_nil)))) pa_nil)))) (pss_nil)) (pss_one (ps_expr (pe_bm PySem.F.plainAttrs_list PySem.F.slot_list_append PySem.F.type_list_append mt_append (pe_ix ix_seq (pe_ix ix_seq (pv 1) (pe_un un_neg (pe_int)) (fun _ _ => rfl)) (pe_int) (fun _ _ => rfl)) (pa_cons (pe_tup (pa_cons (pv 3) (pa_cons (pv 4) (pa_nil)))) pa_nil)))))) (pss_one (ps_ret (pe_callTy call_tuple_of (by rfl) T.tuple bt_tuple (pa_cons (pe_comp (show CmpOk ["stretches", "pairs_by_row", "y", "a", "b"] (defScope s_picture_of) _ ["y", "pairs"] [none, none] from cmpok) (pi_seq (pv 1)) (fun _ => pg_tup rfl (pgs_cons (pg_name (i := 0) (show List.Nodup (["y", "pairs"] : List Str) from by decide +kernel) rfl (Or.inl rfl)) (pgs_cons (pg_name (i := 1) (show List.Nodup (["y", "pairs"] : List Str) from by decide +kernel) rfl (Or.inl rfl)) (pgs_nil)))) (st_tup (sts_cons (st_name) (sts_cons (st_name) (sts_nil) gName_mono) gName_mono)) (fun _ => pif_nil) (fun _ => pe_tup (pa_cons (pv 0) (pa_cons (pe_call G_row_of (hr.mono (by decide)) (by rfl) m_row_of k_row_of b_row_of .nil pass0 (pa_cons (pv 1) (pa_nil))) (pa_nil))))) (pa_nil)))))), rd_picture_of h⟩
theorem ok_read_whole {f : Addr} {fd : FuncData} (F : Fun K "read_whole" "read_whole" s_read_whole f fd) (T : Txt K mg) {f_writes_whole : Addr} {fd_writes_whole : FuncData} (G_writes_whole : FnOk P w K mg base CX0 1 f_writes_whole fd_writes_whole ["text"] (sp_writes_whole K)) (m_writes_whole : mg "writes_whole" = some (.ref f_writes_whole)) (k_writes_whole : PySem.W.keepIn K (.ref f_writes_whole) = true) (b_writes_whole : Binds K fd_writes_whole ["text"] []) : FnOk P w K mg base CX0 2 f fd ["text"] (sp_read_whole K) := by
  refine F.ok sc_read_whole (fun vs H Q E h => h.1) (fun cdv A outer s H vs Q E hr h => ?_)
  have nd := (sc_read_whole).nd
  exact ⟨_, pss_cons (ps_if (PW.pt (pw_or (pt_not (pt_truth (pe_callB call_isiM (by rfl) T.isinstance bt_isinstance (pa_cons (pv 0) (pa_cons (pe_bltn (v := .ty "str") (by rfl) T.str bt_str rfl) pa_nil))) (fun _ => rfl))) (pw_or1 (pt_not (pt_truth (pe_call G_writes_whole (hr.mono (by decide)) (by rfl) m_writes_whole k_writes_whole b_writes_whole .nil pass0 (pa_cons (pv 0) (pa_nil))) (fun _ => rfl)))))) (pss_one (ps_never)) (pss_nil)) (pss_one (ps_ret (pe_callTy call_intS (by rfl) T.int bt_int (pa_cons (pv 0) (pa_nil))))), rd_read_whole h⟩
theorem ok_show_row {f : Addr} {fd : FuncData} (F : Fun K "show_row" "show_row" s_show_row f fd) (T : Txt K mg) {f_show_stretch : Addr} {fd_show_stretch : FuncData} (G_show_stretch : FnOk P w K mg base CX0 1 f_show_stretch fd_show_stretch ["a", "b"] (sp_show_stretch K)) (m_show_stretch : mg "show_stretch" = some (.ref f_show_stretch)) (k_show_stretch : PySem.W.keepIn K (.ref f_show_stretch) = true) (b_show_stretch : Binds K fd_show_stretch ["a", "b"] []) : FnOk P w K mg base CX0 2 f fd ["y", "row"] (sp_show_row K) := by
  refine F.ok sc_show_row (fun vs H Q E h => h.1) (fun cdv A outer s H vs Q E hr h => ?_)
  have nd := (sc_show_row).nd
  exact ⟨_, pss_cons (ps_set (i := 2) nd rfl (Or.inl rfl) (pe_bm PySem.F.plainAttrs_str PySem.F.slot_str_join PySem.F.type_str_join mt_join (pe_str) (pa_cons (pe_comp (show CmpOk ["y", "row", "stretches"] (defScope s_show_row) _ ["a", "b"] [none, none] from cmpok) (pi_seq (pv 1)) (fun _ => pg_tup rfl (pgs_cons (pg_name (i := 0) (show List.Nodup (["a", "b"] : List Str) from by decide +kernel) rfl (Or.inl rfl)) (pgs_cons (pg_name (i := 1) (show List.Nodup (["a", "b"] : List Str) from by decide +kernel) rfl (Or.inl rfl)) (pgs_nil)))) (st_tup (sts_cons (st_name) (sts_cons (st_name) (sts_nil) gName_mono) gName_mono)) (fun _ => pif_nil) (fun _ => pe_call G_show_stretch (hr.mono (by decide)) (by rfl) m_show_stretch k_show_stretch b_show_stretch .nil pass0 (pa_cons (pv 0) (pa_cons (pv 1) (pa_nil))))) pa_nil))) (pss_one (ps_ret (pe_js (PJ.cons (pe_fv (pv 0)) (PJ.cons (pe_str) (PJ.cons (pe_fv (pv 2)) (PJ.nil))))))), rd_show_row h⟩
theorem okX_read_stretch {f : Addr} {fd : FuncData} (F : Fun K "read_stretch" "read_stretch" s_read_stretch f fd) (T : Txt K mg) {f_read_whole : Addr} {fd_read_whole : FuncData} (G_read_whole : FnOk P w K mg base CX0 2 f_read_whole fd_read_whole ["text"] (sp_read_whole K)) (m_read_whole : mg "read_whole" = some (.ref f_read_whole)) (k_read_whole : PySem.W.keepIn K (.ref f_read_whole) = true) (b_read_whole : Binds K fd_read_whole ["text"] []) (GX_read_whole : FnOk P w K mg base (CXe P w) 2 f_read_whole fd_read_whole ["text"] (spX_read_whole K)) : FnOk P w K mg base (CXe P w) 3 f fd ["y", "text"] (spX_read_stretch K) := by
  refine F.okX sc_read_stretch (fun vs H Q E h => h.1) (fun cdv A outer s H vs Q E hr h => ?_)
  have nd := (sc_read_stretch).nd
  exact ⟨_, pss_cons (ps_set (i := 2) nd rfl (Or.inl rfl) (pe_bm PySem.F.plainAttrs_str PySem.F.slot_str_split PySem.F.type_str_split mt_split (pv 1) (pa_cons (pe_str) pa_nil))) (pss_one (ps_ret (pe_tup (pa_cons (pv 0) (pa_cons (pe_ei (pe_call GX_read_whole (hr.mono (by decide)) (by rfl) m_read_whole k_read_whole b_read_whole .nil pass_e (pa_cons (pe_ix ix_seq (pv 2) (pe_int) (fun _ _ => rfl)) (pa_nil))) (pe_call G_read_whole (hr.mono (by decide)) (by rfl) m_read_whole k_read_whole b_read_whole .nil pass0 (pa_cons (pe_ix ix_seq (pv 2) (pe_int) (fun _ _ => rfl)) (pa_nil)))) (pa_cons (pe_call GX_read_whole (hr.mono (by decide)) (by rfl) m_read_whole k_read_whole b_read_whole .nil pass_e (pa_cons (pe_ix ix_seq (pv 2) (pe_un un_neg (pe_int)) (fun _ _ => rfl)) (pa_nil))) (pa_nil))))))), rdX_read_stretch h⟩
theorem ok_read_stretch {f : Addr} {fd : FuncData} (F : Fun K "read_stretch" "read_stretch" s_read_stretch f fd) (T : Txt K mg) {f_read_whole : Addr} {fd_read_whole : FuncData} (G_read_whole : FnOk P w K mg base CX0 2 f_read_whole fd_read_whole ["text"] (sp_read_whole K)) (m_read_whole : mg "read_whole" = some (.ref f_read_whole)) (k_read_whole : PySem.W.keepIn K (.ref f_read_whole) = true) (b_read_whole : Binds K fd_read_whole ["text"] []) : FnOk P w K mg base CX0 3 f fd ["y", "text"] (sp_read_stretch K) := by
  refine F.ok sc_read_stretch (fun vs H Q E h => h.1) (fun cdv A outer s H vs Q E hr h => ?_)
  have nd := (sc_read_stretch).nd
  exact ⟨_, pss_cons (ps_set (i := 2) nd rfl (Or.inl rfl) (pe_bm PySem.F.plainAttrs_str PySem.F.slot_str_split PySem.F.type_str_split mt_split (pv 1) (pa_cons (pe_str) pa_nil))) (pss_one (ps_ret (pe_tup (pa_cons (pv 0) (pa_cons (pe_call G_read_whole (hr.mono (by decide)) (by rfl) m_read_whole k_read_whole b_read_whole .nil pass0 (pa_cons (pe_ix ix_seq (pv 2) (pe_int) (fun _ _ => rfl)) (pa_nil))) (pa_cons (pe_call G_read_whole (hr.mono (by decide)) (by rfl) m_read_whole k_read_whole b_read_whole .nil pass0 (pa_cons (pe_ix ix_seq (pv 2) (pe_un un_neg (pe_int)) (fun _ _ => rfl)) (pa_nil))) (pa_nil))))))), rd_read_stretch h⟩
theorem ok_show {f : Addr} {fd : FuncData} (F : Fun K "show" "show" s_show f fd) (T : Txt K mg) {f_show_row : Addr} {fd_show_row : FuncData} (G_show_row : FnOk P w K mg base CX0 2 f_show_row fd_show_row ["y", "row"] (sp_show_row K)) (m_show_row : mg "show_row" = some (.ref f_show_row)) (k_show_row : PySem.W.keepIn K (.ref f_show_row) = true) (b_show_row : Binds K fd_show_row ["y", "row"] []) : FnOk P w K mg base CX0 3 f fd ["picture"] (sp_show K) := by
  refine F.ok sc_show (fun vs H Q E h => h.1) (fun cdv A outer s H vs Q E hr h => ?_)
  have nd := (sc_show).nd
  exact ⟨_, pss_cons (ps_if (pt_cmpR (op_eqM hr.units) (pv 0) (pe_tup (pa_nil)) (nomark _)) (pss_one (ps_ret (pe_glob (v := .str (Str.ofString "nothing")) (by rfl) T.WITHOUT_CELLS.choose_spec ⟨_, rfl⟩))) (pss_nil)) (pss_one (ps_ret (pe_bm PySem.F.plainAttrs_str PySem.F.slot_str_join PySem.F.type_str_join mt_join (pe_str) (pa_cons (pe_comp (show CmpOk ["picture"] (defScope s_show) _ ["y", "row"] [none, none] from cmpok) (pi_seq (pv 0)) (fun _ => pg_tup rfl (pgs_cons (pg_name (i := 0) (show List.Nodup (["y", "row"] : List Str) from by decide +kernel) rfl (Or.inl rfl)) (pgs_cons (pg_name (i := 1) (show List.Nodup (["y", "row"] : List Str) from by decide +kernel) rfl (Or.inl rfl)) (pgs_nil)))) (st_tup (sts_cons (st_name) (sts_cons (st_name) (sts_nil) gName_mono) gName_mono)) (fun _ => pif_nil) (fun _ => pe_call G_show_row (hr.mono (by decide)) (by rfl) m_show_row k_show_row b_show_row .nil pass0 (pa_cons (pv 0) (pa_cons (pv 1) (pa_nil))))) pa_nil)))), rd_show h⟩
theorem okX_read_stretches {f : Addr} {fd : FuncData} (F : Fun K "read_stretches" "read_stretches" s_read_stretches f fd) (T : Txt K mg) {f_read_whole : Addr} {fd_read_whole : FuncData} (G_read_whole : FnOk P w K mg base CX0 2 f_read_whole fd_read_whole ["text"] (sp_read_whole K)) (m_read_whole : mg "read_whole" = some (.ref f_read_whole)) (k_read_whole : PySem.W.keepIn K (.ref f_read_whole) = true) (b_read_whole : Binds K fd_read_whole ["text"] []) (GX_read_whole : FnOk P w K mg base (CXe P w) 2 f_read_whole fd_read_whole ["text"] (spX_read_whole K)) {f_read_stretch : Addr} {fd_read_stretch : FuncData} (G_read_stretch : FnOk P w K mg base CX0 3 f_read_stretch fd_read_stretch ["y", "text"] (sp_read_stretch K)) (m_read_stretch : mg "read_stretch" = some (.ref f_read_stretch)) (k_read_stretch : PySem.W.keepIn K (.ref f_read_stretch) = true) (b_read_stretch : Binds K fd_read_stretch ["y", "text"] []) (GX_read_stretch : FnOk P w K mg base (CXe P w) 3 f_read_stretch fd_read_stretch ["y", "text"] (spX_read_stretch K)) : FnOk P w K mg base (CXe P w) 4 f fd ["text"] (spX_read_stretches K) := by
  refine F.okX sc_read_stretches (fun vs H Q E h => h.1) (fun cdv A outer s H vs Q E hr h => ?_)
  have nd := (sc_read_stretches).nd
  exact ⟨_, pss_cons (ps_set (i := 1) nd rfl (Or.inl rfl) (pe_lst (pa_nil))) (pss_stop (ps_for PassesOwn.leaving rfl (pi_seq (pe_comp (show CmpOk ["text", "stretches", "head", "colon", "tail", "y"] (defScope s_read_stretches) _ ["part"] [none] from cmpok) (pi_seq (pe_bm PySem.F.plainAttrs_str PySem.F.slot_str_split PySem.F.type_str_split mt_split (pv 0) (pa_cons (pe_str) pa_nil))) (fun _ => pg_name (i := 0) (show List.Nodup (["part"] : List Str) from by decide +kernel) rfl (Or.inl rfl)) (st_name) (fun _ => pif_nil) (fun _ => pe_bm PySem.F.plainAttrs_str PySem.F.slot_str_partition PySem.F.type_str_partition mt_part (pv 0) (pa_cons (pe_str) pa_nil)))) (pg_tup rfl (pgs_cons (pg_name (i := 2) nd rfl (Or.inl rfl)) (pgs_cons (pg_name (i := 3) nd rfl (Or.inl rfl)) (pgs_cons (pg_name (i := 4) nd rfl (Or.inl rfl)) (pgs_nil))))) (pss_cons (ps_ei (ps_set (i := 5) nd rfl (Or.inr rfl) (pe_call GX_read_whole (hr.mono (by decide)) (by rfl) m_read_whole k_read_whole b_read_whole .nil pass_e (pa_cons (pv 2) (pa_nil)))) (ps_set (i := 5) nd rfl (Or.inr rfl) (pe_call G_read_whole (hr.mono (by decide)) (by rfl) m_read_whole k_read_whole b_read_whole .nil pass0 (pa_cons (pv 2) (pa_nil))))) (pss_one (ps_ei (ps_expr (pe_bm PySem.F.plainAttrs_list PySem.F.slot_list_extend PySem.F.type_list_extend mt_extM (pv 1) (pa_cons (pe_compX lands_e (show CmpOk ["text", "stretches", "head", "colon", "tail", "y"] (defScope s_read_stretches) _ ["part", "y"] [none, some 5] from cmpok) (pi_seq (pe_bm PySem.F.plainAttrs_str PySem.F.slot_str_split PySem.F.type_str_split mt_split (pv 4) (pa_cons (pe_str) pa_nil))) (fun _ _ => pg_name (i := 0) (show List.Nodup (["part", "y"] : List Str) from by decide +kernel) rfl (Or.inl rfl)) (st_name) (fun _ _ => pif_nil) (fun _ _ hp => pe_ei (pe_call GX_read_stretch (hr.mono (by decide)) (by rfl) m_read_stretch k_read_stretch b_read_stretch .nil hp (pa_cons (pv 1) (pa_cons (pv 0) (pa_nil)))) (pe_call G_read_stretch (hr.mono (by decide)) (by rfl) m_read_stretch k_read_stretch b_read_stretch .nil pass0 (pa_cons (pv 1) (pa_cons (pv 0) (pa_nil)))))) pa_nil))) (ps_expr (pe_bm PySem.F.plainAttrs_list PySem.F.slot_list_extend PySem.F.type_list_extend mt_extM (pv 1) (pa_cons (pe_comp (show CmpOk ["text", "stretches", "head", "colon", "tail", "y"] (defScope s_read_stretches) _ ["part", "y"] [none, some 5] from cmpok) (pi_seq (pe_bm PySem.F.plainAttrs_str PySem.F.slot_str_split PySem.F.type_str_split mt_split (pv 4) (pa_cons (pe_str) pa_nil))) (fun _ => pg_name (i := 0) (show List.Nodup (["part", "y"] : List Str) from by decide +kernel) rfl (Or.inl rfl)) (st_name) (fun _ => pif_nil) (fun _ => pe_call G_read_stretch (hr.mono (by decide)) (by rfl) m_read_stretch k_read_stretch b_read_stretch .nil pass0 (pa_cons (pv 1) (pa_cons (pv 0) (pa_nil))))) pa_nil)))))))), rdX_read_stretches h⟩
theorem ok_read_stretches {f : Addr} {fd : FuncData} (F : Fun K "read_stretches" "read_stretches" s_read_stretches f fd) (T : Txt K mg) {f_read_whole : Addr} {fd_read_whole : FuncData} (G_read_whole : FnOk P w K mg base CX0 2 f_read_whole fd_read_whole ["text"] (sp_read_whole K)) (m_read_whole : mg "read_whole" = some (.ref f_read_whole)) (k_read_whole : PySem.W.keepIn K (.ref f_read_whole) = true) (b_read_whole : Binds K fd_read_whole ["text"] []) {f_read_stretch : Addr} {fd_read_stretch : FuncData} (G_read_stretch : FnOk P w K mg base CX0 3 f_read_stretch fd_read_stretch ["y", "text"] (sp_read_stretch K)) (m_read_stretch : mg "read_stretch" = some (.ref f_read_stretch)) (k_read_stretch : PySem.W.keepIn K (.ref f_read_stretch) = true) (b_read_stretch : Binds K fd_read_stretch ["y", "text"] []) : FnOk P w K mg base CX0 4 f fd ["text"] (sp_read_stretches K) := by
  refine F.ok sc_read_stretches (fun vs H Q E h => h.1) (fun cdv A outer s H vs Q E hr h => ?_)
  have nd := (sc_read_stretches).nd
  exact ⟨_, pss_cons (ps_set (i := 1) nd rfl (Or.inl rfl) (pe_lst (pa_nil))) (pss_cons (ps_for PassesOwn.never rfl (pi_seq (pe_comp (show CmpOk ["text", "stretches", "head", "colon", "tail", "y"] (defScope s_read_stretches) _ ["part"] [none] from cmpok) (pi_seq (pe_bm PySem.F.plainAttrs_str PySem.F.slot_str_split PySem.F.type_str_split mt_split (pv 0) (pa_cons (pe_str) pa_nil))) (fun _ => pg_name (i := 0) (show List.Nodup (["part"] : List Str) from by decide +kernel) rfl (Or.inl rfl)) (st_name) (fun _ => pif_nil) (fun _ => pe_bm PySem.F.plainAttrs_str PySem.F.slot_str_partition PySem.F.type_str_partition mt_part (pv 0) (pa_cons (pe_str) pa_nil)))) (pg_tup rfl (pgs_cons (pg_name (i := 2) nd rfl (Or.inl rfl)) (pgs_cons (pg_name (i := 3) nd rfl (Or.inl rfl)) (pgs_cons (pg_name (i := 4) nd rfl (Or.inl rfl)) (pgs_nil))))) (pss_cons (ps_set (i := 5) nd rfl (Or.inr rfl) (pe_call G_read_whole (hr.mono (by decide)) (by rfl) m_read_whole k_read_whole b_read_whole .nil pass0 (pa_cons (pv 2) (pa_nil)))) (pss_one (ps_expr (pe_bm PySem.F.plainAttrs_list PySem.F.slot_list_extend PySem.F.type_list_extend mt_extM (pv 1) (pa_cons (pe_comp (show CmpOk ["text", "stretches", "head", "colon", "tail", "y"] (defScope s_read_stretches) _ ["part", "y"] [none, some 5] from cmpok) (pi_seq (pe_bm PySem.F.plainAttrs_str PySem.F.slot_str_split PySem.F.type_str_split mt_split (pv 4) (pa_cons (pe_str) pa_nil))) (fun _ => pg_name (i := 0) (show List.Nodup (["part", "y"] : List Str) from by decide +kernel) rfl (Or.inl rfl)) (st_name) (fun _ => pif_nil) (fun _ => pe_call G_read_stretch (hr.mono (by decide)) (by rfl) m_read_stretch k_read_stretch b_read_stretch .nil pass0 (pa_cons (pv 1) (pa_cons (pv 0) (pa_nil))))) pa_nil)))))) (pss_one (ps_ret (pv 1)))), rd_read_stretches h⟩
theorem okX_read {f : Addr} {fd : FuncData} (F : Fun K "read" "read" s_read f fd) (T : Txt K mg) {f_picture_of : Addr} {fd_picture_of : FuncData} (G_picture_of : FnOk P w K mg base CX0 2 f_picture_of fd_picture_of ["stretches"] (sp_picture_of K)) (m_picture_of : mg "picture_of" = some (.ref f_picture_of)) (k_picture_of : PySem.W.keepIn K (.ref f_picture_of) = true) (b_picture_of : Binds K fd_picture_of ["stretches"] []) {f_read_stretches : Addr} {fd_read_stretches : FuncData} (G_read_stretches : FnOk P w K mg base CX0 4 f_read_stretches fd_read_stretches ["text"] (sp_read_stretches K)) (m_read_stretches : mg "read_stretches" = some (.ref f_read_stretches)) (k_read_stretches : PySem.W.keepIn K (.ref f_read_stretches) = true) (b_read_stretches : Binds K fd_read_stretches ["text"] []) (GX_read_stretches : FnOk P w K mg base (CXe P w) 4 f_read_stretches fd_read_stretches ["text"] (spX_read_stretches K)) {f_show : Addr} {fd_show : FuncData} (G_show : FnOk P w K mg base CX0 3 f_show fd_show ["picture"] (sp_show K)) (m_show : mg "show" = some (.ref f_show)) (k_show : PySem.W.keepIn K (.ref f_show) = true) (b_show : Binds K fd_show ["picture"] []) : FnOk P w K mg base (CXe P w) 5 f fd ["text"] (spX_read K) := by
  refine F.okX sc_read (fun vs H Q E h => h.1) (fun cdv A outer s H vs Q E hr h => ?_)
  have nd := (sc_read).nd
  exact ⟨_, pss_cons (ps_if (pt_not (pt_truth (pe_callB call_isiM (by rfl) T.isinstance bt_isinstance (pa_cons (pv 0) (pa_cons (pe_bltn (v := .ty "str") (by rfl) T.str bt_str rfl) pa_nil))) (fun _ => rfl))) (pss_one (ps_raise raise_e T.xr_NoText hr.hd (by rfl) (pe_str))) (pss_nil)) (pss_cons (ps_if (pt_cmpR (op_eqM hr.units) (pv 0) (pe_glob (v := .str (Str.ofString "nothing")) (by rfl) T.WITHOUT_CELLS.choose_spec ⟨_, rfl⟩) (nomark _)) (pss_one (ps_ret (pe_tup (pa_nil)))) (pss_nil)) (pss_cons (ps_ei (ps_set (i := 1) nd rfl (Or.inl rfl) (pe_call G_picture_of (hr.mono (by decide)) (by rfl) m_picture_of k_picture_of b_picture_of .nil pass0 (pa_cons (pe_call GX_read_stretches (hr.mono (by decide)) (by rfl) m_read_stretches k_read_stretches b_read_stretches .nil pass_e (pa_cons (pv 0) (pa_nil))) (pa_nil)))) (ps_set (i := 1) nd rfl (Or.inl rfl) (pe_call G_picture_of (hr.mono (by decide)) (by rfl) m_picture_of k_picture_of b_picture_of .nil pass0 (pa_cons (pe_call G_read_stretches (hr.mono (by decide)) (by rfl) m_read_stretches k_read_stretches b_read_stretches .nil pass0 (pa_cons (pv 0) (pa_nil))) (pa_nil))))) (pss_stop (ps_if (pt_cmpR (op_neM hr.units) (pe_call G_show (hr.mono (by decide)) (by rfl) m_show k_show b_show .nil pass0 (pa_cons (pv 1) (pa_nil))) (pv 0) (nomark _)) (pss_one (ps_raise raise_e T.xr_NoText hr.hd (by rfl) (pe_str))) (pss_nil))))), rdX_read h⟩
theorem ok_read {f : Addr} {fd : FuncData} (F : Fun K "read" "read" s_read f fd) (T : Txt K mg) {f_picture_of : Addr} {fd_picture_of : FuncData} (G_picture_of : FnOk P w K mg base CX0 2 f_picture_of fd_picture_of ["stretches"] (sp_picture_of K)) (m_picture_of : mg "picture_of" = some (.ref f_picture_of)) (k_picture_of : PySem.W.keepIn K (.ref f_picture_of) = true) (b_picture_of : Binds K fd_picture_of ["stretches"] []) {f_read_stretches : Addr} {fd_read_stretches : FuncData} (G_read_stretches : FnOk P w K mg base CX0 4 f_read_stretches fd_read_stretches ["text"] (sp_read_stretches K)) (m_read_stretches : mg "read_stretches" = some (.ref f_read_stretches)) (k_read_stretches : PySem.W.keepIn K (.ref f_read_stretches) = true) (b_read_stretches : Binds K fd_read_stretches ["text"] []) {f_show : Addr} {fd_show : FuncData} (G_show : FnOk P w K mg base CX0 3 f_show fd_show ["picture"] (sp_show K)) (m_show : mg "show" = some (.ref f_show)) (k_show : PySem.W.keepIn K (.ref f_show) = true) (b_show : Binds K fd_show ["picture"] []) : FnOk P w K mg base CX0 5 f fd ["text"] (sp_read K) := by
  refine F.ok sc_read (fun vs H Q E h => h.1) (fun cdv A outer s H vs Q E hr h => ?_)
  have nd := (sc_read).nd
  exact ⟨_, pss_cons (ps_if (pt_not (pt_truth (pe_callB call_isiM (by rfl) T.isinstance bt_isinstance (pa_cons (pv 0) (pa_cons (pe_bltn (v := .ty "str") (by rfl) T.str bt_str rfl) pa_nil))) (fun _ => rfl))) (pss_one (ps_never)) (pss_nil)) (pss_cons (ps_if (pt_cmpR (op_eqM hr.units) (pv 0) (pe_glob (v := .str (Str.ofString "nothing")) (by rfl) T.WITHOUT_CELLS.choose_spec ⟨_, rfl⟩) (nomark _)) (pss_one (ps_ret (pe_tup (pa_nil)))) (pss_nil)) (pss_cons (ps_set (i := 1) nd rfl (Or.inl rfl) (pe_call G_picture_of (hr.mono (by decide)) (by rfl) m_picture_of k_picture_of b_picture_of .nil pass0 (pa_cons (pe_call G_read_stretches (hr.mono (by decide)) (by rfl) m_read_stretches k_read_stretches b_read_stretches .nil pass0 (pa_cons (pv 0) (pa_nil))) (pa_nil)))) (pss_cons (ps_if (pt_cmpR (op_neM hr.units) (pe_call G_show (hr.mono (by decide)) (by rfl) m_show k_show b_show .nil pass0 (pa_cons (pv 1) (pa_nil))) (pv 0) (nomark _)) (pss_one (ps_never)) (pss_nil)) (pss_one (ps_ret (pv 1)))))), rd_read h⟩
theorem ok__law_refused {f : Addr} {fd : FuncData} (F : Fun K "_law_refused" "_law_refused" s__law_refused f fd) (T : Txt K mg) {f_read : Addr} {fd_read : FuncData} (GX_read : FnOk P w K mg base (CXe P w) 5 f_read fd_read ["text"] (spX_read K)) (m_read : mg "read" = some (.ref f_read)) (k_read : PySem.W.keepIn K (.ref f_read) = true) (b_read : Binds K fd_read ["text"] []) : FnOk P w K mg base CX0 6 f fd ["_law_thing"] (sp__law_refused K) := by
  refine F.ok sc__law_refused (fun vs H Q E h => h.1) (fun cdv A outer s H vs Q E hr h => ?_)
  have nd := (sc__law_refused).nd
  exact ⟨_, pss_cons (ps_set (i := 1) nd rfl (Or.inl rfl) (pe_non)) (pss_cons (ps_try (L := xNs) (i := 2) rfl rfl nd rfl rfl T.xc_ShapeError (by rfl) (fun ps W E hp => pss_one (ps_expr (pe_call GX_read (hr.mono (by decide)) (by rfl) m_read k_read b_read .nil hp (pa_cons (pv 0) (pa_nil))))) (fun e => (show PSs _ _ (tSets K 2 [(1, [ax_ValueError, ax_NoText, ax_NoRow, ax_NoForm, ax_NoName, ax_NoBack, ax_TooGreat, ax_TooMany])]) from pss_one (ps_set (i := 1) nd rfl (Or.inl rfl) (pe_lst (pa_cons (pe_isXB T.ValueError PyProof.Rows.Boot.«ValueError» T.xa_ValueError (by rfl) T.isinstance (by rfl) (pv 2)) (pa_cons (pe_isX T.xa_NoText (by rfl) T.isinstance (by rfl) (pv 2)) (pa_cons (pe_isX T.xa_NoRow (by rfl) T.isinstance (by rfl) (pv 2)) (pa_cons (pe_isX T.xa_NoForm (by rfl) T.isinstance (by rfl) (pv 2)) (pa_cons (pe_isX T.xa_NoName (by rfl) T.isinstance (by rfl) (pv 2)) (pa_cons (pe_isX T.xa_NoBack (by rfl) T.isinstance (by rfl) (pv 2)) (pa_cons (pe_isX T.xa_TooGreat (by rfl) T.isinstance (by rfl) (pv 2)) (pa_cons (pe_isX T.xa_TooMany (by rfl) T.isinstance (by rfl) (pv 2)) (pa_nil)))))))))))))) (pss_one (ps_ret (pe_cmpR (op_eqM hr.units) (pv 1) (pe_lst (pa_cons (pe_bl) (pa_cons (pe_bl) (pa_cons (pe_bl) (pa_cons (pe_bl) (pa_cons (pe_bl) (pa_cons (pe_bl) (pa_cons (pe_bl) (pa_cons (pe_bl) (pa_nil)))))))))) (nomark _))))), rd__law_refused h⟩
theorem ok__law_one {f : Addr} {fd : FuncData} (F : Fun K "_law_one" "_law_one" s__law_one f fd) (T : Txt K mg) {f__law_numbers : Addr} {fd__law_numbers : FuncData} (G__law_numbers : FnOk P w K mg base CX0 2 f__law_numbers fd__law_numbers ["_law_cell", "_law_other"] (sp__law_numbers K)) (m__law_numbers : mg "_law_numbers" = some (.ref f__law_numbers)) (k__law_numbers : PySem.W.keepIn K (.ref f__law_numbers) = true) (b__law_numbers : Binds K fd__law_numbers ["_law_cell", "_law_other"] []) {f__law_blanks : Addr} {fd__law_blanks : FuncData} (G__law_blanks : FnOk P w K mg base CX0 1 f__law_blanks fd__law_blanks ["_law_y", "_law_line", "_law_more"] (sp__law_blanks K)) (m__law_blanks : mg "_law_blanks" = some (.ref f__law_blanks)) (k__law_blanks : PySem.W.keepIn K (.ref f__law_blanks) = true) (b__law_blanks : Binds K fd__law_blanks ["_law_y", "_law_line", "_law_more"] []) {f__law_orders : Addr} {fd__law_orders : FuncData} (G__law_orders : FnOk P w K mg base CX0 1 f__law_orders fd__law_orders ["_law_y", "_law_a", "_law_b", "_law_c", "_law_d", "_law_more"] (sp__law_orders K)) (m__law_orders : mg "_law_orders" = some (.ref f__law_orders)) (k__law_orders : PySem.W.keepIn K (.ref f__law_orders) = true) (b__law_orders : Binds K fd__law_orders ["_law_y", "_law_a", "_law_b", "_law_c", "_law_d", "_law_more"] []) {f__law_things : Addr} {fd__law_things : FuncData} (G__law_things : FnOk P w K mg base CX0 1 f__law_things fd__law_things ["_law_text", "_law_picture"] (sp__law_things K)) (m__law_things : mg "_law_things" = some (.ref f__law_things)) (k__law_things : PySem.W.keepIn K (.ref f__law_things) = true) (b__law_things : Binds K fd__law_things ["_law_text", "_law_picture"] []) {f_read : Addr} {fd_read : FuncData} (G_read : FnOk P w K mg base CX0 5 f_read fd_read ["text"] (sp_read K)) (m_read : mg "read" = some (.ref f_read)) (k_read : PySem.W.keepIn K (.ref f_read) = true) (b_read : Binds K fd_read ["text"] []) {f__law_refused : Addr} {fd__law_refused : FuncData} (G__law_refused : FnOk P w K mg base CX0 6 f__law_refused fd__law_refused ["_law_thing"] (sp__law_refused K)) (m__law_refused : mg "_law_refused" = some (.ref f__law_refused)) (k__law_refused : PySem.W.keepIn K (.ref f__law_refused) = true) (b__law_refused : Binds K fd__law_refused ["_law_thing"] []) : FnOk P w K mg base CX0 7 f fd ["_law_cell", "_law_other"] (sp__law_one K) := by
  refine F.ok sc__law_one (fun vs H Q E h => h.1) (fun cdv A outer s H vs Q E hr h => ?_)
  have nd := (sc__law_one).nd
  exact ⟨_, pss_cons (ps_asg (pe_call G__law_numbers (hr.mono (by decide)) (by rfl) m__law_numbers k__law_numbers b__law_numbers .nil pass0 (pa_cons (pv 0) (pa_cons (pv 1) (pa_nil)))) (pg_lst rfl (pgs_cons (pg_name (i := 2) nd rfl (Or.inl rfl)) (pgs_cons (pg_name (i := 3) nd rfl (Or.inl rfl)) (pgs_cons (pg_name (i := 4) nd rfl (Or.inl rfl)) (pgs_cons (pg_name (i := 5) nd rfl (Or.inl rfl)) (pgs_cons (pg_name (i := 6) nd rfl (Or.inl rfl)) (pgs_nil)))))))) (pss_cons (ps_set (i := 7) nd rfl (Or.inl rfl) (pe_op op_addM (pe_op op_addM (pe_op op_addM (pe_op op_addM (pe_callTy call_strI (by rfl) T.str bt_str (pa_cons (pv 3) (pa_nil))) (pe_str)) (pe_callTy call_strI (by rfl) T.str bt_str (pa_cons (pv 4) (pa_nil)))) (pe_str)) (pe_callTy call_strI (by rfl) T.str bt_str (pa_cons (pv 5) (pa_nil))))) (pss_cons (ps_set (i := 8) nd rfl (Or.inl rfl) (pe_op op_addM (pe_op op_addM (pe_op op_addM (pe_op op_addM (pe_op op_addM (pe_op op_addM (pe_callTy call_strI (by rfl) T.str bt_str (pa_cons (pe_op op_addM (pv 2) (pe_int)) (pa_nil))) (pe_str)) (pe_callTy call_strI (by rfl) T.str bt_str (pa_cons (pv 3) (pa_nil)))) (pe_str)) (pe_callTy call_strI (by rfl) T.str bt_str (pa_cons (pv 4) (pa_nil)))) (pe_str)) (pe_callTy call_strI (by rfl) T.str bt_str (pa_cons (pv 6) (pa_nil))))) (pss_cons (ps_set (i := 9) nd rfl (Or.inl rfl) (pe_tup (pa_cons (pe_tup (pa_cons (pv 2) (pa_cons (pe_tup (pa_cons (pe_tup (pa_cons (pv 3) (pa_cons (pv 4) (pa_nil)))) (pa_cons (pe_tup (pa_cons (pv 5) (pa_cons (pv 5) (pa_nil)))) (pa_nil)))) (pa_nil)))) (pa_nil)))) (pss_cons (ps_set (i := 10) nd rfl (Or.inl rfl) (pe_op op_addM (pv 9) (pe_tup (pa_cons (pe_tup (pa_cons (pe_op op_addM (pv 2) (pe_int)) (pa_cons (pe_tup (pa_cons (pe_tup (pa_cons (pv 3) (pa_cons (pv 4) (pa_nil)))) (pa_cons (pe_tup (pa_cons (pv 6) (pa_cons (pv 6) (pa_nil)))) (pa_nil)))) (pa_nil)))) (pa_nil))))) (pss_cons (ps_set (i := 11) nd rfl (Or.inl rfl) (pe_op op_addM (pe_call G__law_blanks (hr.mono (by decide)) (by rfl) m__law_blanks k__law_blanks b__law_blanks .nil pass0 (pa_cons (pe_callTy call_strI (by rfl) T.str bt_str (pa_cons (pv 2) (pa_nil))) (pa_cons (pv 7) (pa_cons (pv 8) (pa_nil))))) (pe_call G__law_orders (hr.mono (by decide)) (by rfl) m__law_orders k__law_orders b__law_orders .nil pass0 (pa_cons (pv 2) (pa_cons (pv 3) (pa_cons (pv 4) (pa_cons (pv 5) (pa_cons (pv 6) (pa_cons (pe_op op_addM (pe_op op_addM (pe_callTy call_strI (by rfl) T.str bt_str (pa_cons (pv 2) (pa_nil))) (pe_str)) (pv 7)) (pa_nil)))))))))) (pss_cons (ps_set (i := 11) nd rfl (Or.inl rfl) (pe_op op_addM (pv 11) (pe_call G__law_things (hr.mono (by decide)) (by rfl) m__law_things k__law_things b__law_things .nil pass0 (pa_cons (pv 7) (pa_cons (pv 9) (pa_nil)))))) (pss_cons (ps_set (i := 12) nd rfl (Or.inl rfl) (pe_op op_addM (pe_op op_addM (pe_callTy call_strI (by rfl) T.str bt_str (pa_cons (pv 2) (pa_nil))) (pe_str)) (pv 7))) (pss_cons (ps_if (PW.pt (pw_or (pt_cmpR (op_neM hr.units) (pe_call G_read (hr.mono (by decide)) (by rfl) m_read k_read b_read .nil pass0 (pa_cons (pv 12) (pa_nil))) (pv 9) (nomark _)) (pw_or1 (pt_not (pt_truth (pe_call G__law_refused (hr.mono (by decide)) (by rfl) m__law_refused k__law_refused b__law_refused .nil pass0 (pa_cons (pe_ix ix_seq (pv 11) (pe_op op_mod (pe_op op_fdiv (pe_op op_mod (pe_op op_addM (pe_op op_mul (pv 0) (pe_int)) (pv 1)) (pe_int)) (pe_int)) (pe_callB call_lenM (by rfl) T.len bt_len (pa_cons (pv 11) (pa_nil)))) (fun _ _ => rfl)) (pa_nil))) (fun _ => rfl)))))) (pss_one (ps_ret (pe_bl))) (pss_nil)) (pss_one (ps_ret (pe_and (pe_cmpR (op_eqM hr.units) (pe_call G_read (hr.mono (by decide)) (by rfl) m_read k_read b_read .nil pass0 (pa_cons (pe_op op_addM (pe_op op_addM (pv 12) (pe_str)) (pv 8)) (pa_nil))) (pv 10) (nomark _)) (pe_one (pe_cmpR (op_eqM hr.units) (pe_call G_read (hr.mono (by decide)) (by rfl) m_read k_read b_read .nil pass0 (pa_cons (pv 12) (pa_nil))) (pv 9) (nomark _)))))))))))))), rd__law_one h⟩
theorem ok_law {f : Addr} {fd : FuncData} (F : Fun K "law" "law" s_law f fd) (T : Txt K mg) {f__law_one : Addr} {fd__law_one : FuncData} (G__law_one : FnOk P w K mg base CX0 7 f__law_one fd__law_one ["_law_cell", "_law_other"] (sp__law_one K)) (m__law_one : mg "_law_one" = some (.ref f__law_one)) (k__law_one : PySem.W.keepIn K (.ref f__law_one) = true) (b__law_one : Binds K fd__law_one ["_law_cell", "_law_other"] []) : FnOk P w K mg base CX0 8 f fd ["_law_script"] (sp_law K) := by
  refine F.ok sc_law (fun vs H Q E h => h.1) (fun cdv A outer s H vs Q E hr h => ?_)
  have nd := (sc_law).nd
  exact ⟨_, pss_cons (ps_for PassesOwn.never rfl (pi_range1 (by rfl) T.range (pa_cons (pe_callB (call_min2 rfl) (by rfl) T.min bt_min (pa_cons (pe_callB call_lenM (by rfl) T.len bt_len (pa_cons (pv 0) (pa_nil))) (pa_cons (pe_int) (pa_nil)))) (pa_nil))) (pg_name (i := 1) nd rfl (Or.inl rfl)) (pss_one (ps_if (pt_not (pt_truth (pe_call G__law_one (hr.mono (by decide)) (by rfl) m__law_one k__law_one b__law_one .nil pass0 (pa_cons (pe_ix ix_seq (pv 0) (pv 1) (fun _ _ => rfl)) (pa_cons (pe_ix ix_seq (pv 0) (pe_op op_mod (pe_op op_addM (pv 1) (pe_int)) (pe_callB call_lenM (by rfl) T.len bt_len (pa_cons (pv 0) (pa_nil)))) (fun _ _ => rfl)) (pa_nil)))) (fun _ => rfl))) (pss_one (ps_ret (pe_bl))) (pss_nil)))) (pss_one (ps_ret (pe_bl))), rd_law h⟩
end
theorem usS {us : List Value} {n : Nat} (h : us.length = n + 1) : ∃ a v, us = a :: v ∧ v.length = n := by
  cases us with
  | nil => cases h
  | cons a v => exact ⟨a, v, rfl, Nat.succ.inj h⟩
theorem us1 {us : List Value} (h : us.length = 1) : ∃ a0, us = [a0] := by
  obtain ⟨a0, v0, rfl, h0⟩ := usS h
  cases v0 with
  | nil => exact ⟨a0, rfl⟩
  | cons a v => cases h0
theorem us2 {us : List Value} (h : us.length = 2) : ∃ a0 a1, us = [a0, a1] := by
  obtain ⟨a0, v0, rfl, h0⟩ := usS h
  obtain ⟨a1, v1, rfl, h1⟩ := usS h0
  cases v1 with
  | nil => exact ⟨a0, a1, rfl⟩
  | cons a v => cases h1
theorem us3 {us : List Value} (h : us.length = 3) : ∃ a0 a1 a2, us = [a0, a1, a2] := by
  obtain ⟨a0, v0, rfl, h0⟩ := usS h
  obtain ⟨a1, v1, rfl, h1⟩ := usS h0
  obtain ⟨a2, v2, rfl, h2⟩ := usS h1
  cases v2 with
  | nil => exact ⟨a0, a1, a2, rfl⟩
  | cons a v => cases h2
theorem us6 {us : List Value} (h : us.length = 6) : ∃ a0 a1 a2 a3 a4 a5, us = [a0, a1, a2, a3, a4, a5] := by
  obtain ⟨a0, v0, rfl, h0⟩ := usS h
  obtain ⟨a1, v1, rfl, h1⟩ := usS h0
  obtain ⟨a2, v2, rfl, h2⟩ := usS h1
  obtain ⟨a3, v3, rfl, h3⟩ := usS h2
  obtain ⟨a4, v4, rfl, h4⟩ := usS h3
  obtain ⟨a5, v5, rfl, h5⟩ := usS h4
  cases v5 with
  | nil => exact ⟨a0, a1, a2, a3, a4, a5, rfl⟩
  | cons a v => cases h5
theorem all_mk {l : PySem.W.OpenLaw} {w : World} {K : PySem.W.Frag} {h : Heap} {mg : Str → Option Value} {fa : Addr} (X : K.In h) (G : h.Ns mainGlobals mg) (hfa : mg "law" = some (.ref fa))
    {f_row_of : Addr} {od_row_of an_row_of : Option Addr} {sl_row_of : Array (Option Value)} {oc_row_of kV_row_of dc_row_of pm_row_of cd_row_of ct_row_of : Value}
    {f_picture_of : Addr} {od_picture_of an_picture_of : Option Addr} {sl_picture_of : Array (Option Value)} {oc_picture_of kV_picture_of dc_picture_of pm_picture_of cd_picture_of ct_picture_of : Value}
    {f_show : Addr} {od_show an_show : Option Addr} {sl_show : Array (Option Value)} {oc_show kV_show dc_show pm_show cd_show ct_show : Value}
    {f_show_row : Addr} {od_show_row an_show_row : Option Addr} {sl_show_row : Array (Option Value)} {oc_show_row kV_show_row dc_show_row pm_show_row cd_show_row ct_show_row : Value}
    {f_show_stretch : Addr} {od_show_stretch an_show_stretch : Option Addr} {sl_show_stretch : Array (Option Value)} {oc_show_stretch kV_show_stretch dc_show_stretch pm_show_stretch cd_show_stretch ct_show_stretch : Value}
    {f_read : Addr} {od_read an_read : Option Addr} {sl_read : Array (Option Value)} {oc_read kV_read dc_read pm_read cd_read ct_read : Value}
    {f_read_stretches : Addr} {od_read_stretches an_read_stretches : Option Addr} {sl_read_stretches : Array (Option Value)} {oc_read_stretches kV_read_stretches dc_read_stretches pm_read_stretches cd_read_stretches ct_read_stretches : Value}
    {f_read_stretch : Addr} {od_read_stretch an_read_stretch : Option Addr} {sl_read_stretch : Array (Option Value)} {oc_read_stretch kV_read_stretch dc_read_stretch pm_read_stretch cd_read_stretch ct_read_stretch : Value}
    {f_read_whole : Addr} {od_read_whole an_read_whole : Option Addr} {sl_read_whole : Array (Option Value)} {oc_read_whole kV_read_whole dc_read_whole pm_read_whole cd_read_whole ct_read_whole : Value}
    {f_writes_whole : Addr} {od_writes_whole an_writes_whole : Option Addr} {sl_writes_whole : Array (Option Value)} {oc_writes_whole kV_writes_whole dc_writes_whole pm_writes_whole cd_writes_whole ct_writes_whole : Value}
    {f__law_signed : Addr} {od__law_signed an__law_signed : Option Addr} {sl__law_signed : Array (Option Value)} {oc__law_signed kV__law_signed dc__law_signed pm__law_signed cd__law_signed ct__law_signed : Value}
    {f__law_numbers : Addr} {od__law_numbers an__law_numbers : Option Addr} {sl__law_numbers : Array (Option Value)} {oc__law_numbers kV__law_numbers dc__law_numbers pm__law_numbers cd__law_numbers ct__law_numbers : Value}
    {f__law_blanks : Addr} {od__law_blanks an__law_blanks : Option Addr} {sl__law_blanks : Array (Option Value)} {oc__law_blanks kV__law_blanks dc__law_blanks pm__law_blanks cd__law_blanks ct__law_blanks : Value}
    {f__law_orders : Addr} {od__law_orders an__law_orders : Option Addr} {sl__law_orders : Array (Option Value)} {oc__law_orders kV__law_orders dc__law_orders pm__law_orders cd__law_orders ct__law_orders : Value}
    {f__law_things : Addr} {od__law_things an__law_things : Option Addr} {sl__law_things : Array (Option Value)} {oc__law_things kV__law_things dc__law_things pm__law_things cd__law_things ct__law_things : Value}
    {f__law_refused : Addr} {od__law_refused an__law_refused : Option Addr} {sl__law_refused : Array (Option Value)} {oc__law_refused kV__law_refused dc__law_refused pm__law_refused cd__law_refused ct__law_refused : Value}
    {f__law_one : Addr} {od__law_one an__law_one : Option Addr} {sl__law_one : Array (Option Value)} {oc__law_one kV__law_one dc__law_one pm__law_one cd__law_one ct__law_one : Value}
    {f_law : Addr} {od_law an_law : Option Addr} {sl_law : Array (Option Value)} {oc_law kV_law dc_law pm_law cd_law ct_law : Value}
    {c_NoBack : Addr}
    {c_NoForm : Addr}
    {c_NoName : Addr}
    {c_NoRow : Addr}
    {c_NoText : Addr}
    {c_ShapeError : Addr}
    {c_TooGreat : Addr}
    {c_TooMany : Addr}
    {t_FIGURES : Tok}
    {t_MOST_FIGURES : Tok}
    {t_WITHOUT_CELLS : Tok}
    (a_row_of : PySem.W.nsIn K mainGlobals "row_of" = some (some (.ref f_row_of))) (l_row_of : K.lookup f_row_of = some ⟨oc_row_of, od_row_of, .func (PySem.W.fnOf "row_of" "row_of" (defArgs s_row_of) (defBody s_row_of) (defScope s_row_of) .none kV_row_of dc_row_of pm_row_of an_row_of cd_row_of ct_row_of), sl_row_of⟩) (e_row_of : PySem.W.codeIn K cd_row_of "row_of" = true) (k_row_of : PySem.W.keepIn K (.ref f_row_of) = true)
    (a_picture_of : PySem.W.nsIn K mainGlobals "picture_of" = some (some (.ref f_picture_of))) (l_picture_of : K.lookup f_picture_of = some ⟨oc_picture_of, od_picture_of, .func (PySem.W.fnOf "picture_of" "picture_of" (defArgs s_picture_of) (defBody s_picture_of) (defScope s_picture_of) .none kV_picture_of dc_picture_of pm_picture_of an_picture_of cd_picture_of ct_picture_of), sl_picture_of⟩) (e_picture_of : PySem.W.codeIn K cd_picture_of "picture_of" = true) (k_picture_of : PySem.W.keepIn K (.ref f_picture_of) = true)
    (a_show : PySem.W.nsIn K mainGlobals "show" = some (some (.ref f_show))) (l_show : K.lookup f_show = some ⟨oc_show, od_show, .func (PySem.W.fnOf "show" "show" (defArgs s_show) (defBody s_show) (defScope s_show) .none kV_show dc_show pm_show an_show cd_show ct_show), sl_show⟩) (e_show : PySem.W.codeIn K cd_show "show" = true) (k_show : PySem.W.keepIn K (.ref f_show) = true)
    (a_show_row : PySem.W.nsIn K mainGlobals "show_row" = some (some (.ref f_show_row))) (l_show_row : K.lookup f_show_row = some ⟨oc_show_row, od_show_row, .func (PySem.W.fnOf "show_row" "show_row" (defArgs s_show_row) (defBody s_show_row) (defScope s_show_row) .none kV_show_row dc_show_row pm_show_row an_show_row cd_show_row ct_show_row), sl_show_row⟩) (e_show_row : PySem.W.codeIn K cd_show_row "show_row" = true) (k_show_row : PySem.W.keepIn K (.ref f_show_row) = true)
    (a_show_stretch : PySem.W.nsIn K mainGlobals "show_stretch" = some (some (.ref f_show_stretch))) (l_show_stretch : K.lookup f_show_stretch = some ⟨oc_show_stretch, od_show_stretch, .func (PySem.W.fnOf "show_stretch" "show_stretch" (defArgs s_show_stretch) (defBody s_show_stretch) (defScope s_show_stretch) .none kV_show_stretch dc_show_stretch pm_show_stretch an_show_stretch cd_show_stretch ct_show_stretch), sl_show_stretch⟩) (e_show_stretch : PySem.W.codeIn K cd_show_stretch "show_stretch" = true) (k_show_stretch : PySem.W.keepIn K (.ref f_show_stretch) = true)
    (a_read : PySem.W.nsIn K mainGlobals "read" = some (some (.ref f_read))) (l_read : K.lookup f_read = some ⟨oc_read, od_read, .func (PySem.W.fnOf "read" "read" (defArgs s_read) (defBody s_read) (defScope s_read) .none kV_read dc_read pm_read an_read cd_read ct_read), sl_read⟩) (e_read : PySem.W.codeIn K cd_read "read" = true) (k_read : PySem.W.keepIn K (.ref f_read) = true)
    (a_read_stretches : PySem.W.nsIn K mainGlobals "read_stretches" = some (some (.ref f_read_stretches))) (l_read_stretches : K.lookup f_read_stretches = some ⟨oc_read_stretches, od_read_stretches, .func (PySem.W.fnOf "read_stretches" "read_stretches" (defArgs s_read_stretches) (defBody s_read_stretches) (defScope s_read_stretches) .none kV_read_stretches dc_read_stretches pm_read_stretches an_read_stretches cd_read_stretches ct_read_stretches), sl_read_stretches⟩) (e_read_stretches : PySem.W.codeIn K cd_read_stretches "read_stretches" = true) (k_read_stretches : PySem.W.keepIn K (.ref f_read_stretches) = true)
    (a_read_stretch : PySem.W.nsIn K mainGlobals "read_stretch" = some (some (.ref f_read_stretch))) (l_read_stretch : K.lookup f_read_stretch = some ⟨oc_read_stretch, od_read_stretch, .func (PySem.W.fnOf "read_stretch" "read_stretch" (defArgs s_read_stretch) (defBody s_read_stretch) (defScope s_read_stretch) .none kV_read_stretch dc_read_stretch pm_read_stretch an_read_stretch cd_read_stretch ct_read_stretch), sl_read_stretch⟩) (e_read_stretch : PySem.W.codeIn K cd_read_stretch "read_stretch" = true) (k_read_stretch : PySem.W.keepIn K (.ref f_read_stretch) = true)
    (a_read_whole : PySem.W.nsIn K mainGlobals "read_whole" = some (some (.ref f_read_whole))) (l_read_whole : K.lookup f_read_whole = some ⟨oc_read_whole, od_read_whole, .func (PySem.W.fnOf "read_whole" "read_whole" (defArgs s_read_whole) (defBody s_read_whole) (defScope s_read_whole) .none kV_read_whole dc_read_whole pm_read_whole an_read_whole cd_read_whole ct_read_whole), sl_read_whole⟩) (e_read_whole : PySem.W.codeIn K cd_read_whole "read_whole" = true) (k_read_whole : PySem.W.keepIn K (.ref f_read_whole) = true)
    (a_writes_whole : PySem.W.nsIn K mainGlobals "writes_whole" = some (some (.ref f_writes_whole))) (l_writes_whole : K.lookup f_writes_whole = some ⟨oc_writes_whole, od_writes_whole, .func (PySem.W.fnOf "writes_whole" "writes_whole" (defArgs s_writes_whole) (defBody s_writes_whole) (defScope s_writes_whole) .none kV_writes_whole dc_writes_whole pm_writes_whole an_writes_whole cd_writes_whole ct_writes_whole), sl_writes_whole⟩) (e_writes_whole : PySem.W.codeIn K cd_writes_whole "writes_whole" = true) (k_writes_whole : PySem.W.keepIn K (.ref f_writes_whole) = true)
    (a__law_signed : PySem.W.nsIn K mainGlobals "_law_signed" = some (some (.ref f__law_signed))) (l__law_signed : K.lookup f__law_signed = some ⟨oc__law_signed, od__law_signed, .func (PySem.W.fnOf "_law_signed" "_law_signed" (defArgs s__law_signed) (defBody s__law_signed) (defScope s__law_signed) .none kV__law_signed dc__law_signed pm__law_signed an__law_signed cd__law_signed ct__law_signed), sl__law_signed⟩) (e__law_signed : PySem.W.codeIn K cd__law_signed "_law_signed" = true) (k__law_signed : PySem.W.keepIn K (.ref f__law_signed) = true)
    (a__law_numbers : PySem.W.nsIn K mainGlobals "_law_numbers" = some (some (.ref f__law_numbers))) (l__law_numbers : K.lookup f__law_numbers = some ⟨oc__law_numbers, od__law_numbers, .func (PySem.W.fnOf "_law_numbers" "_law_numbers" (defArgs s__law_numbers) (defBody s__law_numbers) (defScope s__law_numbers) .none kV__law_numbers dc__law_numbers pm__law_numbers an__law_numbers cd__law_numbers ct__law_numbers), sl__law_numbers⟩) (e__law_numbers : PySem.W.codeIn K cd__law_numbers "_law_numbers" = true) (k__law_numbers : PySem.W.keepIn K (.ref f__law_numbers) = true)
    (a__law_blanks : PySem.W.nsIn K mainGlobals "_law_blanks" = some (some (.ref f__law_blanks))) (l__law_blanks : K.lookup f__law_blanks = some ⟨oc__law_blanks, od__law_blanks, .func (PySem.W.fnOf "_law_blanks" "_law_blanks" (defArgs s__law_blanks) (defBody s__law_blanks) (defScope s__law_blanks) .none kV__law_blanks dc__law_blanks pm__law_blanks an__law_blanks cd__law_blanks ct__law_blanks), sl__law_blanks⟩) (e__law_blanks : PySem.W.codeIn K cd__law_blanks "_law_blanks" = true) (k__law_blanks : PySem.W.keepIn K (.ref f__law_blanks) = true)
    (a__law_orders : PySem.W.nsIn K mainGlobals "_law_orders" = some (some (.ref f__law_orders))) (l__law_orders : K.lookup f__law_orders = some ⟨oc__law_orders, od__law_orders, .func (PySem.W.fnOf "_law_orders" "_law_orders" (defArgs s__law_orders) (defBody s__law_orders) (defScope s__law_orders) .none kV__law_orders dc__law_orders pm__law_orders an__law_orders cd__law_orders ct__law_orders), sl__law_orders⟩) (e__law_orders : PySem.W.codeIn K cd__law_orders "_law_orders" = true) (k__law_orders : PySem.W.keepIn K (.ref f__law_orders) = true)
    (a__law_things : PySem.W.nsIn K mainGlobals "_law_things" = some (some (.ref f__law_things))) (l__law_things : K.lookup f__law_things = some ⟨oc__law_things, od__law_things, .func (PySem.W.fnOf "_law_things" "_law_things" (defArgs s__law_things) (defBody s__law_things) (defScope s__law_things) .none kV__law_things dc__law_things pm__law_things an__law_things cd__law_things ct__law_things), sl__law_things⟩) (e__law_things : PySem.W.codeIn K cd__law_things "_law_things" = true) (k__law_things : PySem.W.keepIn K (.ref f__law_things) = true)
    (a__law_refused : PySem.W.nsIn K mainGlobals "_law_refused" = some (some (.ref f__law_refused))) (l__law_refused : K.lookup f__law_refused = some ⟨oc__law_refused, od__law_refused, .func (PySem.W.fnOf "_law_refused" "_law_refused" (defArgs s__law_refused) (defBody s__law_refused) (defScope s__law_refused) .none kV__law_refused dc__law_refused pm__law_refused an__law_refused cd__law_refused ct__law_refused), sl__law_refused⟩) (e__law_refused : PySem.W.codeIn K cd__law_refused "_law_refused" = true) (k__law_refused : PySem.W.keepIn K (.ref f__law_refused) = true)
    (a__law_one : PySem.W.nsIn K mainGlobals "_law_one" = some (some (.ref f__law_one))) (l__law_one : K.lookup f__law_one = some ⟨oc__law_one, od__law_one, .func (PySem.W.fnOf "_law_one" "_law_one" (defArgs s__law_one) (defBody s__law_one) (defScope s__law_one) .none kV__law_one dc__law_one pm__law_one an__law_one cd__law_one ct__law_one), sl__law_one⟩) (e__law_one : PySem.W.codeIn K cd__law_one "_law_one" = true) (k__law_one : PySem.W.keepIn K (.ref f__law_one) = true)
    (a_law : PySem.W.nsIn K mainGlobals "law" = some (some (.ref f_law))) (l_law : K.lookup f_law = some ⟨oc_law, od_law, .func (PySem.W.fnOf "law" "law" (defArgs s_law) (defBody s_law) (defScope s_law) .none kV_law dc_law pm_law an_law cd_law ct_law), sl_law⟩) (e_law : PySem.W.codeIn K cd_law "law" = true) (k_law : PySem.W.keepIn K (.ref f_law) = true)
    (n_NoBack : PySem.W.nsIn K mainGlobals "NoBack" = some (some (.ref c_NoBack)))
    (n_NoForm : PySem.W.nsIn K mainGlobals "NoForm" = some (some (.ref c_NoForm)))
    (n_NoName : PySem.W.nsIn K mainGlobals "NoName" = some (some (.ref c_NoName)))
    (n_NoRow : PySem.W.nsIn K mainGlobals "NoRow" = some (some (.ref c_NoRow)))
    (n_NoText : PySem.W.nsIn K mainGlobals "NoText" = some (some (.ref c_NoText)))
    (n_ShapeError : PySem.W.nsIn K mainGlobals "ShapeError" = some (some (.ref c_ShapeError)))
    (n_TooGreat : PySem.W.nsIn K mainGlobals "TooGreat" = some (some (.ref c_TooGreat)))
    (n_TooMany : PySem.W.nsIn K mainGlobals "TooMany" = some (some (.ref c_TooMany)))
    (xg : PySem.W.specialIn K (.builtin "object.__class__") "__get__" = some (some (.builtin "getset_descriptor.__get__"))) (xt : PySem.W.takesIn K (.builtin "object.__class__") = some true)
    (x1_NoText : PySem.W.hasDictIn K c_NoText = true) (x2_NoText : PySem.W.findIn K (.ref c_NoText) "__getattribute__" = some (some (.builtin "BaseException.__getattribute__"))) (x3_NoText : PySem.W.findIn K (.ref c_NoText) "__getattr__" = some none) (x4_NoText : PySem.W.findIn K (.ref c_NoText) "__class__" = some (some (.builtin "object.__class__"))) (x5_NoText : PySem.W.mroIn K c_NoText (.type "object") = some true) (x6_NoText : PySem.W.mroIn K c_NoText (.type "BaseException") = some true) (xe_NoText : PySem.W.excIn K c_NoText bmV "ValueError.__new__" = true)
    (xo_NoText_NoBack : PySem.W.kitOne K (.ref c_NoText) (.ref c_NoBack) = some false)
    (xo_NoText_NoForm : PySem.W.kitOne K (.ref c_NoText) (.ref c_NoForm) = some false)
    (xo_NoText_NoName : PySem.W.kitOne K (.ref c_NoText) (.ref c_NoName) = some false)
    (xo_NoText_NoRow : PySem.W.kitOne K (.ref c_NoText) (.ref c_NoRow) = some false)
    (xo_NoText_NoText : PySem.W.kitOne K (.ref c_NoText) (.ref c_NoText) = some true)
    (xo_NoText_TooGreat : PySem.W.kitOne K (.ref c_NoText) (.ref c_TooGreat) = some false)
    (xo_NoText_TooMany : PySem.W.kitOne K (.ref c_NoText) (.ref c_TooMany) = some false)
    (xo_NoText_ValueError : PySem.W.kitOne K (.ref c_NoText) (.type "ValueError") = some true)
    (xm_NoText_ShapeError : PySem.W.exmOne K (.ref c_NoText) (.ref c_ShapeError) = some true)
    (z_ValueError : PySem.W.nsIn K mainGlobals "ValueError" = some none)
    (z_abs : PySem.W.nsIn K mainGlobals "abs" = some none)
    (z_all : PySem.W.nsIn K mainGlobals "all" = some none)
    (z_int : PySem.W.nsIn K mainGlobals "int" = some none)
    (z_isinstance : PySem.W.nsIn K mainGlobals "isinstance" = some none)
    (z_len : PySem.W.nsIn K mainGlobals "len" = some none)
    (z_max : PySem.W.nsIn K mainGlobals "max" = some none)
    (z_min : PySem.W.nsIn K mainGlobals "min" = some none)
    (z_range : PySem.W.nsIn K mainGlobals "range" = some none)
    (z_sorted : PySem.W.nsIn K mainGlobals "sorted" = some none)
    (z_str : PySem.W.nsIn K mainGlobals "str" = some none)
    (z_tuple : PySem.W.nsIn K mainGlobals "tuple" = some none)
    (y_FIGURES : PySem.W.nsIn K mainGlobals "FIGURES" = some (some (.str (Str.ofString "0123456789") t_FIGURES)))
    (y_MOST_FIGURES : PySem.W.nsIn K mainGlobals "MOST_FIGURES" = some (some (.int (60) t_MOST_FIGURES)))
    (y_WITHOUT_CELLS : PySem.W.nsIn K mainGlobals "WITHOUT_CELLS" = some (some (.str (Str.ofString "nothing") t_WITHOUT_CELLS)))
    : ∃ fd : FuncData, (∀ (s : Shared) (v : Value), BindsTo s fd ⟨[v], []⟩ [("_law_script", v)]) ∧ ∀ base : Heap, K.In base → base.Ns mainGlobals mg → FnOk l.prog w K mg base CX0 8 fa fd ["_law_script"] (sp_law K) := by
  have e := hfa.symm.trans (PySem.W.mg_of X G a_law)
  cases e
  have xc_ShapeError : ∃ T : Addr, mg "ShapeError" = some (.ref T) ∧ ∀ N ∈ xNs, ∀ C : Addr, PySem.W.nsIn K mainGlobals N = some (some (.ref C)) → PySem.W.exmOne K (.ref C) (.ref T) = some true := by
    refine ⟨c_ShapeError, PySem.W.mg_of X G n_ShapeError, fun N hN C hC => ?_⟩
    simp only [List.mem_cons, List.not_mem_nil, or_false] at hN
    rcases hN with rfl
    · rw [n_NoText] at hC; cases hC; exact xm_NoText_ShapeError
  have xa_NoBack : ∃ T : Addr, mg "NoBack" = some (.ref T) ∧ AnsX K ax_NoBack (.ref T) := ⟨c_NoBack, PySem.W.mg_of X G n_NoBack, ansX_cons (fun C hC => by rw [n_NoText] at hC; cases hC; exact ⟨⟨x1_NoText, x2_NoText, x3_NoText, x4_NoText, xg, xt, x5_NoText, x6_NoText⟩, xo_NoText_NoBack⟩) (ansX_nil)⟩
  have xa_NoForm : ∃ T : Addr, mg "NoForm" = some (.ref T) ∧ AnsX K ax_NoForm (.ref T) := ⟨c_NoForm, PySem.W.mg_of X G n_NoForm, ansX_cons (fun C hC => by rw [n_NoText] at hC; cases hC; exact ⟨⟨x1_NoText, x2_NoText, x3_NoText, x4_NoText, xg, xt, x5_NoText, x6_NoText⟩, xo_NoText_NoForm⟩) (ansX_nil)⟩
  have xa_NoName : ∃ T : Addr, mg "NoName" = some (.ref T) ∧ AnsX K ax_NoName (.ref T) := ⟨c_NoName, PySem.W.mg_of X G n_NoName, ansX_cons (fun C hC => by rw [n_NoText] at hC; cases hC; exact ⟨⟨x1_NoText, x2_NoText, x3_NoText, x4_NoText, xg, xt, x5_NoText, x6_NoText⟩, xo_NoText_NoName⟩) (ansX_nil)⟩
  have xa_NoRow : ∃ T : Addr, mg "NoRow" = some (.ref T) ∧ AnsX K ax_NoRow (.ref T) := ⟨c_NoRow, PySem.W.mg_of X G n_NoRow, ansX_cons (fun C hC => by rw [n_NoText] at hC; cases hC; exact ⟨⟨x1_NoText, x2_NoText, x3_NoText, x4_NoText, xg, xt, x5_NoText, x6_NoText⟩, xo_NoText_NoRow⟩) (ansX_nil)⟩
  have xa_NoText : ∃ T : Addr, mg "NoText" = some (.ref T) ∧ AnsX K ax_NoText (.ref T) := ⟨c_NoText, PySem.W.mg_of X G n_NoText, ansX_cons (fun C hC => by rw [n_NoText] at hC; cases hC; exact ⟨⟨x1_NoText, x2_NoText, x3_NoText, x4_NoText, xg, xt, x5_NoText, x6_NoText⟩, xo_NoText_NoText⟩) (ansX_nil)⟩
  have xa_TooGreat : ∃ T : Addr, mg "TooGreat" = some (.ref T) ∧ AnsX K ax_TooGreat (.ref T) := ⟨c_TooGreat, PySem.W.mg_of X G n_TooGreat, ansX_cons (fun C hC => by rw [n_NoText] at hC; cases hC; exact ⟨⟨x1_NoText, x2_NoText, x3_NoText, x4_NoText, xg, xt, x5_NoText, x6_NoText⟩, xo_NoText_TooGreat⟩) (ansX_nil)⟩
  have xa_TooMany : ∃ T : Addr, mg "TooMany" = some (.ref T) ∧ AnsX K ax_TooMany (.ref T) := ⟨c_TooMany, PySem.W.mg_of X G n_TooMany, ansX_cons (fun C hC => by rw [n_NoText] at hC; cases hC; exact ⟨⟨x1_NoText, x2_NoText, x3_NoText, x4_NoText, xg, xt, x5_NoText, x6_NoText⟩, xo_NoText_TooMany⟩) (ansX_nil)⟩
  have xa_ValueError : AnsX K ax_ValueError (.type "ValueError") := ansX_cons (fun C hC => by rw [n_NoText] at hC; cases hC; exact ⟨⟨x1_NoText, x2_NoText, x3_NoText, x4_NoText, xg, xt, x5_NoText, x6_NoText⟩, xo_NoText_ValueError⟩) (ansX_nil)
  have xr_NoText : ∃ C : Addr, PySem.W.nsIn K mainGlobals "NoText" = some (some (.ref C)) ∧ PySem.W.excIn K C bmV "ValueError.__new__" = true ∧ mg "NoText" = some (.ref C) := ⟨c_NoText, n_NoText, xe_NoText, PySem.W.mg_of X G n_NoText⟩
  have T : Txt K mg := ⟨PySem.W.mg_none_of X G z_ValueError, PySem.W.mg_none_of X G z_abs, PySem.W.mg_none_of X G z_all, PySem.W.mg_none_of X G z_int, PySem.W.mg_none_of X G z_isinstance, PySem.W.mg_none_of X G z_len, PySem.W.mg_none_of X G z_max, PySem.W.mg_none_of X G z_min, PySem.W.mg_none_of X G z_range, PySem.W.mg_none_of X G z_sorted, PySem.W.mg_none_of X G z_str, PySem.W.mg_none_of X G z_tuple, ⟨_, PySem.W.mg_of X G y_FIGURES⟩, ⟨_, PySem.W.mg_of X G y_MOST_FIGURES⟩, ⟨_, PySem.W.mg_of X G y_WITHOUT_CELLS⟩, xc_ShapeError, xa_NoBack, xa_NoForm, xa_NoName, xa_NoRow, xa_NoText, xa_TooGreat, xa_TooMany, xa_ValueError, xr_NoText⟩
  have F_row_of := fun_mk (st := s_row_of) l_row_of e_row_of k_row_of
  have b_row_of := (F_row_of).binds (ps := ["pairs"]) fun _ _ _ _ _ _ us hl => by obtain ⟨a0, rfl⟩ := us1 hl; rfl
  have m_row_of := PySem.W.mg_of X G a_row_of
  have F_show_stretch := fun_mk (st := s_show_stretch) l_show_stretch e_show_stretch k_show_stretch
  have b_show_stretch := (F_show_stretch).binds (ps := ["a", "b"]) fun _ _ _ _ _ _ us hl => by obtain ⟨a0, a1, rfl⟩ := us2 hl; rfl
  have m_show_stretch := PySem.W.mg_of X G a_show_stretch
  have F_writes_whole := fun_mk (st := s_writes_whole) l_writes_whole e_writes_whole k_writes_whole
  have b_writes_whole := (F_writes_whole).binds (ps := ["text"]) fun _ _ _ _ _ _ us hl => by obtain ⟨a0, rfl⟩ := us1 hl; rfl
  have m_writes_whole := PySem.W.mg_of X G a_writes_whole
  have F__law_signed := fun_mk (st := s__law_signed) l__law_signed e__law_signed k__law_signed
  have b__law_signed := (F__law_signed).binds (ps := ["_law_cell", "_law_most"]) fun _ _ _ _ _ _ us hl => by obtain ⟨a0, a1, rfl⟩ := us2 hl; rfl
  have m__law_signed := PySem.W.mg_of X G a__law_signed
  have F__law_blanks := fun_mk (st := s__law_blanks) l__law_blanks e__law_blanks k__law_blanks
  have b__law_blanks := (F__law_blanks).binds (ps := ["_law_y", "_law_line", "_law_more"]) fun _ _ _ _ _ _ us hl => by obtain ⟨a0, a1, a2, rfl⟩ := us3 hl; rfl
  have m__law_blanks := PySem.W.mg_of X G a__law_blanks
  have F__law_orders := fun_mk (st := s__law_orders) l__law_orders e__law_orders k__law_orders
  have b__law_orders := (F__law_orders).binds (ps := ["_law_y", "_law_a", "_law_b", "_law_c", "_law_d", "_law_more"]) fun _ _ _ _ _ _ us hl => by obtain ⟨a0, a1, a2, a3, a4, a5, rfl⟩ := us6 hl; rfl
  have m__law_orders := PySem.W.mg_of X G a__law_orders
  have F__law_things := fun_mk (st := s__law_things) l__law_things e__law_things k__law_things
  have b__law_things := (F__law_things).binds (ps := ["_law_text", "_law_picture"]) fun _ _ _ _ _ _ us hl => by obtain ⟨a0, a1, rfl⟩ := us2 hl; rfl
  have m__law_things := PySem.W.mg_of X G a__law_things
  have F_picture_of := fun_mk (st := s_picture_of) l_picture_of e_picture_of k_picture_of
  have b_picture_of := (F_picture_of).binds (ps := ["stretches"]) fun _ _ _ _ _ _ us hl => by obtain ⟨a0, rfl⟩ := us1 hl; rfl
  have m_picture_of := PySem.W.mg_of X G a_picture_of
  have F_show_row := fun_mk (st := s_show_row) l_show_row e_show_row k_show_row
  have b_show_row := (F_show_row).binds (ps := ["y", "row"]) fun _ _ _ _ _ _ us hl => by obtain ⟨a0, a1, rfl⟩ := us2 hl; rfl
  have m_show_row := PySem.W.mg_of X G a_show_row
  have F_read_whole := fun_mk (st := s_read_whole) l_read_whole e_read_whole k_read_whole
  have b_read_whole := (F_read_whole).binds (ps := ["text"]) fun _ _ _ _ _ _ us hl => by obtain ⟨a0, rfl⟩ := us1 hl; rfl
  have m_read_whole := PySem.W.mg_of X G a_read_whole
  have F__law_numbers := fun_mk (st := s__law_numbers) l__law_numbers e__law_numbers k__law_numbers
  have b__law_numbers := (F__law_numbers).binds (ps := ["_law_cell", "_law_other"]) fun _ _ _ _ _ _ us hl => by obtain ⟨a0, a1, rfl⟩ := us2 hl; rfl
  have m__law_numbers := PySem.W.mg_of X G a__law_numbers
  have F_show := fun_mk (st := s_show) l_show e_show k_show
  have b_show := (F_show).binds (ps := ["picture"]) fun _ _ _ _ _ _ us hl => by obtain ⟨a0, rfl⟩ := us1 hl; rfl
  have m_show := PySem.W.mg_of X G a_show
  have F_read_stretch := fun_mk (st := s_read_stretch) l_read_stretch e_read_stretch k_read_stretch
  have b_read_stretch := (F_read_stretch).binds (ps := ["y", "text"]) fun _ _ _ _ _ _ us hl => by obtain ⟨a0, a1, rfl⟩ := us2 hl; rfl
  have m_read_stretch := PySem.W.mg_of X G a_read_stretch
  have F_read_stretches := fun_mk (st := s_read_stretches) l_read_stretches e_read_stretches k_read_stretches
  have b_read_stretches := (F_read_stretches).binds (ps := ["text"]) fun _ _ _ _ _ _ us hl => by obtain ⟨a0, rfl⟩ := us1 hl; rfl
  have m_read_stretches := PySem.W.mg_of X G a_read_stretches
  have F_read := fun_mk (st := s_read) l_read e_read k_read
  have b_read := (F_read).binds (ps := ["text"]) fun _ _ _ _ _ _ us hl => by obtain ⟨a0, rfl⟩ := us1 hl; rfl
  have m_read := PySem.W.mg_of X G a_read
  have F__law_refused := fun_mk (st := s__law_refused) l__law_refused e__law_refused k__law_refused
  have b__law_refused := (F__law_refused).binds (ps := ["_law_thing"]) fun _ _ _ _ _ _ us hl => by obtain ⟨a0, rfl⟩ := us1 hl; rfl
  have m__law_refused := PySem.W.mg_of X G a__law_refused
  have F__law_one := fun_mk (st := s__law_one) l__law_one e__law_one k__law_one
  have b__law_one := (F__law_one).binds (ps := ["_law_cell", "_law_other"]) fun _ _ _ _ _ _ us hl => by obtain ⟨a0, a1, rfl⟩ := us2 hl; rfl
  have m__law_one := PySem.W.mg_of X G a__law_one
  have F_law := fun_mk (st := s_law) l_law e_law k_law
  refine ⟨PySem.W.fnOf "law" "law" (defArgs s_law) (defBody s_law) (defScope s_law) .none kV_law dc_law pm_law an_law cd_law ct_law, fun s v => .of_eq rfl, fun base _ _ => ?_⟩
  have G__law_blanks : FnOk l.prog w K mg base CX0 1 f__law_blanks _ ["_law_y", "_law_line", "_law_more"] (sp__law_blanks K) := ok__law_blanks F__law_blanks T
  have G__law_orders : FnOk l.prog w K mg base CX0 1 f__law_orders _ ["_law_y", "_law_a", "_law_b", "_law_c", "_law_d", "_law_more"] (sp__law_orders K) := ok__law_orders F__law_orders T
  have G__law_signed : FnOk l.prog w K mg base CX0 1 f__law_signed _ ["_law_cell", "_law_most"] (sp__law_signed K) := ok__law_signed F__law_signed T
  have G__law_things : FnOk l.prog w K mg base CX0 1 f__law_things _ ["_law_text", "_law_picture"] (sp__law_things K) := ok__law_things F__law_things T
  have G_row_of : FnOk l.prog w K mg base CX0 1 f_row_of _ ["pairs"] (sp_row_of K) := ok_row_of F_row_of T
  have G_show_stretch : FnOk l.prog w K mg base CX0 1 f_show_stretch _ ["a", "b"] (sp_show_stretch K) := ok_show_stretch F_show_stretch T
  have G_writes_whole : FnOk l.prog w K mg base CX0 1 f_writes_whole _ ["text"] (sp_writes_whole K) := ok_writes_whole F_writes_whole T
  have GX_read_whole : FnOk l.prog w K mg base (CXe l.prog w) 2 f_read_whole _ ["text"] (spX_read_whole K) := okX_read_whole F_read_whole T G_writes_whole m_writes_whole k_writes_whole b_writes_whole
  have G__law_numbers : FnOk l.prog w K mg base CX0 2 f__law_numbers _ ["_law_cell", "_law_other"] (sp__law_numbers K) := ok__law_numbers F__law_numbers T G__law_signed m__law_signed k__law_signed b__law_signed
  have G_picture_of : FnOk l.prog w K mg base CX0 2 f_picture_of _ ["stretches"] (sp_picture_of K) := ok_picture_of F_picture_of T G_row_of m_row_of k_row_of b_row_of
  have G_read_whole : FnOk l.prog w K mg base CX0 2 f_read_whole _ ["text"] (sp_read_whole K) := ok_read_whole F_read_whole T G_writes_whole m_writes_whole k_writes_whole b_writes_whole
  have G_show_row : FnOk l.prog w K mg base CX0 2 f_show_row _ ["y", "row"] (sp_show_row K) := ok_show_row F_show_row T G_show_stretch m_show_stretch k_show_stretch b_show_stretch
  have GX_read_stretch : FnOk l.prog w K mg base (CXe l.prog w) 3 f_read_stretch _ ["y", "text"] (spX_read_stretch K) := okX_read_stretch F_read_stretch T G_read_whole m_read_whole k_read_whole b_read_whole GX_read_whole
  have G_read_stretch : FnOk l.prog w K mg base CX0 3 f_read_stretch _ ["y", "text"] (sp_read_stretch K) := ok_read_stretch F_read_stretch T G_read_whole m_read_whole k_read_whole b_read_whole
  have G_show : FnOk l.prog w K mg base CX0 3 f_show _ ["picture"] (sp_show K) := ok_show F_show T G_show_row m_show_row k_show_row b_show_row
  have GX_read_stretches : FnOk l.prog w K mg base (CXe l.prog w) 4 f_read_stretches _ ["text"] (spX_read_stretches K) := okX_read_stretches F_read_stretches T G_read_whole m_read_whole k_read_whole b_read_whole GX_read_whole G_read_stretch m_read_stretch k_read_stretch b_read_stretch GX_read_stretch
  have G_read_stretches : FnOk l.prog w K mg base CX0 4 f_read_stretches _ ["text"] (sp_read_stretches K) := ok_read_stretches F_read_stretches T G_read_whole m_read_whole k_read_whole b_read_whole G_read_stretch m_read_stretch k_read_stretch b_read_stretch
  have GX_read : FnOk l.prog w K mg base (CXe l.prog w) 5 f_read _ ["text"] (spX_read K) := okX_read F_read T G_picture_of m_picture_of k_picture_of b_picture_of G_read_stretches m_read_stretches k_read_stretches b_read_stretches GX_read_stretches G_show m_show k_show b_show
  have G_read : FnOk l.prog w K mg base CX0 5 f_read _ ["text"] (sp_read K) := ok_read F_read T G_picture_of m_picture_of k_picture_of b_picture_of G_read_stretches m_read_stretches k_read_stretches b_read_stretches G_show m_show k_show b_show
  have G__law_refused : FnOk l.prog w K mg base CX0 6 f__law_refused _ ["_law_thing"] (sp__law_refused K) := ok__law_refused F__law_refused T GX_read m_read k_read b_read
  have G__law_one : FnOk l.prog w K mg base CX0 7 f__law_one _ ["_law_cell", "_law_other"] (sp__law_one K) := ok__law_one F__law_one T G__law_numbers m__law_numbers k__law_numbers b__law_numbers G__law_blanks m__law_blanks k__law_blanks b__law_blanks G__law_orders m__law_orders k__law_orders b__law_orders G__law_things m__law_things k__law_things b__law_things G_read m_read k_read b_read G__law_refused m__law_refused k__law_refused b__law_refused
  exact ok_law F_law T G__law_one m__law_one k__law_one b__law_one
theorem walk {l : PySem.W.OpenLaw} {q : Program} {loose : List Str} {XP : (Str → Option Value) → Heap → Prop} {YP : World → Heap → Prop} {d : DefRec} {K : Params → PySem.W.Frag} (hn : l.most = some 63) (hdf : d.params.defaults = [])
    (hY : ∀ (w : World) (h : Heap), YP w h → (K w.params).In h)
    (F : ∀ (w : World) (mg : Str → Option Value) (fa : Addr) (h : Heap), (K w.params).In h → h.Ns mainGlobals mg → mg d.name = some (.ref fa) →
      ∃ fd : FuncData, (∀ (s : Shared) (u : Value), BindsTo s fd ⟨[u], []⟩ [("_law_script", u)]) ∧ ∀ base : Heap, (K w.params).In base → base.Ns mainGlobals mg → FnOk l.prog w (K w.params) mg base CX0 8 fa fd ["_law_script"] (sp_law (K w.params))) :
    PySem.W.WalkO q loose XP YP l.row.toRowW d [] (fun f vs => PySem.call f vs) :=
  L2.walk_of (n := 63) (k := 8) (x := "_law_script") (CX := fun _ => CX0) (sp := fun w => sp_law (K w.params)) hn (by decide) hdf ⟨rfl, by decide, by decide⟩ hY F (fun _ H a ns hl _ hS => M.sp_script hS (m_law_is ns hl)) fun _ _ _ _ _ z => z
end Lw
open PySem PySem.W PyProof.Rows
set_option maxRecDepth 100000 in
set_option maxHeartbeats 0 in
theorem PySem.Challenge.cw_shapethin_k23_texts_of_no_picture_holds : PySem.Challenge.rw_shapethin_k23_texts_of_no_picture.Holds := by
  w_on; o_law; k_head; (case hw => w_witness2)
  k_fill
  refine Lw.walk (l := PySem.Challenge.rw_shapethin_k23_texts_of_no_picture) rfl rfl (fun w h Y => PySem.W.kIn_of Y) ?F
  case F =>
    intro w mg fa h KX G hmg
    refine' Lw.all_mk KX G hmg ?a_row_of ?l_row_of ?e_row_of ?k_row_of ?a_picture_of ?l_picture_of ?e_picture_of ?k_picture_of ?a_show ?l_show ?e_show ?k_show ?a_show_row ?l_show_row ?e_show_row ?k_show_row ?a_show_stretch ?l_show_stretch ?e_show_stretch ?k_show_stretch ?a_read ?l_read ?e_read ?k_read ?a_read_stretches ?l_read_stretches ?e_read_stretches ?k_read_stretches ?a_read_stretch ?l_read_stretch ?e_read_stretch ?k_read_stretch ?a_read_whole ?l_read_whole ?e_read_whole ?k_read_whole ?a_writes_whole ?l_writes_whole ?e_writes_whole ?k_writes_whole ?a__law_signed ?l__law_signed ?e__law_signed ?k__law_signed ?a__law_numbers ?l__law_numbers ?e__law_numbers ?k__law_numbers ?a__law_blanks ?l__law_blanks ?e__law_blanks ?k__law_blanks ?a__law_orders ?l__law_orders ?e__law_orders ?k__law_orders ?a__law_things ?l__law_things ?e__law_things ?k__law_things ?a__law_refused ?l__law_refused ?e__law_refused ?k__law_refused ?a__law_one ?l__law_one ?e__law_one ?k__law_one ?a_law ?l_law ?e_law ?k_law ?n_NoBack ?n_NoForm ?n_NoName ?n_NoRow ?n_NoText ?n_ShapeError ?n_TooGreat ?n_TooMany ?xg ?xt ?x1_NoText ?x2_NoText ?x3_NoText ?x4_NoText ?x5_NoText ?x6_NoText ?xe_NoText ?xo_NoText_NoBack ?xo_NoText_NoForm ?xo_NoText_NoName ?xo_NoText_NoRow ?xo_NoText_NoText ?xo_NoText_TooGreat ?xo_NoText_TooMany ?xo_NoText_ValueError ?xm_NoText_ShapeError ?z_ValueError ?z_abs ?z_all ?z_int ?z_isinstance ?z_len ?z_max ?z_min ?z_range ?z_sorted ?z_str ?z_tuple ?y_FIGURES ?y_MOST_FIGURES ?y_WITHOUT_CELLS
    (case a_row_of => k_is)
    (case l_row_of => k_is)
    (case e_row_of => k_is)
    (case k_row_of => k_is)
    (case a_picture_of => k_is)
    (case l_picture_of => k_is)
    (case e_picture_of => k_is)
    (case k_picture_of => k_is)
    (case a_show => k_is)
    (case l_show => k_is)
    (case e_show => k_is)
    (case k_show => k_is)
    (case a_show_row => k_is)
    (case l_show_row => k_is)
    (case e_show_row => k_is)
    (case k_show_row => k_is)
    (case a_show_stretch => k_is)
    (case l_show_stretch => k_is)
    (case e_show_stretch => k_is)
    (case k_show_stretch => k_is)
    (case a_read => k_is)
    (case l_read => k_is)
    (case e_read => k_is)
    (case k_read => k_is)
    (case a_read_stretches => k_is)
    (case l_read_stretches => k_is)
    (case e_read_stretches => k_is)
    (case k_read_stretches => k_is)
    (case a_read_stretch => k_is)
    (case l_read_stretch => k_is)
    (case e_read_stretch => k_is)
    (case k_read_stretch => k_is)
    (case a_read_whole => k_is)
    (case l_read_whole => k_is)
    (case e_read_whole => k_is)
    (case k_read_whole => k_is)
    (case a_writes_whole => k_is)
    (case l_writes_whole => k_is)
    (case e_writes_whole => k_is)
    (case k_writes_whole => k_is)
    (case a__law_signed => k_is)
    (case l__law_signed => k_is)
    (case e__law_signed => k_is)
    (case k__law_signed => k_is)
    (case a__law_numbers => k_is)
    (case l__law_numbers => k_is)
    (case e__law_numbers => k_is)
    (case k__law_numbers => k_is)
    (case a__law_blanks => k_is)
    (case l__law_blanks => k_is)
    (case e__law_blanks => k_is)
    (case k__law_blanks => k_is)
    (case a__law_orders => k_is)
    (case l__law_orders => k_is)
    (case e__law_orders => k_is)
    (case k__law_orders => k_is)
    (case a__law_things => k_is)
    (case l__law_things => k_is)
    (case e__law_things => k_is)
    (case k__law_things => k_is)
    (case a__law_refused => k_is)
    (case l__law_refused => k_is)
    (case e__law_refused => k_is)
    (case k__law_refused => k_is)
    (case a__law_one => k_is)
    (case l__law_one => k_is)
    (case e__law_one => k_is)
    (case k__law_one => k_is)
    (case a_law => k_is)
    (case l_law => k_is)
    (case e_law => k_is)
    (case k_law => k_is)
    (case n_NoBack => k_is)
    (case n_NoForm => k_is)
    (case n_NoName => k_is)
    (case n_NoRow => k_is)
    (case n_NoText => k_is)
    (case n_ShapeError => k_is)
    (case n_TooGreat => k_is)
    (case n_TooMany => k_is)
    (case xg => k_is)
    (case xt => k_is)
    (case x1_NoText => k_is)
    (case x2_NoText => k_is)
    (case x3_NoText => k_is)
    (case x4_NoText => k_is)
    (case x5_NoText => k_is)
    (case x6_NoText => k_is)
    (case xe_NoText => k_exc)
    (case xo_NoText_NoBack => kit_is)
    (case xo_NoText_NoForm => kit_is)
    (case xo_NoText_NoName => kit_is)
    (case xo_NoText_NoRow => kit_is)
    (case xo_NoText_NoText => kit_is)
    (case xo_NoText_TooGreat => kit_is)
    (case xo_NoText_TooMany => kit_is)
    (case xo_NoText_ValueError => kit_is)
    (case xm_NoText_ShapeError => kts_exm)
    (case z_ValueError => k_is)
    (case z_abs => k_is)
    (case z_all => k_is)
    (case z_int => k_is)
    (case z_isinstance => k_is)
    (case z_len => k_is)
    (case z_max => k_is)
    (case z_min => k_is)
    (case z_range => k_is)
    (case z_sorted => k_is)
    (case z_str => k_is)
    (case z_tuple => k_is)
    (case y_FIGURES => k_is)
    (case y_MOST_FIGURES => k_is)
    (case y_WITHOUT_CELLS => k_is)

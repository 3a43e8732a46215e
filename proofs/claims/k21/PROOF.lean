import PyProof.Rows.All
import Wide.All
import OpenK.AllK
import Wide.FinOn
import Lean
import PyProof.EqAt
import PyProof.EqKinds
import PyProof.TupleCall
import PySem.Challenge.RW_shapethin_k21_whole_numbers_read
set_option genSizeOf false
set_option bootstrap.genMatcherCode false
set_option compiler.extract_closed false
set_option Elab.async false
set_option linter.all false
set_option maxRecDepth 100000
namespace L2
open PySem PySem.Spec PyProof.Rows
noncomputable abbrev Key := Sum Int Str
noncomputable def keyIs : Key → Value → Bool
  | .inl k, v => Value.isInt k v
  | .inr x, v => Value.isStrOf x v
noncomputable def keyH (w : World) : Key → Int
  | .inl k => hashInt k
  | .inr x => hashStr w x
theorem keyIs_shape : ∀ {k : Key} {v : Value}, keyIs k v = true → (∃ i t, k = Sum.inl i ∧ v = Value.int i t) ∨ (∃ x t, k = Sum.inr x ∧ v = Value.str x t)
  | .inl i, v, h => by
    obtain ⟨t, e⟩ := Value.isInt_shape (k := i) (v := v) h
    exact .inl ⟨i, t, rfl, e⟩
  | .inr x, v, h => by
    obtain ⟨t, e⟩ := Value.isStrOf_shape (x := x) (v := v) h
    exact .inr ⟨x, t, rfl, e⟩
theorem key_ll (a b : Int) : decide ((Sum.inl a : Key) = Sum.inl b) = (a == b) := by
  by_cases e : a = b
  · subst e; simp
  · have h : ¬ (Sum.inl a : Key) = Sum.inl b := fun q => e (Sum.inl.inj q)
    rw [decide_eq_false h]
    exact (beq_eq_false_iff_ne.mpr e).symm
theorem key_rr (a b : Str) : decide ((Sum.inr a : Key) = Sum.inr b) = decide (a = b) := by
  by_cases e : a = b
  · subst e; simp
  · have h : ¬ (Sum.inr a : Key) = Sum.inr b := fun q => e (Sum.inr.inj q)
    rw [decide_eq_false h, decide_eq_false e]
theorem key_lr (a : Int) (b : Str) : decide ((Sum.inl a : Key) = Sum.inr b) = false := decide_eq_false (fun q => nomatch q)
theorem key_rl (a : Str) (b : Int) : decide ((Sum.inr a : Key) = Sum.inl b) = false := decide_eq_false (fun q => nomatch q)
noncomputable def mixKind (prog : Program) (w : World) : PySem.KeyKind prog w Key where
  is := keyIs
  hash := keyH w
  inj := fun v a b ha hb => by
    rcases keyIs_shape ha with ⟨i, t, rfl, rfl⟩ | ⟨x, t, rfl, rfl⟩
    · rcases keyIs_shape hb with ⟨j, u, rfl, e⟩ | ⟨y, u, rfl, e⟩
      · injection e with e1 _; rw [e1]
      · exact nomatch e
    · rcases keyIs_shape hb with ⟨j, u, rfl, e⟩ | ⟨y, u, rfl, e⟩
      · exact nomatch e
      · injection e with e1 _; rw [e1]
  byValue := fun k v h => by
    rcases keyIs_shape h with ⟨i, t, rfl, rfl⟩ | ⟨x, t, rfl, rfl⟩ <;> rfl
  pyHash := fun hv h => by
    rcases keyIs_shape hv with ⟨i, t, rfl, rfl⟩ | ⟨x, t, rfl, rfl⟩
    · exact wpAny_pyHash_int h
    · exact wpAny_pyHash_str h
  eqBool := fun hu hv h => by
    rcases keyIs_shape hu with ⟨i, t, rfl, rfl⟩ | ⟨x, t, rfl, rfl⟩
    · rcases keyIs_shape hv with ⟨j, u, rfl, rfl⟩ | ⟨y, u, rfl, rfl⟩
      · rw [key_ll] at h; exact wpAny_eqBool_int h
      · rw [key_lr] at h; exact SeqAt.EqAt.int_str i t y u _ _ _ _ h
    · rcases keyIs_shape hv with ⟨j, u, rfl, rfl⟩ | ⟨y, u, rfl, rfl⟩
      · rw [key_rl] at h; exact SeqAt.EqAt.str_int x t j u _ _ _ _ h
      · rw [key_rr] at h; exact wpAny_eqBool_str h
  «strs» := fun k x t v h => by
    rcases keyIs_shape h with ⟨i, u, rfl, e⟩ | ⟨y, u, rfl, e⟩
    · exact nomatch e
    · injection e with e1 _
      subst e1
      cases v <;> rfl
end L2
namespace L2
open PySem PySem.Spec PyProof.Rows
inductive V where
  | non | bl (b : Bool) | int (i : Int) | str (x : Str) | byt (b : Array UInt8) | flt (b : UInt64) | ref (a : Addr) | ty (n : String)
  deriving DecidableEq
noncomputable def RelV : V → Value → Prop
  | .non, u => u = Value.none
  | .bl b, u => u = Value.bool b
  | .int i, u => ∃ t, u = Value.int i t
  | .str x, u => ∃ t, u = Value.str x t
  | .byt b, u => ∃ t, u = Value.bytes b t
  | .flt b, u => ∃ t, u = Value.float b t
  | .ref a, u => u = Value.ref a
  | .ty n, u => u = Value.type n
noncomputable abbrev Vals : List V → List Value → Prop := Paired RelV
theorem Vals.length {xs : List V} {us : List Value} (r : Vals xs us) : xs.length = us.length := Paired.length r
theorem Vals.get : ∀ {xs : List V} {us : List Value} {i : Nat} {x : V}, Vals xs us → xs[i]? = some x → ∃ u, us[i]? = some u ∧ RelV x u
  | _, _, _, _, .nil, e => by simp at e
  | _, _, 0, _, .cons r _, e => by simp at e; subst e; exact ⟨_, rfl, r⟩
  | _, _, i + 1, x, .cons _ t, e => by
    obtain ⟨u, h1, h2⟩ := Vals.get (i := i) (x := x) t (by simpa using e)
    exact ⟨u, by simpa using h1, h2⟩
theorem Vals.append : ∀ {xs ys : List V} {us ws : List Value}, Vals xs us → Vals ys ws → Vals (xs ++ ys) (us ++ ws)
  | _, _, _, _, .nil, s => s
  | _, _, _, _, .cons r t, s => .cons r (Vals.append t s)
theorem Vals.take : ∀ {xs : List V} {us : List Value} (n : Nat), Vals xs us → Vals (xs.take n) (us.take n)
  | _, _, 0, _ => .nil
  | _, _, _ + 1, .nil => .nil
  | _, _, n + 1, .cons r t => .cons r (Vals.take n t)
theorem Vals.drop : ∀ {xs : List V} {us : List Value} (n : Nat), Vals xs us → Vals (xs.drop n) (us.drop n)
  | _, _, 0, r => r
  | _, _, _ + 1, .nil => .nil
  | _, _, n + 1, .cons _ t => Vals.drop n t
noncomputable def RelO : Option V → Option Value → Prop
  | some v, some u => RelV v u
  | none, none => True
  | _, _ => False
noncomputable def KV {κ : Type} : List (κ × V) → List (κ × Value) → Prop := Paired fun (p : κ × V) (q : κ × Value) => p.1 = q.1 ∧ RelV p.2 q.2
noncomputable def kV : Key → V
  | .inl i => .int i
  | .inr x => .str x
inductive HO where
    | lst (xs : List V)
    | tup (xs : List V)
    | dK (kvs : List (Key × V)) | dT (kvs : List (List Key × V))
    | set (S : Int → Bool) (n : Nat)
    | ins (C dx : Addr) (fs : List (Str × V))
    | own (x : Addr)
    | xd (fs : List (Str × V))
    | met (f x : Addr)
    | rng (lo hi : Int)
    | frz (o : Obj) (u : HO)
    | tbl (ps : Array Value)
    | ext (φ : Heap → Prop)
noncomputable abbrev Hp := Addr → Option HO
noncomputable def upd (H : Hp) (a : Addr) (o : HO) : Hp := fun b => if b = a then some o else H b
theorem upd_same {H : Hp} {a : Addr} {o : HO} : upd H a o a = some o := by unfold upd; rw [if_pos rfl]
theorem upd_ne {H : Hp} {a b : Addr} {o : HO} (h : b ≠ a) : upd H a o b = H b := by unfold upd; rw [if_neg h]
theorem ne_of_none {H : Hp} {a b : Addr} {o : HO} (h : H a = some o) (h' : H b = none) : a ≠ b := by
  intro e; subst e; rw [h] at h'; cases h'
section
variable (P : Program) (w : World)
noncomputable def ObjOk (H : Hp) (h : Heap) (a : Addr) : HO → Prop
  | .lst xs => xs.length ≤ sizeLine ∧ ∃ (its : List Value) (n : Nat), Vals xs its ∧ h.get? a = some { cls := .type "list", data := .seq its.toArray n }
  | .tup xs => xs.length ≤ sizeLine ∧ ∃ its : List Value, Vals xs its ∧ IsTup h a its.toArray
  | .dK kvs => kvs.length ≤ sizeLine ∧ (a == sysModules) = false ∧ ∃ vs, KV kvs vs ∧ h.DictOf (mixKind P w) a vs
  | .dT kvs => kvs.length ≤ sizeLine ∧ (a == sysModules) = false ∧ ∃ xs : List (List Key × Addr × Value),
      Paired (fun (p : List Key × V) (q : List Key × Addr × Value) => p.1 = q.1 ∧ H q.2.1 = some (.tup (p.1.map kV)) ∧ RelV p.2 q.2.2) kvs xs ∧
      ∃ o es ep, h.get? a = some o ∧ o.ExactDict ∧ o.data = .dict es ep ∧ es.toList = xs.map (entryOfKey (tupleKind (mixKind P w))) ∧ (xs.map (·.1)).Nodup
  | .set S n => h.SetOf (intKind P w) a S n
  | .ins C dx fs => H dx = some (.own a) ∧ fs.length ≤ 1000 ∧ dx ≠ a ∧ h.get? a = some (PySem.W.instObj C dx) ∧
      ∃ mA, h.Ns1 dx mA ∧ (∀ f, RelO (fs.lookup f) (mA f)) ∧ PySem.Within mA (fs.map (·.1))
  | .own _ => ∃ o, h.get? a = some o
  | .xd fs => ∃ mA, h.Ns1 a mA ∧ ∀ f, RelO (fs.lookup f) (mA f)
  | .rng lo hi => ∃ t u v, h.get? a = some { cls := .type "range", data := .fields #[.int lo t, .int hi u, .int 1 v] }
  | .frz o u => h.get? a = some o ∧ ObjOk H h a u
  | .tbl ps => h.get? a = some { cls := .none, data := .fields ps }
  | .met f x => h.get? a = some (PySem.W.methodObj (.ref f) (.ref x))
  | .ext φ => φ h ∧ (∃ o, h.get? a = some o) ∧ ∀ h1 h2 : Heap, φ h1 → (∀ o, h1.get? a = some o → h2.get? a = some o) → φ h2
noncomputable def HOk (H : Hp) (h : Heap) : Prop := ∀ a o, H a = some o → ObjOk P w H h a o
end
section
variable {P : Program} {w : World} {H H' : Hp} {h h' : Heap} {a : Addr} {o : HO}
theorem ObjOk.lt (x : ObjOk P w H h a o) : a < h.objs.size := by
  cases o with
  | lst xs => obtain ⟨_, _, _, _, e⟩ := x; exact Heap.lt_size e
  | tup xs => obtain ⟨_, _, _, p⟩ := x; exact p.lt
  | dK kvs => obtain ⟨_, _, _, _, o, _, _, e, _⟩ := x; exact Heap.lt_size e
  | dT kvs => obtain ⟨_, _, _, _, o, _, _, e, _⟩ := x; exact Heap.lt_size e
  | set S n => obtain ⟨o, _, _, _, e, _⟩ := x; exact Heap.lt_size e
  | ins C dx fs => obtain ⟨_, _, _, e, _⟩ := x; exact Heap.lt_size e
  | own y => obtain ⟨_, e⟩ := x; exact Heap.lt_size e
  | xd fs => obtain ⟨_, ⟨_, _, _, e, _⟩, _⟩ := x; exact Heap.lt_size e
  | rng lo hi => obtain ⟨_, _, _, e⟩ := x; exact Heap.lt_size e
  | frz ob u => obtain ⟨e, _⟩ := x; exact Heap.lt_size e
  | tbl ps => exact Heap.lt_size (show h.get? a = some _ from x)
  | met f y => exact Heap.lt_size (show h.get? a = some _ from x)
  | ext φ => obtain ⟨_, ⟨_, e⟩, _⟩ := x; exact Heap.lt_size e
theorem Paired.mapP {α β : Type} {F G : α → β → Prop} : ∀ {l₁ : List α} {l₂ : List β}, Paired F l₁ l₂ → (∀ a b, F a b → G a b) → Paired G l₁ l₂
  | _, _, .nil, _ => .nil
  | _, _, .cons r t, f => .cons (f _ _ r) (Paired.mapP t f)
theorem ObjOk.stay (x : ObjOk P w H h a o) (k : ∀ b u, (b = a ∨ H b = some (.own a)) → h.get? b = some u → h'.get? b = some u)
    (ho : ∀ b, H b = some (.own a) → H' b = some (.own a)) (ht : ∀ b xs, H b = some (.tup xs) → H' b = some (.tup xs)) : ObjOk P w H' h' a o := by
  induction o with
  | lst xs => obtain ⟨z, its, n, r, e⟩ := x; exact ⟨z, its, n, r, k _ _ (.inl rfl) e⟩
  | tup xs => obtain ⟨z, its, r, ob, e, c⟩ := x; exact ⟨z, its, r, ob, k _ _ (.inl rfl) e, c⟩
  | dK kvs => obtain ⟨z, y, vs, r, ob, es, ep, e, c⟩ := x; exact ⟨z, y, vs, r, ob, es, ep, k _ _ (.inl rfl) e, c⟩
  | dT kvs =>
    obtain ⟨z, y, xs, r, ob, es, ep, e, c⟩ := x
    exact ⟨z, y, xs, Paired.mapP r fun p q z => ⟨z.1, ht _ _ z.2.1, z.2.2⟩, ob, es, ep, k _ _ (.inl rfl) e, c⟩
  | set S n => obtain ⟨ob, es, ep, t, e, c⟩ := x; exact ⟨ob, es, ep, t, k _ _ (.inl rfl) e, c⟩
  | ins C dx fs =>
    obtain ⟨d, z, ne, e, mA, ⟨od, es, ep, e2, c⟩, r⟩ := x
    exact ⟨ho _ d, z, ne, k _ _ (.inl rfl) e, mA, ⟨od, es, ep, k _ _ (.inr d) e2, c⟩, r⟩
  | own y => obtain ⟨ob, e⟩ := x; exact ⟨ob, k _ _ (.inl rfl) e⟩
  | xd fs => obtain ⟨mA, ⟨od, es, ep, e, c⟩, r⟩ := x; exact ⟨mA, ⟨od, es, ep, k _ _ (.inl rfl) e, c⟩, r⟩
  | rng lo hi => obtain ⟨t, u, v, e⟩ := x; exact ⟨t, u, v, k _ _ (.inl rfl) e⟩
  | frz ob u ih => obtain ⟨e, q⟩ := x; exact ⟨k _ _ (.inl rfl) e, ih q⟩
  | tbl ps =>
    have e : h.get? a = some { cls := .none, data := .fields ps } := x
    show h'.get? a = some { cls := .none, data := .fields ps }
    exact k a _ (.inl rfl) e
  | met f y =>
    have e : h.get? a = some (PySem.W.methodObj (.ref f) (.ref y)) := x
    show h'.get? a = some (PySem.W.methodObj (.ref f) (.ref y))
    exact k a _ (.inl rfl) e
  | ext φ => obtain ⟨p, ⟨o, e⟩, st⟩ := x; exact ⟨st _ _ p fun o q => k _ _ (.inl rfl) q, ⟨o, k _ _ (.inl rfl) e⟩, st⟩
theorem HOk.lt (x : HOk P w H h) (e : H a = some o) : a < h.objs.size := (x a o e).lt
theorem HOk.fresh (x : HOk P w H h) (e : h.objs.size ≤ a) : H a = none := by
  cases q : H a with
  | none => rfl
  | some u => exact absurd (Nat.lt_of_lt_of_le (x.lt q) e) (Nat.lt_irrefl _)
theorem HOk.kept (x : HOk P w H h) (k : ∀ b u, h.get? b = some u → h'.get? b = some u) : HOk P w H h' := fun a o e =>
  (x a o e).stay (fun b u _ q => k b u q) (fun _ q => q) fun _ _ q => q
theorem HOk.laid (x : HOk P w H h) (k : ∀ b u, h.get? b = some u → h'.get? b = some u) (hp : h.objs.size ≤ a) (new : ObjOk P w (upd H a o) h' a o) : HOk P w (upd H a o) h' := fun b u e => by
  have hn := x.fresh hp
  by_cases hb : b = a
  · subst hb; rw [upd_same] at e; cases e; exact new
  · rw [upd_ne hb] at e
    exact (x b u e).stay (fun c v _ q => k c v q) (fun c q => by rw [upd_ne (ne_of_none q hn)]; exact q) fun c xs q => by rw [upd_ne (ne_of_none q hn)]; exact q
end
noncomputable def Rd (H : Hp) (a : Addr) (u : HO) : Prop := H a = some u ∨ ∃ o, H a = some (.frz o u)
theorem Rd.ok {P : Program} {w : World} {H : Hp} {h : Heap} {a : Addr} {u : HO} (r : Rd H a u) (x : HOk P w H h) : ObjOk P w H h a u := by
  rcases r with r | ⟨o, r⟩
  · exact x a u r
  · obtain ⟨_, q⟩ := x a _ r
    exact q
noncomputable def Mut : Option HO → Prop
  | some (.lst _) => True
  | some (.dK _) => True
  | some (.dT _) => True
  | some (.set _ _) => True
  | some (.ins _ _ _) => True
  | some (.ext _) => True
  | _ => False
section
variable {P : Program} {w : World} {H : Hp} {h h' : Heap} {x e : Addr} {o' : HO}
theorem HOk.write (ok : HOk P w H h) (mu : Mut (H x)) (he : e = x ∨ H e = some (.own x)) (k : ∀ b u, b ≠ e → h.get? b = some u → h'.get? b = some u) (heo : ∃ u, h'.get? e = some u)
    (new : ObjOk P w (upd H x o') h' x o') : HOk P w (upd H x o') h' := fun b u q => by
  have nown : ∀ c y, H c = some (.own y) → c ≠ x := fun c y r z => by subst z; rw [r] at mu; exact mu
  have ntup : ∀ c xs, H c = some (.tup xs) → c ≠ x := fun c xs r z => by subst z; rw [r] at mu; exact mu
  by_cases hb : b = x
  · subst hb; rw [upd_same] at q; cases q; exact new
  · rw [upd_ne hb] at q
    by_cases hbe : b = e
    · have q' : H b = some (.own x) := by
        rcases he with z | z
        · exact absurd (hbe.trans z) hb
        · rw [hbe]; exact z
      rw [q] at q'; cases q'
      obtain ⟨v, hv⟩ := heo
      exact ⟨v, by rw [hbe]; exact hv⟩
    · refine (ok b u q).stay (fun c v hc r => k c v ?_ r) (fun c r => by rw [upd_ne (nown c b r)]; exact r) fun c xs r => by rw [upd_ne (ntup c xs r)]; exact r
      rcases hc with rfl | hc
      · exact hbe
      · rintro rfl
        rcases he with z | z
        · exact nown c b hc z
        · rw [hc] at z; cases z; exact hb rfl
end
structure Un (fs ex : List Addr) (H H' : Hp) (h h' : Heap) : Prop where
  keep : ∀ b o, h.get? b = some o → H b = none → b ∉ fs → b ∉ ex → h'.get? b = some o
  slot : ∀ b o, h.get? b = some o → H b = none → b ∈ fs → b ∉ ex → ∃ sl, h'.get? b = some { o with slots := sl }
  free : ∀ b o, h.get? b = some o → H b = none → b ∉ ex → H' b = none
  there : ∀ b o, h.get? b = some o → b ∉ ex → ∃ o', h'.get? b = some o'
  tups : ∀ b xs, H b = some (.tup xs) → H' b = some (.tup xs)
  frzs : ∀ b o u, H b = some (.frz o u) → H' b = some (.frz o u)
  tbls : ∀ b ps, H b = some (.tbl ps) → ∃ more, H' b = some (.tbl (ps ++ more))
section
variable {fs fs' ex ex' : List Addr} {H H1 H2 : Hp} {h h1 h2 h' : Heap} {a x e : Addr} {o : HO}
theorem Un.any (u : Un fs ex H H1 h h1) {b : Addr} {ob : Obj} (q : h.get? b = some ob) (n : H b = none) (hx : b ∉ ex) : ∃ sl, h1.get? b = some { ob with slots := sl } := by
  by_cases hb : b ∈ fs
  · exact u.slot b ob q n hb hx
  · exact ⟨ob.slots, u.keep b ob q n hb hx⟩
theorem Un.kept (k : ∀ b u, h.get? b = some u → h'.get? b = some u) : Un fs ex H H h h' :=
  ⟨fun b ob q _ _ _ => k b ob q, fun b ob q _ _ _ => ⟨ob.slots, k b ob q⟩, fun _ _ _ n _ => n, fun b ob q _ => ⟨ob, k b ob q⟩, fun _ _ q => q, fun _ _ _ q => q, fun _ ps q => ⟨#[], by rw [q]; simp⟩⟩
theorem Un.refl : Un fs ex H H h h := Un.kept fun _ _ q => q
theorem Un.laid (k : ∀ b u, h.get? b = some u → h'.get? b = some u) (hp : h.objs.size ≤ a) (hn : H a = none) : Un fs ex H (upd H a o) h h' where
  keep := fun b u q _ _ _ => k b u q
  slot := fun b u q _ _ _ => ⟨u.slots, k b u q⟩
  free := fun b u q n _ => by rw [upd_ne (Nat.ne_of_lt (Nat.lt_of_lt_of_le (Heap.lt_size q) hp))]; exact n
  there := fun b u q _ => ⟨u, k b u q⟩
  tups := fun b xs q => by rw [upd_ne (ne_of_none q hn)]; exact q
  frzs := fun b u xs q => by rw [upd_ne (ne_of_none q hn)]; exact q
  tbls := fun b ps q => ⟨#[], by rw [upd_ne (ne_of_none q hn), q]; simp⟩
theorem Un.write (mu : Mut (H x)) (he : e = x ∨ H e = some (.own x)) (k : ∀ b u, b ≠ e → h.get? b = some u → h'.get? b = some u) (heo : ∃ u, h'.get? e = some u) : Un fs ex H (upd H x o) h h' := by
  have hx : ∀ b, H b = none → b ≠ x := fun b n z => by subst z; rw [n] at mu; exact mu
  have hb : ∀ b, H b = none → b ≠ e := fun b n z => by
    subst z
    rcases he with r | r
    · exact hx b n r
    · rw [n] at r; cases r
  have hm : ∀ b u, H b = some u → ¬ Mut (some u) → b ≠ x := fun b u q nm z => by subst z; rw [q] at mu; exact nm mu
  refine ⟨fun b u q n _ _ => k b u (hb b n) q, fun b u q n _ _ => ⟨u.slots, k b u (hb b n) q⟩, fun b u q n _ => by rw [upd_ne (hx b n)]; exact n, fun b u q _ => ?_,
    fun b xs q => by rw [upd_ne (hm b _ q fun z => z)]; exact q, fun b u xs q => by rw [upd_ne (hm b _ q fun z => z)]; exact q, fun b ps q => ⟨#[], by rw [upd_ne (hm b _ q fun z => z), q]; simp⟩⟩
  by_cases hbe : b = e
  · subst hbe; exact heo
  · exact ⟨u, k b u hbe q⟩
end
noncomputable def trk (h : Heap) (H : Hp) : List Addr := (List.range h.objs.size).filter fun a => (H a).isSome
noncomputable def hidT (h : Heap) (H : Hp) : Heap := PySem.W.hideAll h (trk h H)
theorem hidT_size (h : Heap) (H : Hp) : (hidT h H).objs.size = h.objs.size := PySem.W.hideAll_size _ _
theorem hidT_get {h : Heap} {H : Hp} {b : Addr} {o : Obj} (e : h.get? b = some o) (n : H b = none) : (hidT h H).get? b = some o :=
  PySem.W.hideAll_get _ e fun hm => by
    have q : (H b).isSome = true := (List.mem_filter.mp hm).2
    rw [n] at q; simp at q
theorem of_hidT {h : Heap} {H : Hp} {b : Addr} {o : Obj} (e : (hidT h H).get? b = some o) : h.get? b = some o ∧ H b = none := by
  have e' : h.get? b = some o := PySem.W.of_hideAll (trk h H) e
  refine ⟨e', ?_⟩
  cases q : H b with
  | none => rfl
  | some x =>
    have hm : b ∈ trk h H := List.mem_filter.mpr ⟨List.mem_range.mpr (Heap.lt_size e'), by simp [q]⟩
    have z : (hidT h H).get? b = none := PySem.W.hideAll_none (trk h H) hm
    rw [z] at e; cases e
noncomputable def allNews (g h : Heap) (L : Addr) : List (Addr × Obj) := (List.range h.objs.size).filterMap fun a => if a = L ∨ (g.get? a).isSome = true then none else (h.get? a).map fun o => (a, o)
noncomputable def rest (g h : Heap) (L d : Addr) : List (Addr × Obj) := (allNews g h L).filter fun p => decide (p.1 ≠ d)
end L2
namespace L2
open PySem PySem.Spec PyProof.Rows
structure Mod (K : PySem.W.Frag) (mg : Str → Option Value) (base : Heap) : Prop where
  kin : K.In base
  glob : base.Ns mainGlobals mg
  blt : ∃ mb, base.Ns builtinsNs mb ∧ ∀ x : Str, x ≠ "__name__" → mb x = bootBuiltins x
  nolimit : base.NoLimit
structure Cx where
  prog : Program
  w : World
  K : PySem.W.Frag
  mg : Str → Option Value
  base : Heap
  A : Around
  N : List Str
  s₀ : Shared
  H₀ : Hp
  env : Env
  outer : List Env
  stack : List Env
  ex : List Addr
  fn : Str → Bool
  calm : Bool
  pn : List (Addr × Obj)
  xe : Value → Shared → Prop
noncomputable def frs (l : List Env) : List Addr := l.filterMap (·.frame)
noncomputable abbrev Cx.fs (X : Cx) : List Addr := frs X.outer
noncomputable def Vis (sc : Scope) (x : Str) : Prop := sc.names.lookup x = some .local ∨ sc.names.lookup x = some .cell ∨ sc.names.lookup x = some .free
noncomputable def Loc (sc : Scope) (x : Str) : Prop := sc.names.lookup x = some .local ∨ sc.names.lookup x = some .cell
noncomputable def Look (env : Env) (h : Heap) (m : Str → Option Value) (x : Str) (u : Value) : Prop :=
  (env.kindOf x = some .local ∧ m x = some u) ∨ ((env.kindOf x = some .cell ∨ env.kindOf x = some .free) ∧ ∃ c, env.cells.lookup x = some c ∧ h.IsCell c (some u))
structure Cx.Ok (X : Cx) : Prop where
  mod : Mod X.K X.mg X.base
  kind : X.env.scope.kind = .function
  glob : X.env.globals = mainGlobals
  blt : X.env.builtins = builtinsNs
  above : X.s₀.heap.objs.size ≤ X.env.locals
  inj : ∀ x y c, X.env.cells.lookup x = some c → X.env.cells.lookup y = some c → x = y
  has : ∀ x, (X.env.kindOf x = some .cell ∨ X.env.kindOf x = some .free) → ∃ c, X.env.cells.lookup x = some c
  cab : ∀ x c, X.fn x = true → X.env.cells.lookup x = some c → X.s₀.heap.objs.size ≤ c
  hd : X.calm = true → X.A.handled = none
  frames : X.A.frames = some X.stack
  stk : X.stack = X.outer ∨ (X.stack = X.env :: X.outer ∧ X.env.frame = some X.env.locals)
  exf : ∀ b ∈ X.ex, b ≠ X.env.locals ∧ ∀ x c, X.env.cells.lookup x = some c → c ≠ b
  bs : ∀ b o, X.base.get? b = some o → X.s₀.heap.get? b = some o ∧ X.H₀ b = none
  bsz : X.base.objs.size ≤ X.s₀.heap.objs.size
  noex : ∀ b o, X.base.get? b = some o → b ∉ X.ex
  exfs : ∀ b ∈ X.ex, b ∉ X.fs
  funs : X.s₀.heap.FunFrames X.base X.outer
  frf : ∀ b ∈ X.fs, X.H₀ b = none
structure Inv (X : Cx) (pins : List (Addr × Obj)) (σ : List (Option V)) (H : Hp) (s : Shared) : Prop where
  ok : X.Ok
  os : s.os = X.s₀.os
  bare : AllBare s.gens
  base : Un X.fs X.ex X.H₀ H X.s₀.heap s.heap
  loc : ∃ m, s.heap.Ns X.env.locals m ∧ ∀ (i : Nat) (x : Str) (v : V), X.N[i]? = some x → σ[i]? = some (some v) → Vis X.env.scope x → ∃ u, RelV v u ∧ Look X.env s.heap m x u
  cell : ∀ x c, X.env.cells.lookup x = some c → ∃ v, s.heap.IsCell c v
  free : H X.env.locals = none
  freeC : ∀ x c, X.env.cells.lookup x = some c → H c = none
  pin : ∀ p ∈ X.pn ++ pins, s.heap.get? p.1 = some p.2 ∧ H p.1 = none ∧ p.1 ≠ X.env.locals ∧ p.1 ∉ X.fs ∧ ∀ v, p.2.data ≠ .cell v
  hok : HOk X.prog X.w H s.heap
  len : σ.length = X.N.length
section
variable {X : Cx} {pins : List (Addr × Obj)} {σ : List (Option V)} {H H' : Hp} {s : Shared} {h' : Heap}
theorem Cx.Ok.nofr (ok : X.Ok) {b : Addr} {o : Obj} (e : X.base.get? b = some o) : b ∉ X.fs := fun hb => by
  have := (ok.funs.mem hb).1
  rw [e] at this; cases this
theorem Inv.bs (I : Inv X pins σ H s) : ∀ b o, X.base.get? b = some o → s.heap.get? b = some o ∧ H b = none := fun b o e =>
  ⟨I.base.keep b o (I.ok.bs b o e).1 (I.ok.bs b o e).2 (I.ok.nofr e) (I.ok.noex b o e), I.base.free b o (I.ok.bs b o e).1 (I.ok.bs b o e).2 (I.ok.noex b o e)⟩
theorem Inv.bk (I : Inv X pins σ H s) : ∀ b o, X.base.get? b = some o → s.heap.get? b = some o := fun b o e => (I.bs b o e).1
theorem Inv.mod (I : Inv X pins σ H s) : Mod X.K X.mg X.base := I.ok.mod
theorem Inv.kIn (I : Inv X pins σ H s) : X.K.In s.heap := I.ok.mod.kin.keeps I.bk
theorem Inv.fr (I : Inv X pins σ H s) : ∃ m, Fr X.base X.env.locals s.heap m :=
  let ⟨m, hn, _⟩ := I.loc
  ⟨m, hn, I.bk, Nat.le_trans I.ok.bsz I.ok.above⟩
theorem Inv.lt (I : Inv X pins σ H s) : X.env.locals < s.heap.objs.size := let ⟨_, hn, _⟩ := I.loc; hn.lt
theorem Inv.sz (I : Inv X pins σ H s) : X.s₀.heap.objs.size ≤ s.heap.objs.size := Nat.le_trans I.ok.above (Nat.le_of_lt I.lt)
theorem Inv.nofs (I : Inv X pins σ H s) {a : Addr} (h : s.heap.objs.size ≤ a) : a ∉ X.fs := fun hb => by
  obtain ⟨_, o, ho, _⟩ := I.ok.funs.mem hb
  exact absurd (Nat.lt_of_lt_of_le (Heap.lt_size ho) (Nat.le_trans I.sz h)) (Nat.lt_irrefl _)
theorem Inv.cne (I : Inv X pins σ H s) : ∀ x c, X.env.cells.lookup x = some c → c ≠ X.env.locals := fun x c e z => by
  obtain ⟨v, o, ho, hd⟩ := I.cell x c e
  obtain ⟨m, ⟨o', es, ep, ho', hd', _⟩, _⟩ := I.loc
  rw [z, ho'] at ho; cases ho; rw [hd'] at hd; cases hd
theorem Inv.funs (I : Inv X pins σ H s) : s.heap.FunFrames X.base X.outer := by
  have all : ∀ (l : List Env), (∀ b ∈ frs l, b ∈ X.fs) → X.s₀.heap.FunFrames X.base l → s.heap.FunFrames X.base l := by
    intro l
    induction l with
    | nil => intro _ _; trivial
    | cons env r ih =>
      intro hs hl
      obtain ⟨hk, ⟨L, o, hf, hn, ho, hd⟩, hr⟩ := hl
      have hL : L ∈ X.fs := hs L (by unfold frs; rw [List.filterMap_cons, hf]; exact List.mem_cons_self)
      obtain ⟨sl, e⟩ := I.base.slot L o ho (I.ok.frf L hL) hL fun z => I.ok.exfs L z hL
      exact ⟨hk, ⟨L, _, hf, hn, e, hd⟩, ih (fun b hb => hs b (by unfold frs; rw [List.filterMap_cons, hf]; exact List.mem_cons_of_mem _ hb)) hr⟩
  exact all X.outer (fun _ hb => hb) I.ok.funs
theorem Inv.stack (I : Inv X pins σ H s) : s.heap.FunFrames X.base X.stack := by
  rcases I.ok.stk with e | ⟨e, hf⟩
  · rw [e]; exact I.funs
  · rw [e]
    obtain ⟨m, hn, _⟩ := I.loc
    refine .cons (by rw [I.ok.kind]; decide) hf hn ?_ I.funs
    exact Heap.get?_none_of_le (Nat.le_trans I.ok.bsz I.ok.above)
theorem Inv.stkSub (I : Inv X pins σ H s) : ∀ b ∈ frs X.stack, b ∈ X.env.locals :: X.fs := fun b hb => by
  rcases I.ok.stk with e | ⟨e, hf⟩
  · rw [e] at hb; exact List.mem_cons_of_mem _ hb
  · rw [e] at hb
    unfold frs at hb
    rw [List.filterMap_cons, hf] at hb
    exact hb
theorem Inv.stkFree (I : Inv X pins σ H s) : ∀ b ∈ frs X.stack, H b = none := fun b hb => by
  rcases List.mem_cons.mp (I.stkSub b hb) with e | hb
  · rw [e]; exact I.free
  · obtain ⟨_, o, ho, _⟩ := I.ok.funs.mem hb
    exact I.base.free b o ho (I.ok.frf b hb) fun z => I.ok.exfs b z hb
theorem Inv.step {g' : Array GenState} {t' : Nat} {d' : Drawn} {ch : List Addr} (I : Inv X pins σ H s)
    (hch : ∀ b ∈ ch, (b ∈ X.ex ∨ X.s₀.heap.objs.size ≤ b) ∧ b ≠ X.env.locals ∧ (∀ x c, X.env.cells.lookup x = some c → c ≠ b) ∧ ∀ p ∈ X.pn ++ pins, p.1 ≠ b)
    (keep : ∀ b o, b ≠ X.env.locals → b ∉ X.fs → b ∉ ch → s.heap.get? b = some o → H b = none → h'.get? b = some o)
    (slot : ∀ b o, b ≠ X.env.locals → b ∈ X.fs → b ∉ ch → s.heap.get? b = some o → H b = none → ∃ sl, h'.get? b = some { o with slots := sl }) (free : ∀ b o, b ∉ ch → s.heap.get? b = some o → H b = none → H' b = none)
    (there : ∀ b o, b ∉ ch → s.heap.get? b = some o → ∃ o', h'.get? b = some o')
    (tups : ∀ b xs, H b = some (.tup xs) → H' b = some (.tup xs)) (frzs : ∀ b o u, H b = some (.frz o u) → H' b = some (.frz o u)) (tbls : ∀ b ps, H b = some (.tbl ps) → ∃ more, H' b = some (.tbl (ps ++ more)))
    (ns : ∀ m, s.heap.Ns X.env.locals m → h'.Ns X.env.locals m) (hok : HOk X.prog X.w H' h') (hg : AllBare g') :
    Inv X pins σ H' { s with heap := h', gens := g', drawn := d', toks := t' } := by
  have neL : ∀ b o, X.s₀.heap.get? b = some o → b ≠ X.env.locals := fun b o e => Nat.ne_of_lt (Nat.lt_of_lt_of_le (Heap.lt_size e) I.ok.above)
  have neC : ∀ b o, X.s₀.heap.get? b = some o → b ∉ X.ex → b ∉ ch := fun b o e hx hb => by
    rcases (hch b hb).1 with z | z
    · exact hx z
    · exact absurd (Nat.lt_of_lt_of_le (Heap.lt_size e) z) (Nat.lt_irrefl _)
  have cellK : ∀ x c, X.env.cells.lookup x = some c → ∀ v, s.heap.IsCell c v → h'.IsCell c v := fun x c e v ⟨o, ho, hd⟩ => by
    have nch : c ∉ ch := fun z => (hch c z).2.2.1 x c e rfl
    by_cases hc : c ∈ X.fs
    · obtain ⟨sl, q⟩ := slot c o (I.cne x c e) hc nch ho (I.freeC x c e)
      exact ⟨_, q, hd⟩
    · exact ⟨o, keep c o (I.cne x c e) hc nch ho (I.freeC x c e), hd⟩
  refine ⟨I.ok, I.os, hg, ⟨fun b o e n hb hx => ?_, fun b o e n hb hx => ?_, fun b o e n hx => ?_, fun b o e hx => ?_, fun b xs e => tups b xs (I.base.tups b xs e), fun b o xs e => frzs b o xs (I.base.frzs b o xs e), fun b ps e => ?_⟩, ?_, fun x c e => ?_, ?_, fun x c e => ?_, fun p hp => ?_, hok, I.len⟩
  · exact keep b o (neL b o e) hb (neC b o e hx) (I.base.keep b o e n hb hx) (I.base.free b o e n hx)
  · obtain ⟨sl, e1⟩ := I.base.slot b o e n hb hx
    obtain ⟨sl', e2⟩ := slot b _ (neL b o e) hb (neC b o e hx) e1 (I.base.free b o e n hx)
    exact ⟨sl', e2⟩
  · obtain ⟨o', e1⟩ := I.base.there b o e hx
    exact free b o' (neC b o e hx) e1 (I.base.free b o e n hx)
  · obtain ⟨o', e1⟩ := I.base.there b o e hx
    exact there b o' (neC b o e hx) e1
  · obtain ⟨m1, e1⟩ := I.base.tbls b ps e
    obtain ⟨m2, e2⟩ := tbls b _ e1
    exact ⟨m1 ++ m2, by rw [e2, Array.append_assoc]⟩
  · obtain ⟨m, hn, hl⟩ := I.loc
    refine ⟨m, ns m hn, fun i x v e1 e2 e3 => ?_⟩
    obtain ⟨u, r, l⟩ := hl i x v e1 e2 e3
    refine ⟨u, r, ?_⟩
    rcases l with l | ⟨k, c, e, z⟩
    · exact .inl l
    · exact .inr ⟨k, c, e, cellK x c e _ z⟩
  · obtain ⟨v, z⟩ := I.cell x c e
    exact ⟨v, cellK x c e v z⟩
  · obtain ⟨m, ⟨o, _, _, ho, _⟩, _⟩ := I.loc
    exact free _ o (fun z => (hch _ z).2.1 rfl) ho I.free
  · obtain ⟨v, o, ho, hd⟩ := I.cell x c e
    exact free c o (fun z => (hch c z).2.2.1 x c e rfl) ho (I.freeC x c e)
  · obtain ⟨e, n, ne, nf, d⟩ := I.pin p hp
    have nch : p.1 ∉ ch := fun z => (hch p.1 z).2.2.2 p hp rfl
    exact ⟨keep p.1 p.2 ne nf nch e n, free p.1 p.2 nch e n, ne, nf, d⟩
theorem Inv.un {t' : Nat} (I : Inv X pins σ H s) (u : Un X.fs [] H H' s.heap h') (hok : HOk X.prog X.w H' h') : Inv X pins σ H' { s with heap := h', toks := t' } := by
  obtain ⟨m, ⟨o, es, ep, ho, r⟩, _⟩ := id I.loc
  obtain ⟨sl, hL⟩ := u.any ho I.free (by simp)
  exact I.step (g' := s.gens) (d' := s.drawn) (ch := []) (fun _ z => nomatch z) (fun b o _ hb _ e n => u.keep b o e n hb (by simp)) (fun b o _ hb _ e n => u.slot b o e n hb (by simp)) (fun b o _ e n => u.free b o e n (by simp)) (fun b o _ e => u.there b o e (by simp)) u.tups u.frzs u.tbls (fun m' hm => by
    obtain ⟨o', es', ep', ho', r'⟩ := hm
    rw [ho] at ho'; cases ho'
    exact ⟨_, es', ep', hL, r'⟩) hok I.bare
theorem Inv.call {g' : Array GenState} {t' : Nat} {d' : Drawn} {ch : List Addr} (I : Inv X pins σ H s) (u : Un (frs X.stack) ch H H' s.heap h') (hok : HOk X.prog X.w H' h') (hg : AllBare g')
    (hch : ∀ b ∈ ch, (b ∈ X.ex ∨ X.s₀.heap.objs.size ≤ b) ∧ b ≠ X.env.locals ∧ (∀ x c, X.env.cells.lookup x = some c → c ≠ b) ∧ ∀ p ∈ X.pn ++ pins, p.1 ≠ b) :
    Inv X pins σ H' { s with heap := h', gens := g', drawn := d', toks := t' } := by
  obtain ⟨m, ⟨o, es, ep, ho, r⟩, _⟩ := id I.loc
  obtain ⟨sl, hL⟩ := u.any ho I.free fun z => (hch _ z).2.1 rfl
  exact I.step (ch := ch) hch (fun b o hL hb hc e n => u.keep b o e n (fun z => (List.mem_cons.mp (I.stkSub b z)).elim hL hb) hc) (fun b o _ _ hc e n => u.any e n hc) (fun b o hc e n => u.free b o e n hc) (fun b o hc e => u.there b o e hc) u.tups u.frzs u.tbls (fun m' hm => by
    obtain ⟨o', es', ep', ho', r'⟩ := hm
    rw [ho] at ho'; cases ho'
    exact ⟨_, es', ep', hL, r'⟩) hok hg
theorem Inv.turned {t' : Nat} {it : Addr} (I : Inv X pins σ H s) (k : ∀ b o, b ≠ it → s.heap.get? b = some o → h'.get? b = some o) (hn : H it = none) (hL : it ≠ X.env.locals)
    (h1 : it ∈ X.ex ∨ X.s₀.heap.objs.size ≤ it) (h2 : ∀ x c, X.env.cells.lookup x = some c → c ≠ it) (h3 : ∀ p ∈ X.pn ++ pins, p.1 ≠ it) : Inv X pins σ H { s with heap := h', toks := t' } := by
  have nit : ∀ b u, H b = some u → b ≠ it := fun b u e z => by rw [z, hn] at e; cases e
  refine I.step (g' := s.gens) (d' := s.drawn) (ch := [it]) (fun b hb => ?_) (fun b o _ _ hc e _ => k b o (fun z => hc (by simp [z])) e) (fun b o _ _ hc e _ => ⟨o.slots, k b o (fun z => hc (by simp [z])) e⟩) (fun _ _ _ _ n => n)
    (fun b o hc e => ⟨o, k b o (fun z => hc (by simp [z])) e⟩) (fun _ _ e => e) (fun _ _ _ e => e) (fun b ps e => ⟨#[], by rw [e]; simp⟩) (fun m hm => ?_) (fun b u e => ?_) I.bare
  · have e : b = it := by simpa using hb
    subst e
    exact ⟨h1, hL, h2, h3⟩
  · obtain ⟨o, es, ep, ho, r⟩ := hm
    exact ⟨o, es, ep, k _ o (Ne.symm hL) ho, r⟩
  · refine (I.hok b u e).stay (fun c v hc q => k c v ?_ q) (fun _ q => q) fun _ _ q => q
    rcases hc with z | z
    · rw [z]; exact nit b u e
    · exact nit c _ z
theorem Inv.tok (I : Inv X pins σ H s) (t : Nat) : Inv X pins σ H { s with toks := t } := I.un (h' := s.heap) (t' := t) Un.refl I.hok
theorem Inv.kept {t' : Nat} (I : Inv X pins σ H s) (k : ∀ b u, s.heap.get? b = some u → h'.get? b = some u) : Inv X pins σ H { s with heap := h', toks := t' } := I.un (Un.kept k) (I.hok.kept k)
theorem Inv.laid {a : Addr} {o : HO} {t' : Nat} (I : Inv X pins σ H s) (k : ∀ b u, s.heap.get? b = some u → h'.get? b = some u) (hp : s.heap.objs.size ≤ a) (new : ObjOk X.prog X.w (upd H a o) h' a o) :
    Inv X pins σ (upd H a o) { s with heap := h', toks := t' } := I.un (Un.laid k hp (I.hok.fresh hp)) (I.hok.laid k hp new)
theorem Inv.write {x e : Addr} {o : HO} {t' : Nat} (I : Inv X pins σ H s) (mu : Mut (H x)) (he : e = x ∨ H e = some (.own x)) (k : ∀ b u, b ≠ e → s.heap.get? b = some u → h'.get? b = some u) (heo : ∃ u, h'.get? e = some u)
    (new : ObjOk X.prog X.w (upd H x o) h' x o) : Inv X pins σ (upd H x o) { s with heap := h', toks := t' } := I.un (Un.write mu he k heo) (I.hok.write mu he k heo new)
theorem Inv.weak {σ' : List (Option V)} (I : Inv X pins σ H s) (hl : σ'.length = σ.length) (w : ∀ (i : Nat) v, σ'[i]? = some (some v) → σ[i]? = some (some v)) : Inv X pins σ' H s :=
  ⟨I.ok, I.os, I.bare, I.base, let ⟨m, hn, hl'⟩ := I.loc; ⟨m, hn, fun i x v e1 e2 e3 => hl' i x v e1 (w i v e2) e3⟩, I.cell, I.free, I.freeC, I.pin, I.hok, hl.trans I.len⟩
theorem Inv.pins_of {pins' : List (Addr × Obj)} (I : Inv X pins σ H s) (h : ∀ p ∈ pins', s.heap.get? p.1 = some p.2 ∧ H p.1 = none ∧ p.1 ≠ X.env.locals ∧ p.1 ∉ X.fs ∧ ∀ v, p.2.data ≠ .cell v) : Inv X pins' σ H s :=
  ⟨I.ok, I.os, I.bare, I.base, I.loc, I.cell, I.free, I.freeC, fun p hp => (List.mem_append.mp hp).elim (fun z => I.pin p (List.mem_append_left _ z)) (h p), I.hok, I.len⟩
theorem nodup_ix {N : List Str} (hN : N.Nodup) {i j : Nat} {x : Str} (a : N[i]? = some x) (b : N[j]? = some x) : i = j := by
  obtain ⟨h1, e1⟩ := List.getElem?_eq_some_iff.mp a
  obtain ⟨h2, e2⟩ := List.getElem?_eq_some_iff.mp b
  exact (List.getElem_inj hN).mp (e1.trans e2.symm)
theorem store_ok2 {M : Model} {A : Around} {E : Value → Shared → Prop} {i : Nat} {x : Str} {v : V} {u : Value} {Q : Unit → Shared → Prop} (I : Inv X pins σ H s) (hN : X.N.Nodup) (hi : X.N[i]? = some x) (hx : Loc X.env.scope x) (r : RelV v u)
    (h : ∀ s', Inv X pins (σ.set i (some v)) H s' → (∃ a, Heap.SameBut a s.heap s'.heap ∧ (a = X.env.locals ∨ X.env.cells.lookup x = some a)) → Q () s') (hf : X.fn x = true ∨ X.env.scope.names.lookup x = some .local := by first | exact .inl rfl | exact .inr rfl | assumption) : wpAny M A (storeName X.env x u) Q E s := by
  obtain ⟨m, hn, hl⟩ := id I.loc
  have hcls : (X.env.scope.kind == .class || (X.env.scope.kind == .module && X.env.locals != X.env.globals)) = false := by rw [I.ok.kind]; rfl
  have hiσ : i < σ.length := by rw [I.len]; exact (List.getElem?_eq_some_iff.mp hi).1
  have cne := I.cne
  have tracked : ∀ {a : Addr} {h' : Heap}, (∃ o, s.heap.get? a = some o ∧ H a = none) → Heap.SameBut a s.heap h' → HOk X.prog X.w H h' := fun {a h'} ha hs b ob e => by
    obtain ⟨_, _, hfree⟩ := ha
    refine (I.hok b ob e).stay (fun c w' hc q => (hs.2 c ?_).trans q) (fun _ q => q) fun _ _ q => q
    rintro rfl
    rcases hc with rfl | hc
    · rw [hfree] at e; cases e
    · rw [hfree] at hc; cases hc
  rcases hx with hk | hk
  · refine wpAny_storeName_local hk hn (fun h' hn' hs => ?_) hcls
    obtain ⟨oL, _, _, hoL, _⟩ := id hn
    refine h _ ⟨I.ok, I.os, I.bare, ⟨fun b o e n hb hx => ?_, fun b o e n hb hx => ?_, I.base.free, fun b o e hx => ?_, I.base.tups, I.base.frzs, I.base.tbls⟩, ⟨_, hn', fun j y v' e1 e2 e3 => ?_⟩, fun y c e => ?_, I.free, I.freeC, fun p hp => ?_, tracked ⟨oL, hoL, I.free⟩ hs, by simpa using I.len⟩ ⟨_, hs, .inl rfl⟩
    · exact (hs.2 b (Nat.ne_of_lt (Nat.lt_of_lt_of_le (Heap.lt_size e) I.ok.above))).trans (I.base.keep b o e n hb hx)
    · obtain ⟨sl, e1⟩ := I.base.slot b o e n hb hx
      exact ⟨sl, (hs.2 b (Nat.ne_of_lt (Nat.lt_of_lt_of_le (Heap.lt_size e) I.ok.above))).trans e1⟩
    · obtain ⟨o', e1⟩ := I.base.there b o e hx
      exact ⟨o', (hs.2 b (Nat.ne_of_lt (Nat.lt_of_lt_of_le (Heap.lt_size e) I.ok.above))).trans e1⟩
    · by_cases hj : j = i
      · subst hj
        rw [hi] at e1; cases e1
        rw [List.getElem?_set_self hiσ] at e2
        cases e2
        exact ⟨u, r, .inl ⟨hk, by simp⟩⟩
      · rw [List.getElem?_set_ne (Ne.symm hj)] at e2
        obtain ⟨u', r', q⟩ := hl j y v' e1 e2 e3
        refine ⟨u', r', ?_⟩
        rcases q with ⟨k, e⟩ | ⟨k, c, e, z⟩
        · refine .inl ⟨k, ?_⟩
          have : y ≠ x := fun e => hj (nodup_ix hN e1 (e ▸ hi))
          simp [this, e]
        · exact .inr ⟨k, c, e, z.sameBut hs (cne y c e)⟩
    · obtain ⟨w', z⟩ := I.cell y c e
      exact ⟨w', z.sameBut hs (cne y c e)⟩
    · obtain ⟨e, n, ne, nf, d⟩ := I.pin p hp
      exact ⟨(hs.2 p.1 ne).trans e, n, ne, nf, d⟩
  · have hfn : X.fn x = true := by
      rcases hf with z | z
      · exact z
      · rw [z] at hk; cases hk
    obtain ⟨c, hc⟩ := I.ok.has x (.inl hk)
    obtain ⟨w', z⟩ := I.cell x c hc
    refine wpAny_storeName_cell I.ok.kind hk hc z (fun h' hc' hs => ?_)
    obtain ⟨oc, hoc, hocd⟩ := id z
    refine h { s with heap := h' } ⟨I.ok, I.os, I.bare, ⟨fun b o e n hb hx => ?_, fun b o e n hb hx => ?_, I.base.free, fun b o e hx => ?_, I.base.tups, I.base.frzs, I.base.tbls⟩, ⟨m, hn.sameBut hs (Ne.symm (cne x c hc)), fun j y v' e1 e2 e3 => ?_⟩, fun y c' e => ?_, I.free, I.freeC, fun p hp => ?_, tracked ⟨oc, hoc, I.freeC x c hc⟩ hs, by simpa using I.len⟩ ⟨c, hs, .inr hc⟩
    · exact (hs.2 b (Nat.ne_of_lt (Nat.lt_of_lt_of_le (Heap.lt_size e) (I.ok.cab x c hfn hc)))).trans (I.base.keep b o e n hb hx)
    · obtain ⟨sl, e1⟩ := I.base.slot b o e n hb hx
      exact ⟨sl, (hs.2 b (Nat.ne_of_lt (Nat.lt_of_lt_of_le (Heap.lt_size e) (I.ok.cab x c hfn hc)))).trans e1⟩
    · obtain ⟨o', e1⟩ := I.base.there b o e hx
      exact ⟨o', (hs.2 b (Nat.ne_of_lt (Nat.lt_of_lt_of_le (Heap.lt_size e) (I.ok.cab x c hfn hc)))).trans e1⟩
    · by_cases hj : j = i
      · subst hj
        rw [hi] at e1; cases e1
        rw [List.getElem?_set_self hiσ] at e2
        cases e2
        exact ⟨u, r, .inr ⟨.inl hk, c, hc, hc'⟩⟩
      · rw [List.getElem?_set_ne (Ne.symm hj)] at e2
        obtain ⟨u', r', q⟩ := hl j y v' e1 e2 e3
        refine ⟨u', r', ?_⟩
        rcases q with q | ⟨k, c', e, z'⟩
        · exact .inl q
        · refine .inr ⟨k, c', e, z'.sameBut hs ?_⟩
          rintro rfl
          exact hj (nodup_ix hN e1 (I.ok.inj _ _ _ e hc ▸ hi))
    · by_cases hcc : c' = c
      · subst hcc; exact ⟨_, hc'⟩
      · obtain ⟨w2, z2⟩ := I.cell y c' e
        exact ⟨w2, z2.sameBut hs hcc⟩
    · obtain ⟨e, n, ne, nf, d⟩ := I.pin p hp
      refine ⟨(hs.2 p.1 ?_).trans e, n, ne, nf, d⟩
      intro q
      rw [q, hoc] at e
      have q' : oc = p.2 := Option.some.inj e
      exact d w' (by rw [← q']; exact hocd)
theorem store_ok {M : Model} {A : Around} {E : Value → Shared → Prop} {i : Nat} {x : Str} {v : V} {u : Value} {Q : Unit → Shared → Prop} (I : Inv X pins σ H s) (hN : X.N.Nodup) (hi : X.N[i]? = some x) (hx : Loc X.env.scope x) (r : RelV v u)
    (h : ∀ s', Inv X pins (σ.set i (some v)) H s' → Q () s') (hf : X.fn x = true ∨ X.env.scope.names.lookup x = some .local := by first | exact .inl rfl | exact .inr rfl | assumption) : wpAny M A (storeName X.env x u) Q E s :=
  store_ok2 I hN hi hx r (fun s' I' _ => h s' I') hf
theorem Inv.call' {s' : Shared} {ch : List Addr} (I : Inv X pins σ H s) (ho : s'.os = s.os) (u : Un (frs X.stack) ch H H' s.heap s'.heap) (hok : HOk X.prog X.w H' s'.heap) (hg : AllBare s'.gens)
    (hch : ∀ b ∈ ch, (b ∈ X.ex ∨ X.s₀.heap.objs.size ≤ b) ∧ b ≠ X.env.locals ∧ (∀ x c, X.env.cells.lookup x = some c → c ≠ b) ∧ ∀ p ∈ X.pn ++ pins, p.1 ≠ b) : Inv X pins σ H' s' := by
  obtain ⟨h', g', d', t', o'⟩ := s'
  have e : o' = s.os := ho
  subst e
  exact I.call (g' := g') (t' := t') (d' := d') u hok hg hch
end
noncomputable abbrev XK := Value → Option Addr → Hp → Prop
noncomputable abbrev St := List (Option V)
noncomputable abbrev VK := V → Hp → Prop
noncomputable abbrev TE := St → Hp → VK → Prop
noncomputable abbrev TT := St → Hp → (Bool → Hp → Prop) → Prop
noncomputable abbrev TA := St → Hp → (List V → Hp → Prop) → Prop
structure Ends where
  nx : St → Hp → Prop
  rt : VK
  bk : St → Hp → Prop := fun _ _ => False
  ct : St → Hp → Prop := fun _ _ => False
noncomputable abbrev TS := Ends → St → Hp → Prop
noncomputable def EP (X : Cx) (pins : List (Addr × Obj)) (σ : St) (Q : VK) (u : Value) (s' : Shared) : Prop := ∃ v H', Inv X pins σ H' s' ∧ RelV v u ∧ Q v H'
noncomputable def TP (X : Cx) (pins : List (Addr × Obj)) (σ : St) (Q : Bool → Hp → Prop) (b : Bool) (s' : Shared) : Prop := ∃ H', Inv X pins σ H' s' ∧ Q b H'
noncomputable def AP (X : Cx) (pins : List (Addr × Obj)) (σ : St) (Q : List V → Hp → Prop) (us : List Value) (s' : Shared) : Prop := ∃ vs H', Inv X pins σ H' s' ∧ Vals vs us ∧ Q vs H'
noncomputable def SP (X : Cx) (pins : List (Addr × Obj)) (D : Ends) (f : Flow) (s' : Shared) : Prop :=
  match f with
  | .next => ∃ σ' H', Inv X pins σ' H' s' ∧ D.nx σ' H'
  | .brk => ∃ σ' H', Inv X pins σ' H' s' ∧ D.bk σ' H'
  | .cont => ∃ σ' H', Inv X pins σ' H' s' ∧ D.ct σ' H'
  | .ret u => ∃ v σ' H', Inv X pins σ' H' s' ∧ RelV v u ∧ D.rt v H'
noncomputable def PE (X : Cx) (e : Expr) (t : TE) : Prop :=
  ∀ (pins : List (Addr × Obj)) (s : Shared) (σ : St) (H : Hp) (Q : VK), Inv X pins σ H s → t σ H Q → wpAny (model X.prog X.w) X.A (eval e X.env) (EP X pins σ Q) X.xe s
noncomputable def PT (X : Cx) (e : Expr) (t : TT) : Prop :=
  ∀ (pins : List (Addr × Obj)) (s : Shared) (σ : St) (H : Hp) (Q : Bool → Hp → Prop), Inv X pins σ H s → t σ H Q → wpAny (model X.prog X.w) X.A (isTrue e X.env (eval e X.env)) (TP X pins σ Q) X.xe s
noncomputable def PW (X : Cx) (e : Expr) (t : TT) : Prop :=
  ∀ (whole : Sem Value) (pins : List (Addr × Obj)) (s : Shared) (σ : St) (H : Hp) (Q : Bool → Hp → Prop), Inv X pins σ H s → t σ H Q → wpAny (model X.prog X.w) X.A (isTrue e X.env whole) (TP X pins σ Q) X.xe s
theorem PW.pt {X : Cx} {e : Expr} {t : TT} (h : PW X e t) : PT X e t := h _
noncomputable def PA (X : Cx) (es : List Expr) (t : TA) : Prop :=
  ∀ (pos : Pos) (pins : List (Addr × Obj)) (s : Shared) (σ : St) (H : Hp) (Q : List V → Hp → Prop), Inv X pins σ H s → t σ H Q → wpAny (model X.prog X.w) X.A (spliced (backTo pos (starEach es X.env))) (AP X pins σ Q) X.xe s
noncomputable def PS (X : Cx) (st : Stmt) (t : TS) : Prop :=
  ∀ (pins : List (Addr × Obj)) (s : Shared) (σ : St) (H : Hp) (D : Ends), Inv X pins σ H s → t D σ H → wpAny (model X.prog X.w) X.A (exec st X.env) (SP X pins D) X.xe s
noncomputable def PSs (X : Cx) (st : List Stmt) (t : TS) : Prop :=
  ∀ (pins : List (Addr × Obj)) (s : Shared) (σ : St) (H : Hp) (D : Ends), Inv X pins σ H s → t D σ H → wpAny (model X.prog X.w) X.A (execs st X.env) (SP X pins D) X.xe s
theorem thn {α : Type} {t : Sem α} {Q Q' : α → Shared → Prop} {M : Model} {A : Around} {E : Value → Shared → Prop} {s : Shared} (h : wpAny M A t Q E s) (hQ : ∀ a s, Q a s → Q' a s) : wpAny M A t Q' E s := wpAny_mono h hQ fun _ _ x => x
end L2
namespace L2
open PySem PySem.Spec PyProof.Rows
section
variable {X : Cx}
noncomputable def tVar (i : Nat) : TE := fun σ H Q => ∃ v, σ[i]? = some (some v) ∧ Q v H
noncomputable def tC (v : V) : TE := fun _ H Q => Q v H
theorem pe_var {i : Nat} {x : Str} {pos : Pos} (hN : X.N[i]? = some x) (hv : Vis X.env.scope x) (hd : (x == ("__debug__" : Str)) = false := by decide) (hcd : (x == ("__classdict__" : Str)) = false := by decide) : PE X (.Name x pos) (tVar i) := by
  intro pins s σ H Q I h
  obtain ⟨v, e, h⟩ := h
  obtain ⟨m, hn, hl⟩ := I.loc
  obtain ⟨u, r, l⟩ := hl i x v hN e hv
  have fin : EP X pins σ Q u s := ⟨v, H, I, r, h⟩
  rcases l with ⟨hk, hm⟩ | ⟨hk, c, hc, hcell⟩
  · exact wpAny_Name (wpAny_loadName_local I.ok.kind hk hn hm fin) hd
  · rcases hk with hk | hk
    · exact wpAny_Name (wpAny_loadName_cell I.ok.kind hk hc hcell fin) hd
    · exact wpAny_Name (wpAny_loadName_free I.ok.kind hk hc hcell fin hcd) hd
theorem pe_int {i j pos} : PE X (.Constant (.int i) j pos) (tC (.int i)) := fun _ _ _ H _ I h => wpAny_Constant_int ⟨.int i, H, I.tok _, ⟨_, rfl⟩, h⟩
theorem pe_bl {b j pos} : PE X (.Constant (.bool b) j pos) (tC (.bl b)) := fun _ _ _ H _ I h => Constant_bool ⟨.bl b, H, I, rfl, h⟩
theorem pe_non {j pos} : PE X (.Constant .none j pos) (tC .non) := fun _ _ _ H _ I h => Constant_none ⟨.non, H, I, rfl, h⟩
theorem pe_str {x j pos} : PE X (.Constant (.str x) j pos) (tC (.str x)) := fun _ _ _ H _ I h => Calls.Constant_str ⟨.str x, H, I.tok _, ⟨_, rfl⟩, h⟩
noncomputable def Gl (X : Cx) (x : Str) : Prop := X.env.kindOf x = some .globalImplicit
theorem ld_glob {E : Value → Shared → Prop} {pins : List (Addr × Obj)} {s : Shared} {σ : St} {H : Hp} {x : Str} {u : Value} {pos : Pos} {Q : Value → Shared → Prop} (I : Inv X pins σ H s) (hg : Gl X x) (hm : X.mg x = some u) (h : Q u s)
    (hd : (x == ("__debug__" : Str)) = false := by decide) : wpAny (model X.prog X.w) X.A (eval (.Name x pos) X.env) Q E s :=
  Calls.Name_function_global I.ok.kind hg (Calls.loadGlobal_global (by rw [I.ok.glob]; exact I.mod.glob.keeps I.bk) hm h) hd
theorem ld_blt {E : Value → Shared → Prop} {pins : List (Addr × Obj)} {s : Shared} {σ : St} {H : Hp} {x : Str} {u : Value} {pos : Pos} {Q : Value → Shared → Prop} (I : Inv X pins σ H s) (hg : Gl X x) (hm : X.mg x = none) (hv : bootBuiltins x = some u) (h : Q u s)
    (hn : x ≠ "__name__" := by decide) (hd : (x == ("__debug__" : Str)) = false := by decide) : wpAny (model X.prog X.w) X.A (eval (.Name x pos) X.env) Q E s := by
  obtain ⟨mb, h1, h2⟩ := I.mod.blt
  exact Calls.Name_function_global I.ok.kind hg (Calls.loadGlobal_builtin (by rw [I.ok.glob]; exact I.mod.glob.keeps I.bk) hm (by rw [I.ok.blt]; exact h1.keeps I.bk) ((h2 x hn).trans hv) h) hd
theorem pe_glob {x : Str} {v : V} {u : Value} {pos : Pos} (hg : Gl X x) (hm : X.mg x = some u) (r : RelV v u) (hd : (x == ("__debug__" : Str)) = false := by decide) : PE X (.Name x pos) (tC v) :=
  fun _ _ _ H _ I h => ld_glob I hg hm ⟨v, H, I, r, h⟩ hd
theorem pe_bltn {x : Str} {v : V} {u : Value} {pos : Pos} (hg : Gl X x) (hm : X.mg x = none) (hv : bootBuiltins x = some u) (r : RelV v u) (hn : x ≠ "__name__" := by decide) (hd : (x == ("__debug__" : Str)) = false := by decide) : PE X (.Name x pos) (tC v) :=
  fun _ _ _ H _ I h => ld_blt I hg hm hv ⟨v, H, I, r, h⟩ hn hd
variable {a b : Expr} {ta tb : TE} {pos : Pos}
noncomputable def tB (t : TE) : TT := fun σ H Q => t σ H fun x H1 => ∃ c, x = .bl c ∧ Q c H1
variable {tA tB' : TT} {rest : List Expr}
noncomputable def tOr (t u : TT) : TT := fun σ H Q => t σ H fun c H1 => if c = true then Q true H1 else u σ H1 Q
noncomputable def tNot (t : TT) : TT := fun σ H Q => t σ H fun c H1 => Q (!c) H1
theorem pw_or1 (ha : PT X a tA) : PW X (.BoolOp .Or [a] pos) tA := by
  intro wh pins s σ H Q I h
  refine isTrue_or (thn (ha pins s σ H Q I h) fun c s1 e => ?_)
  cases c with
  | false => exact isTrue_or_nil e
  | true => exact e
theorem pw_or (ha : PT X a tA) (hb : PW X (.BoolOp .Or (b :: rest) pos) tB') : PW X (.BoolOp .Or (a :: b :: rest) pos) (tOr tA tB') := by
  intro wh pins s σ H Q I h
  refine isTrue_or (thn (ha pins s σ H _ I h) fun c s1 hpt9 => ?_)
  obtain ⟨H1, I1, q1⟩ := hpt9
  cases c with
  | true => exact ⟨H1, I1, q1⟩
  | false => exact hb wh pins s1 σ H1 Q I1 q1
theorem pt_not (ha : PT X a tA) : PT X (.UnaryOp .Not a pos) (tNot tA) := by
  intro pins s σ H Q I h
  exact isTrue_not (ha pins s σ H (fun c H1 => Q (!c) H1) I h)
noncomputable def tAndV (ta tb : TE) : TE := fun σ H Q => ta σ H fun x H1 => ∃ c, x = .bl c ∧ if c = true then tb σ H1 Q else Q (.bl false) H1
noncomputable def tNotV (ta : TE) : TE := fun σ H Q => ta σ H fun x H1 => ∃ c, x = .bl c ∧ Q (.bl (!c)) H1
theorem pe_one {op} {t : TE} (h : PE X a t) : PE X (.BoolOp op [a] pos) t := fun pins s σ H Q I hw => BoolOp_one (h pins s σ H Q I hw)
theorem pe_and (ha : PE X a ta) (hb : PE X (.BoolOp .And (b :: rest) pos) tb) : PE X (.BoolOp .And (a :: b :: rest) pos) (tAndV ta tb) := by
  intro pins s σ H Q I h
  refine BoolOp_and (thn (ha pins s σ H _ I h) fun v s1 hpt9 => ?_)
  obtain ⟨x, H1, I1, r1, q1⟩ := hpt9
  obtain ⟨c, rfl, q1⟩ := q1
  cases r1
  refine wpAny_truthy_bool ?_
  cases c with
  | true => exact hb pins s1 σ H1 Q I1 q1
  | false => exact ⟨.bl false, H1, I1, rfl, q1⟩
theorem pe_not (ha : PE X a ta) : PE X (.UnaryOp .Not a pos) (tNotV ta) := by
  intro pins s σ H Q I h
  refine UnaryOp_ (thn (ha pins s σ H _ I h) fun v s1 hpt9 => ?_)
  obtain ⟨x, H1, I1, r1, q1⟩ := hpt9
  obtain ⟨c, rfl, q1⟩ := q1
  cases r1
  exact not_of (wpAny_truthy_bool ⟨.bl (!c), H1, I1, rfl, q1⟩)
noncomputable def tIf (t : TT) (ta tb : TE) : TE := fun σ H Q => t σ H fun c H1 => if c = true then ta σ H1 Q else tb σ H1 Q
theorem pe_ifExp {c : Expr} (hc : PT X c tA) (ha : PE X a ta) (hb : PE X b tb) : PE X (.IfExp c a b pos) (tIf tA ta tb) := by
  intro pins s σ H Q I h
  refine wpAny_IfExp (thn (hc pins s σ H _ I h) fun d s1 hpt9 => ?_)
  obtain ⟨H1, I1, q1⟩ := hpt9
  cases d with
  | true => exact ha pins s1 σ H1 Q I1 q1
  | false => exact hb pins s1 σ H1 Q I1 q1
end
end L2
namespace L2
open PySem PySem.Spec PyProof.Rows
noncomputable def SqL (K : PySem.W.Frag) (H : Hp) (a : Addr) (xs : List V) : Prop :=
  Rd H a (.lst xs) ∨
    ∃ (o : Obj) (its : Array Value) (n : Nat), K.lookup a = some o ∧ o.cls = .type "list" ∧ o.dict = none ∧ o.data = .seq its n ∧ its.size ≤ sizeLine ∧ Vals xs its.toList
noncomputable def SqT (K : PySem.W.Frag) (H : Hp) (a : Addr) (xs : List V) : Prop :=
  Rd H a (.tup xs) ∨
    ∃ (o : Obj) (its : Array Value) (n : Nat), K.lookup a = some o ∧ o.cls = .type "tuple" ∧ o.data = .seq its n ∧ its.size ≤ sizeLine ∧ Vals xs its.toList
noncomputable def absV : Value → Option V
  | .none => some .non
  | .bool b => some (.bl b)
  | .int i _ => some (.int i)
  | .str x _ => some (.str x)
  | .bytes b _ => some (.byt b)
  | .float b _ => some (.flt b)
  | .ref a => some (.ref a)
  | .type n => some (.ty n)
  | _ => none
theorem RelV.abs {x : V} {u : Value} (r : RelV x u) : absV u = some x := by
  cases x with
  | non => cases r; rfl
  | bl _ => cases r; rfl
  | int _ => obtain ⟨t, rfl⟩ := r; rfl
  | str _ => obtain ⟨t, rfl⟩ := r; rfl
  | byt _ => obtain ⟨t, rfl⟩ := r; rfl
  | flt _ => obtain ⟨t, rfl⟩ := r; rfl
  | ref _ => cases r; rfl
  | ty _ => cases r; rfl
theorem RelV.inj {x y : V} {u : Value} (r : RelV x u) (q : RelV y u) : x = y := Option.some.inj (r.abs.symm.trans q.abs)
theorem Vals.inj : ∀ {xs ys : List V} {us : List Value}, Vals xs us → Vals ys us → xs = ys
  | _, _, _, .nil, .nil => rfl
  | _, _, _, .cons r t, .cons r' t' => by rw [r.inj r', Vals.inj t t']
section
variable {X : Cx} {pins : List (Addr × Obj)} {σ : St} {H : Hp} {s : Shared} {a : Addr} {xs ys : List V}
theorem SqT.of {K : PySem.W.Frag} (h : H a = some (.tup xs)) : SqT K H a xs := .inl (.inl h)
theorem Inv.list (I : Inv X pins σ H s) (h : SqL X.K H a xs) : ∃ its : List Value, Vals xs its ∧ PlainL s.heap a its.toArray ∧ xs.length ≤ sizeLine := by
  rcases h with h | ⟨o, its, n, hk, hc, hd, hs, hz, r⟩
  · obtain ⟨z, its, n, r, e⟩ := h.ok I.hok
    exact ⟨its, r, ⟨_, n, e, rfl, rfl, rfl⟩, z⟩
  · refine ⟨its.toList, r, ⟨o, n, I.kIn a o hk, hc, hd, by simpa using hs⟩, ?_⟩
    have e := r.length
    simp only [Array.length_toList] at e
    omega
theorem Inv.tuple (I : Inv X pins σ H s) (h : SqT X.K H a xs) : ∃ its : List Value, Vals xs its ∧ IsTup s.heap a its.toArray ∧ xs.length ≤ sizeLine := by
  rcases h with h | ⟨o, its, n, hk, hc, hs, hz, r⟩
  · obtain ⟨z, its, r, p⟩ := h.ok I.hok
    exact ⟨its, r, p, z⟩
  · refine ⟨its.toList, r, ⟨o, I.kIn a o hk, hc, n, by simpa using hs⟩, ?_⟩
    have e := r.length
    simp only [Array.length_toList] at e
    omega
theorem Inv.list_inj (I : Inv X pins σ H s) (h : SqL X.K H a xs) (h' : SqL X.K H a ys) : xs = ys := by
  obtain ⟨its, r, ⟨o, n, e, _, _, d⟩, _⟩ := I.list h
  obtain ⟨its', r', ⟨o', n', e', _, _, d'⟩, _⟩ := I.list h'
  rw [e] at e'; cases e'
  rw [d] at d'
  injection d' with d1 _
  have : its = its' := by simpa using congrArg Array.toList d1
  subst this
  exact r.inj r'
theorem Inv.tuple_inj (I : Inv X pins σ H s) (h : SqT X.K H a xs) (h' : SqT X.K H a ys) : xs = ys := by
  obtain ⟨its, r, ⟨o, e, _, n, d⟩, _⟩ := I.tuple h
  obtain ⟨its', r', ⟨o', e', _, n', d'⟩, _⟩ := I.tuple h'
  rw [e] at e'; cases e'
  rw [d] at d'
  injection d' with d1 _
  have : its = its' := by simpa using congrArg Array.toList d1
  subst this
  exact r.inj r'
end
noncomputable abbrev Cx.wish (X : Cx) (E : Value → Shared → Prop) : Cx := { X with xe := E }
noncomputable abbrev Cx.nox (X : Cx) : Cx := X.wish fun _ _ => False
theorem Cx.Ok.wish {X : Cx} (ok : X.Ok) (E : Value → Shared → Prop) : (X.wish E).Ok :=
  ⟨ok.mod, ok.kind, ok.glob, ok.blt, ok.above, ok.inj, ok.has, ok.cab, ok.hd, ok.frames, ok.stk, ok.exf, ok.bs, ok.bsz, ok.noex, ok.exfs, ok.funs, ok.frf⟩
theorem Cx.Ok.unwish {X : Cx} {E : Value → Shared → Prop} (ok : (X.wish E).Ok) : X.Ok :=
  ⟨ok.mod, ok.kind, ok.glob, ok.blt, ok.above, ok.inj, ok.has, ok.cab, ok.hd, ok.frames, ok.stk, ok.exf, ok.bs, ok.bsz, ok.noex, ok.exfs, ok.funs, ok.frf⟩
section
variable {X : Cx} {pins : List (Addr × Obj)} {σ : St} {H : Hp} {s : Shared} {E : Value → Shared → Prop}
theorem Inv.wish (I : Inv X pins σ H s) (E : Value → Shared → Prop) : Inv (X.wish E) pins σ H s := ⟨I.ok.wish E, I.os, I.bare, I.base, I.loc, I.cell, I.free, I.freeC, I.pin, I.hok, I.len⟩
theorem Inv.unwish (I : Inv (X.wish E) pins σ H s) : Inv X pins σ H s := ⟨I.ok.unwish, I.os, I.bare, I.base, I.loc, I.cell, I.free, I.freeC, I.pin, I.hok, I.len⟩
theorem SP.unwish {D : Ends} {f : Flow} {s' : Shared} (h : SP (X.wish E) pins D f s') : SP X pins D f s' := by
  cases f with
  | next => obtain ⟨σ', H', I, q⟩ := h; exact ⟨σ', H', I.unwish, q⟩
  | brk => obtain ⟨σ', H', I, q⟩ := h; exact ⟨σ', H', I.unwish, q⟩
  | cont => obtain ⟨σ', H', I, q⟩ := h; exact ⟨σ', H', I.unwish, q⟩
  | ret u => obtain ⟨v, σ', H', I, r, q⟩ := h; exact ⟨v, σ', H', I.unwish, r, q⟩
theorem PSs.nox {st : List Stmt} {t : TS} (h : PSs X.nox st t) : PSs X st t := fun pins s σ H D I hw =>
  wpAny_mono (h pins s σ H D (I.wish _) hw) (fun _ _ q => q.unwish) fun _ _ z => False.elim z
end
section
variable {X : Cx} {st : Stmt} {rest : List Stmt} {t u : TS} {e : Expr} {te : TE} {pos : Pos}
noncomputable def tNext : TS := fun D σ H => D.nx σ H
noncomputable def tSeq (t u : TS) : TS := fun D σ H => t { D with nx := u D } σ H
theorem pss_nil : PSs X [] tNext := fun _ _ σ H _ I h => wpAny_execs_nil ⟨σ, H, I, h⟩
theorem pss_cons (h1 : PS X st t) (h2 : PSs X rest u) : PSs X (st :: rest) (tSeq t u) := by
  intro pins s σ H D I h
  refine wpAny_execs_cons (thn (h1 pins s σ H { D with nx := u D } I h) fun f s1 q => ?_)
  cases f with
  | next =>
    obtain ⟨σ', H', I', q⟩ := q
    exact h2 pins s1 σ' H' D I' q
  | ret v => exact q
  | brk => exact q
  | cont => exact q
theorem pss_one (h1 : PS X st t) : PSs X [st] t := by
  intro pins s σ H D I h
  refine wpAny_execs_cons (thn (h1 pins s σ H D I h) fun f s1 q => ?_)
  cases f with
  | next => exact wpAny_execs_nil q
  | ret v => exact q
  | brk => exact q
  | cont => exact q
theorem Inv.quiet {pins : List (Addr × Obj)} {σ : St} {H : Hp} {s : Shared} (I : Inv X pins σ H s) : interactive X.env = false := by simp [interactive, I.ok.kind]
noncomputable def tDrop (te : TE) : TS := fun D σ H => te σ H fun _ H1 => D.nx σ H1
theorem ps_expr (he : PE X e te) (hs : swapsWith e none pos.line X.env = pure false := by rfl) : PS X (.Expr e pos) (tDrop te) := by
  intro pins s σ H D I h
  exact wpAny_Expr_any (thn (he pins s σ H _ I h) fun v s1 ⟨x, H1, I1, r1, q1⟩ => ⟨σ, H1, I1, q1⟩) I.quiet hs
noncomputable def tRet (te : TE) : TS := fun D σ H => te σ H D.rt
theorem ps_ret (he : PE X e te) : PS X (.Return (some e) pos) (tRet te) := by
  intro pins s σ H D I h
  exact wpAny_Return_some (thn (he pins s σ H _ I h) fun v s1 ⟨x, H1, I1, r1, q1⟩ => ⟨x, σ, H1, I1, r1, q1⟩)
noncomputable def tIfS (c : TT) (t u : TS) : TS := fun D σ H => c σ H fun b H1 => if b = true then t D σ H1 else u D σ H1
theorem ps_if {c : Expr} {a b : List Stmt} {tc : TT} (hc : PT X c tc) (ha : PSs X a t) (hb : PSs X b u) : PS X (.If c a b pos) (tIfS tc t u) := by
  intro pins s σ H D I h
  refine wpAny_If (thn (hc pins s σ H _ I h) fun d s1 hpt9 => ?_)
  obtain ⟨H1, I1, q1⟩ := hpt9
  cases d with
  | true => exact ha pins s1 σ H1 D I1 q1
  | false => exact hb pins s1 σ H1 D I1 q1
noncomputable def tNever : TS := fun _ _ _ => False
theorem ps_never : PS X st tNever := fun _ _ _ _ _ _ h => h.elim
end
noncomputable abbrev TG := V → St → Hp → (St → Hp → Prop) → Prop
noncomputable def PG (X : Cx) (target : Expr) (t : TG) : Prop :=
  ∀ (pins : List (Addr × Obj)) (s : Shared) (σ : St) (H : Hp) (v : V) (u : Value) (Q : St → Hp → Prop), Inv X pins σ H s → RelV v u → t v σ H Q →
    wpAny (model X.prog X.w) X.A (assign target X.env u) (fun _ s' => ∃ σ' H', Inv X pins σ' H' s' ∧ Q σ' H') X.xe s
section
variable {X : Cx} {pos : Pos}
noncomputable def gName (i : Nat) : TG := fun v σ H Q => Q (σ.set i (some v)) H
theorem pg_name {i : Nat} {x : Str} (hN : X.N.Nodup) (hi : X.N[i]? = some x) (hx : Loc X.env.scope x) (hf : X.fn x = true ∨ X.env.scope.names.lookup x = some .local := by first | exact .inl rfl | exact .inr rfl | assumption) : PG X (.Name x pos) (gName i) := by
  intro pins s σ H v u Q I r h
  exact wpAny_assign_Name (store_ok I hN hi hx r (fun s' I' => ⟨_, H, I', h⟩) hf)
noncomputable def tAsg (te : TE) (g : TG) : TS := fun D σ H => te σ H fun x H1 => g x σ H1 D.nx
theorem ps_set {i : Nat} {x : Str} {e : Expr} {te : TE} {pos' : Pos} (hN : X.N.Nodup) (hi : X.N[i]? = some x) (hx : Loc X.env.scope x) (he : PE X e te) (hs : swapsWith e (some (.Name x pos')) pos.line X.env = pure false := by rfl) (hf : X.fn x = true ∨ X.env.scope.names.lookup x = some .local := by first | exact .inl rfl | exact .inr rfl | assumption) :
    PS X (.Assign [.Name x pos'] e pos) (tAsg te (gName i)) := by
  intro pins s σ H D I h
  refine wpAny_Assign_Name (thn (he pins s σ H _ I h) fun v s1 hpt9 => ?_) hs
  obtain ⟨y, H1, I1, r1, q1⟩ := hpt9
  exact store_ok I1 hN hi hx r1 (fun s2 I2 => ⟨_, H1, I2, q1⟩) hf
end
section
variable {X : Cx} {pos : Pos}
end
structure It where
  go : Nat → Hp → Prop
  yld : Nat → Hp → V → Hp → Prop
  stop : Nat → Hp → Prop
noncomputable def FpOk (X : Cx) (pins : List (Addr × Obj)) (H : Hp) (b : Addr) : Prop :=
  H b = none ∧ b ≠ X.env.locals ∧ b ∉ X.fs ∧ (b ∈ X.ex ∨ X.s₀.heap.objs.size ≤ b) ∧ (∀ x c, X.env.cells.lookup x = some c → c ≠ b) ∧ ∀ p ∈ X.pn ++ pins, p.1 ≠ b
theorem Inv.fpOk {X : Cx} {pins : List (Addr × Obj)} {σ : St} {H H' : Hp} {s : Shared} {b : Addr} (I : Inv X pins σ H s) (hb : s.heap.objs.size ≤ b) (hn : H' b = none) : FpOk X pins H' b := by
  refine ⟨hn, Nat.ne_of_gt (Nat.lt_of_lt_of_le I.lt hb), I.nofs hb, .inr (Nat.le_trans I.sz hb), fun x c e z => ?_, fun p hp z => ?_⟩
  · obtain ⟨v, q⟩ := I.cell x c e
    exact absurd (Nat.lt_of_lt_of_le q.lt (by rw [z]; exact hb)) (Nat.lt_irrefl _)
  · exact absurd (Nat.lt_of_lt_of_le (Heap.lt_size (I.pin p hp).1) (by rw [z]; exact hb)) (Nat.lt_irrefl _)
structure Turn (P : Program) (w : World) (K : PySem.W.Frag) (tg : Expr) (J : It) (fp : List Addr) (it : Addr) (tn : Nat → Heap → Prop) : Prop where
  mem : it ∈ fp
  obj : ∀ i h, tn i h → ∀ b ∈ fp, ∃ o, h.get? b = some o ∧ ∀ v, o.data ≠ .cell v
  keep : ∀ i h h', tn i h → (∀ b ∈ fp, ∀ o, h.get? b = some o → h'.get? b = some o) → tn i h'
  item : ∀ (X : Cx), X.prog = P → X.w = w → X.K = K → X.calm = true → ∀ (i : Nat) (pins : List (Addr × Obj)) (s : Shared) (σ : St) (H : Hp) (E : Value → Shared → Prop), Inv X pins σ H s → (∀ b ∈ fp, FpOk X pins H b) → tn i s.heap → J.go i H →
    wpAny (model P w) X.A (pyNext (.ref it)) (fun r s1 => ∃ u, r = some u ∧
      wpAny (model P w) X.A (letOwnedTupleGo tg (.ref it) u) (fun _ s2 => ∃ x H', Inv X pins σ H' s2 ∧ RelV x u ∧ J.yld i H x H' ∧ tn (i + 1) s2.heap ∧ ∀ b ∈ fp, H' b = none) E s1) E s
  done : ∀ (X : Cx), X.prog = P → X.w = w → X.K = K → X.calm = true → ∀ (i : Nat) (pins : List (Addr × Obj)) (s : Shared) (σ : St) (H : Hp) (E : Value → Shared → Prop), Inv X pins σ H s → (∀ b ∈ fp, FpOk X pins H b) → tn i s.heap → J.stop i H →
    wpAny (model P w) X.A (pyNext (.ref it)) (fun r s1 => r = none ∧ Inv X pins σ H s1) E s
  self : ∀ (A : Around) (i : Nat) (s : Shared) (Q : Value → Shared → Prop) (E : Value → Shared → Prop), tn i s.heap → Q (.ref it) s → wpAny (model P w) A (pyIter (.ref it)) Q E s
noncomputable abbrev TI := St → Hp → (It → Hp → Prop) → Prop
noncomputable def PIE (X : Cx) (pins : List (Addr × Obj)) (σ : St) (tg : Expr) (R : It → Hp → Prop) (itv : Value) (s2 : Shared) : Prop :=
  ∃ (it : Addr) (fp : List Addr) (tn : Nat → Heap → Prop) (J : It) (H' : Hp), itv = .ref it ∧ Inv X pins σ H' s2 ∧ Turn X.prog X.w X.K tg J fp it tn ∧ tn 0 s2.heap ∧ (∀ b ∈ fp, FpOk X pins H' b) ∧ R J H'
noncomputable def PI (X : Cx) (tg iter : Expr) (wi : TI) : Prop :=
  ∀ (pins : List (Addr × Obj)) (s : Shared) (σ : St) (H : Hp) (R : It → Hp → Prop), Inv X pins σ H s → wi σ H R →
    wpAny (model X.prog X.w) X.A (eval iter X.env) (fun v s1 => wpAny (model X.prog X.w) X.A (pyIter v) (PIE X pins σ tg R) X.xe s1) X.xe s
theorem go_of {M : Model} {A : Around} {E : Value → Shared → Prop} {s : Shared} {tg : Expr} {it : Addr} {u : Value} {o : Obj} {n : String} {vs : Array Value} {Q : Unit → Shared → Prop} (ho : s.heap.get? it = some o) (hc : o.cls = .type n) (hd : o.data = .fields vs)
    (hn : ["enumerate", "zip", "dict_itemiterator", "dict_reverseitemiterator", "odict_iterator", "itertools.zip_longest", "itertools.pairwise"].contains n = false) (hQ : Q () s) : wpAny M A (letOwnedTupleGo tg (.ref it) u) Q E s := by
  unfold letOwnedTupleGo
  cases tg <;> first
    | exact wpAny_pure hQ
    | (cases u <;> first
        | exact wpAny_pure hQ
        | (refine wpAny_bind (wpAny_load ho ?_)
           rw [hc, hd]
           show wpAny M A (if (["enumerate", "zip", "dict_itemiterator", "dict_reverseitemiterator", "odict_iterator", "itertools.zip_longest", "itertools.pairwise"].contains n && vs[0]? == some (rawInt _)) = true then _ else _) Q E s
           rw [if_neg (by intro h; rw [hn, Bool.false_and] at h; cases h)]
           exact wpAny_pure hQ))
noncomputable def Itl (K : PySem.W.Frag) (a : Addr) : It :=
  ⟨fun i H => ∃ xs x, SqL K H a xs ∧ xs[i]? = some x, fun i H x H' => H' = H ∧ ∀ xs, SqL K H a xs → xs[i]? = some x, fun i H => ∃ xs, SqL K H a xs ∧ xs.length ≤ i⟩
noncomputable def Itt (K : PySem.W.Frag) (a : Addr) : It :=
  ⟨fun i H => ∃ xs x, SqT K H a xs ∧ xs[i]? = some x, fun i H x H' => H' = H ∧ ∀ xs, SqT K H a xs → xs[i]? = some x, fun i H => ∃ xs, SqT K H a xs ∧ xs.length ≤ i⟩
theorem turn_list {P : Program} {w : World} {K : PySem.W.Frag} {tg : Expr} (a it : Addr) : Turn P w K tg (Itl K a) [it] it (fun i h => h.IsListIter it a i) where
  mem := by simp
  obj := fun i h st b hb => by
    have e : b = it := by simpa using hb
    subst e
    obtain ⟨o, e, c, d⟩ := st
    exact ⟨o, e, fun v z => by rw [d] at z; cases z⟩
  keep := fun i h h' st k => st.at fun o e => k it (by simp) o e
  item := by
    intro X hP hw hK hc i pins s σ H E I hf st hg
    subst hP hw hK
    obtain ⟨xs, x, hq, hx⟩ := hg
    obtain ⟨its, rv, p, hz⟩ := I.list hq
    obtain ⟨u, hu, ru⟩ := rv.get hx
    obtain ⟨f0, f1, f2, f3, f4, f5⟩ := hf it (by simp)
    refine wpAny_pyNext_list_item st p.isList (x := u) (by simpa using hu) fun h' st' sb => ?_
    have I1 : Inv X pins σ H { s with heap := h' } := I.turned (t' := s.toks) (fun b o hb e => (sb.2 b hb).trans e) f0 f1 f3 f4 f5
    obtain ⟨o, e, c, d⟩ := id st'
    exact ⟨u, rfl, go_of (s := { s with heap := h' }) e c d (by decide) ⟨x, H, I1, ru, ⟨rfl, fun ys hy => by rw [I.list_inj hy hq]; exact hx⟩, st', fun b hb => (hf b hb).1⟩⟩
  done := by
    intro X hP hw hK hc i pins s σ H E I hf st hg
    subst hP hw hK
    obtain ⟨xs, hq, hx⟩ := hg
    obtain ⟨its, rv, p, hz⟩ := I.list hq
    obtain ⟨f0, f1, f2, f3, f4, f5⟩ := hf it (by simp)
    have hl := rv.length
    exact wpAny_pyNext_list_end (I.ok.hd hc) st p.isList (by simp; omega) fun h' eb => ⟨rfl, I.turned (t' := s.toks) (fun b o hb e => eb b o hb e) f0 f1 f3 f4 f5⟩
  self := fun _ _ _ _ _ st h => wpAny_pyIter_listiter st h
theorem turn_tuple {P : Program} {w : World} {K : PySem.W.Frag} {tg : Expr} (a it : Addr) : Turn P w K tg (Itt K a) [it] it (fun i h => h.IsTupleIter it a i) where
  mem := by simp
  obj := fun i h st b hb => by
    have e : b = it := by simpa using hb
    subst e
    obtain ⟨o, e, c, d⟩ := st
    exact ⟨o, e, fun v z => by rw [d] at z; cases z⟩
  keep := fun i h h' st k => st.at fun o e => k it (by simp) o e
  item := by
    intro X hP hw hK hc i pins s σ H E I hf st hg
    subst hP hw hK
    obtain ⟨xs, x, hq, hx⟩ := hg
    obtain ⟨its, rv, p, hz⟩ := I.tuple hq
    obtain ⟨u, hu, ru⟩ := rv.get hx
    obtain ⟨f0, f1, f2, f3, f4, f5⟩ := hf it (by simp)
    refine wpAny_pyNext_tuple_item st (show s.heap.IsTuple a its.toArray from p) (x := u) (by simpa using hu) fun h' st' sb => ?_
    have I1 : Inv X pins σ H { s with heap := h' } := I.turned (t' := s.toks) (fun b o hb e => (sb.2 b hb).trans e) f0 f1 f3 f4 f5
    obtain ⟨o, e, c, d⟩ := id st'
    exact ⟨u, rfl, go_of (s := { s with heap := h' }) e c d (by decide) ⟨x, H, I1, ru, ⟨rfl, fun ys hy => by rw [I.tuple_inj hy hq]; exact hx⟩, st', fun b hb => (hf b hb).1⟩⟩
  done := by
    intro X hP hw hK hc i pins s σ H E I hf st hg
    subst hP hw hK
    obtain ⟨xs, hq, hx⟩ := hg
    obtain ⟨its, rv, p, hz⟩ := I.tuple hq
    obtain ⟨f0, f1, f2, f3, f4, f5⟩ := hf it (by simp)
    have hl := rv.length
    exact wpAny_pyNext_tuple_end (I.ok.hd hc) st (show s.heap.IsTuple a its.toArray from p) (by simp; omega) fun h' eb => ⟨rfl, I.turned (t' := s.toks) (fun b o hb e => eb b o hb e) f0 f1 f3 f4 f5⟩
  self := fun _ _ _ _ _ st h => wpAny_pyIter_tupleiter st h
end L2
namespace L2
open PySem PySem.Spec PyProof.Rows
section
variable {X : Cx} {tg : Expr}
noncomputable def tFor (wi : TI) (g : TG) (tb : TS) : TS := fun D σ H => wi σ H fun J H1 => ∃ W : Nat → Nat → St → Hp → Prop, (∃ m, W 0 m σ H1) ∧ ∀ i m σ H, W i m σ H →
  (J.stop i H ∧ D.nx σ H) ∨ (J.go i H ∧ ∃ N : St → Hp → Prop, (∀ σ' H', N σ' H' → ∃ m', m' < m ∧ W (i + 1) m' σ' H') ∧ ∀ x H', J.yld i H x H' → g x σ H' fun σ2 H2 => tb { D with nx := N, ct := N, bk := D.nx } σ2 H2)
noncomputable def pinsAt (fp : List Addr) (h : Heap) : List (Addr × Obj) := fp.filterMap fun b => (h.get? b).map fun o => (b, o)
theorem mem_pinsAt {fp : List Addr} {h : Heap} {b : Addr} {o : Obj} (hb : b ∈ fp) (e : h.get? b = some o) : (b, o) ∈ pinsAt fp h := List.mem_filterMap.mpr ⟨b, hb, by rw [e]; rfl⟩
theorem of_pinsAt {fp : List Addr} {h : Heap} {p : Addr × Obj} (hp : p ∈ pinsAt fp h) : p.1 ∈ fp ∧ h.get? p.1 = some p.2 := by
  obtain ⟨b, hb, e⟩ := List.mem_filterMap.mp hp
  cases q : h.get? b with
  | none => rw [q] at e; cases e
  | some o =>
    rw [q] at e
    have e' : (b, o) = p := Option.some.inj e
    subst e'
    exact ⟨hb, q⟩
theorem Inv.pinned {pins : List (Addr × Obj)} {σ : St} {H : Hp} {s : Shared} {fp : List Addr} (I : Inv X pins σ H s) (hf : ∀ b ∈ fp, FpOk X pins H b) (ho : ∀ b ∈ fp, ∃ o, s.heap.get? b = some o ∧ ∀ v, o.data ≠ .cell v) : Inv X (pins ++ pinsAt fp s.heap) σ H s :=
  I.pins_of fun p hp => (List.mem_append.mp hp).elim (fun z => I.pin p (List.mem_append_right _ z)) fun z => by
    obtain ⟨hb, e⟩ := of_pinsAt z
    obtain ⟨f0, f1, f2, _⟩ := hf p.1 hb
    obtain ⟨o, e', d⟩ := ho p.1 hb
    rw [e] at e'; cases e'
    exact ⟨e, f0, f1, f2, d⟩
theorem Inv.unpinned {pins pl : List (Addr × Obj)} {σ : St} {H : Hp} {s : Shared} (I : Inv X (pins ++ pl) σ H s) : Inv X pins σ H s := I.pins_of fun p hp => I.pin p (List.mem_append_right _ (List.mem_append_left _ hp))
theorem ps_for {iter : Expr} {body : List Stmt} {wi : TI} {g : TG} {tb : TS} {pos : Pos} (hp : PassesOwn (model X.prog X.w) X.A X.env X.xe) (hc : X.calm = true) (hi : PI X tg iter wi) (hg : PG X tg g) (hb : PSs X body tb)
    (hs : ∀ x, foldedSetIterable iter X.env x = pure x := by intro _; rfl) : PS X (.For tg iter body [] pos) (tFor wi g tb) := by
  intro pins s σ H D I h
  refine wpAny_For (thn (hi pins s σ H _ I h) fun v s1 h1 => thn h1 fun itv s2 h2 => ?_) hs
  obtain ⟨it, fp, tn, J, H2, e, I2, T, st2, f2, W, ⟨m0, w0⟩, turn⟩ := h2
  subst e
  -- what stays true of the iterator's objects through the loop
  have stat : ∀ {H' : Hp}, (∀ b ∈ fp, H' b = none) → ∀ b ∈ fp, FpOk X pins H' b := fun hn b hb => ⟨hn b hb, (f2 b hb).2⟩
  refine codeAny_forLoop_any (fun n s' => ∃ i σ' H', Inv X pins σ' H' s' ∧ tn i s'.heap ∧ (∀ b ∈ fp, H' b = none) ∧ W i n σ' H') ?_ m0 ⟨0, σ, H2, I2, st2, fun b hb => (f2 b hb).1, w0⟩
  rintro n s3 ⟨i, σ3, H3, I3, st3, fr3, w3⟩
  rcases turn i n σ3 H3 w3 with ⟨stop, qn⟩ | ⟨go, N, hN, step⟩
  · refine wpAny_passesOwn hp (thn (T.done X rfl rfl rfl hc i pins s3 σ3 H3 X.xe I3 (stat fr3) st3 stop) fun r s4 ⟨hr, I4⟩ => ?_)
    subst hr
    exact wpAny_execs_nil ⟨σ3, H3, I4, qn⟩
  · refine wpAny_passesOwn hp (thn (T.item X rfl rfl rfl hc i pins s3 σ3 H3 X.xe I3 (stat fr3) st3 go) fun r s4 ⟨u, hr, h4⟩ => ?_)
    subst hr
    refine wpAny_passesOwn hp (thn h4 fun _ s5 hpt9 => ?_)
    obtain ⟨x, H5, I5, r5, y5, st5, fr5⟩ := hpt9
    have I5' := I5.pinned (stat fr5) (T.obj _ _ st5)
    refine wpAny_passesOwn hp (thn (hg _ s5 σ3 H5 x u _ I5' r5 (step x H5 y5)) fun _ s6 hpt9 => ?_)
    obtain ⟨σ6, H6, I6, q6⟩ := hpt9
    refine wpAny_passesOwn hp (thn (hb _ s6 σ6 H6 _ I6 q6) fun f s7 q7 => ?_)
    have again : ∀ {σ7 : St} {H7 : Hp}, Inv X (pins ++ pinsAt fp s5.heap) σ7 H7 s7 → N σ7 H7 → ∃ m, m < n ∧ ∃ i σ' H', Inv X pins σ' H' s7 ∧ tn i s7.heap ∧ (∀ b ∈ fp, H' b = none) ∧ W i m σ' H' := fun {σ7 H7} I7 n7 => by
      obtain ⟨m', hm, w7⟩ := hN σ7 H7 n7
      refine ⟨m', hm, i + 1, σ7, H7, I7.unpinned, T.keep _ _ _ st5 fun b hb o e => (I7.pin (b, o) (List.mem_append_right _ (List.mem_append_right _ (mem_pinsAt hb e)))).1, fun b hb => ?_, w7⟩
      obtain ⟨o, e, d⟩ := T.obj _ _ st5 b hb
      exact (I7.pin (b, o) (List.mem_append_right _ (List.mem_append_right _ (mem_pinsAt hb e)))).2.1
    cases f with
    | next => obtain ⟨σ7, H7, I7, n7⟩ := q7; exact again I7 n7
    | cont => obtain ⟨σ7, H7, I7, n7⟩ := q7; exact again I7 n7
    | brk => obtain ⟨σ7, H7, I7, q7⟩ := q7; exact ⟨σ7, H7, I7.unpinned, q7⟩
    | ret v => obtain ⟨x7, σ7, H7, I7, r7, q7⟩ := q7; exact ⟨x7, σ7, H7, I7.unpinned, r7, q7⟩
end
end L2
namespace L2
open PySem PySem.Spec PyProof.Rows
noncomputable abbrev R2 := V → V → Hp → VK → Prop
noncomputable def OpR (X : Cx) (f : Value → Value → Sem Value) (r : R2) : Prop :=
  ∀ (pins : List (Addr × Obj)) (s : Shared) (σ : St) (H : Hp) (x y : V) (v u : Value) (Q : VK), Inv X pins σ H s → RelV x v → RelV y u → r x y H Q →
    wpAny (model X.prog X.w) X.A (f v u) (EP X pins σ Q) X.xe s
noncomputable def CallR (X : Cx) (f : Value) (r : List V → Hp → VK → Prop) : Prop :=
  ∀ (pins : List (Addr × Obj)) (s : Shared) (σ : St) (H : Hp) (xs : List V) (us : List Value) (Q : VK), Inv X pins σ H s → Vals xs us → r xs H Q →
    wpAny (model X.prog X.w) X.A (call f us) (EP X pins σ Q) X.xe s
noncomputable def TruR (X : Cx) (r : V → Hp → (Bool → Hp → Prop) → Prop) : Prop :=
  ∀ (pins : List (Addr × Obj)) (s : Shared) (σ : St) (H : Hp) (x : V) (v : Value) (Q : Bool → Hp → Prop), Inv X pins σ H s → RelV x v → r x H Q →
    wpAny (model X.prog X.w) X.A (truthy v) (TP X pins σ Q) X.xe s
noncomputable def tOp (r : R2) (ta tb : TE) : TE := fun σ H Q => ta σ H fun x H1 => tb σ H1 fun y H2 => r x y H2 Q
noncomputable def rI (C : Int → Int → Prop) (g : Int → Int → V) : R2 := fun x y H Q => ∃ i j, x = .int i ∧ y = .int j ∧ C i j ∧ Q (g i j) H
noncomputable def rI0 (g : Int → Int → V) : R2 := fun x y H Q => ∃ i j, x = .int i ∧ y = .int j ∧ Q (g i j) H
section
variable {X : Cx} {a b c : Expr} {ta tb tc : TE} {pos : Pos}
theorem binT (ha : PE X a ta) (hb : PE X b tb) {pins : List (Addr × Obj)} {s : Shared} {σ : St} {H : Hp} {R : V → V → Hp → Prop} (I : Inv X pins σ H s)
    (h : ta σ H fun x H1 => tb σ H1 fun y H2 => R x y H2) {Q : Value → Shared → Prop} {f : Value → Value → Sem Value}
    (hf : ∀ v u s2 x y H2, Inv X pins σ H2 s2 → RelV x v → RelV y u → R x y H2 → wpAny (model X.prog X.w) X.A (f v u) Q X.xe s2) :
    wpAny (model X.prog X.w) X.A (eval a X.env) (fun v s₁ => wpAny (model X.prog X.w) X.A (eval b X.env) (fun u s₂ => wpAny (model X.prog X.w) X.A (f v u) Q X.xe s₂) X.xe s₁) X.xe s := by
  refine thn (ha pins s σ H _ I h) fun v s1 hpt9 => ?_
  obtain ⟨x, H1, I1, r1, q1⟩ := hpt9
  refine thn (hb pins s1 σ H1 _ I1 q1) fun u s2 hpt9 => ?_
  obtain ⟨y, H2, I2, r2, q2⟩ := hpt9
  exact hf v u s2 x y H2 I2 r1 r2 q2
theorem pe_op {op : Operator} {r : R2} (ho : OpR X (binaryOp op) r) (ha : PE X a ta) (hb : PE X b tb) : PE X (.BinOp a op b pos) (tOp r ta tb) := by
  intro pins s σ H Q I h
  exact wpAny_BinOp (binT ha hb I h fun v u s2 x y H2 I2 rx ry q => ho pins s2 σ H2 x y v u Q I2 rx ry q)
theorem opI {f : Value → Value → Sem Value} {C : Int → Int → Prop} {g : Int → Int → Int}
    (rule : ∀ (i j : Int) (t u : Tok) (s : Shared) (Q : Value → Shared → Prop) (E : Value → Shared → Prop), C i j → Q (.int (g i j) s.toks) { s with toks := s.toks + 1 } → wpAny (model X.prog X.w) X.A (f (.int i t) (.int j u)) Q E s) :
    OpR X f (rI C fun i j => .int (g i j)) := by
  intro pins s σ H x y v u Q I rx ry h
  obtain ⟨i, j, rfl, rfl, hc, q⟩ := h
  obtain ⟨t, rfl⟩ := rx
  obtain ⟨t', rfl⟩ := ry
  exact rule i j t t' s _ _ hc ⟨.int (g i j), H, I.tok _, ⟨_, rfl⟩, q⟩
theorem opI0 {f : Value → Value → Sem Value} {g : Int → Int → Int}
    (rule : ∀ (i j : Int) (t u : Tok) (s : Shared) (Q : Value → Shared → Prop) (E : Value → Shared → Prop), Q (.int (g i j) s.toks) { s with toks := s.toks + 1 } → wpAny (model X.prog X.w) X.A (f (.int i t) (.int j u)) Q E s) :
    OpR X f (rI0 fun i j => .int (g i j)) := by
  intro pins s σ H x y v u Q I rx ry h
  obtain ⟨i, j, rfl, rfl, q⟩ := h
  obtain ⟨t, rfl⟩ := rx
  obtain ⟨t', rfl⟩ := ry
  exact rule i j t t' s _ _ ⟨.int (g i j), H, I.tok _, ⟨_, rfl⟩, q⟩
theorem opB0 {f : Value → Value → Sem Value} {g : Int → Int → Bool}
    (rule : ∀ (i j : Int) (t u : Tok) (s : Shared) (Q : Value → Shared → Prop) (E : Value → Shared → Prop), Q (.bool (g i j)) s → wpAny (model X.prog X.w) X.A (f (.int i t) (.int j u)) Q E s) :
    OpR X f (rI0 fun i j => .bl (g i j)) := by
  intro pins s σ H x y v u Q I rx ry h
  obtain ⟨i, j, rfl, rfl, q⟩ := h
  obtain ⟨t, rfl⟩ := rx
  obtain ⟨t', rfl⟩ := ry
  exact rule i j t t' s _ _ ⟨.bl (g i j), H, I, rfl, q⟩
noncomputable def CDiv (i j : Int) : Prop := 0 < j ∧ j < 1073741824
noncomputable def CPow (i j : Int) : Prop := 0 ≤ j ∧ j ≤ 1000000 ∧ i.natAbs < 2 ^ 64
noncomputable def CMul (i j : Int) : Prop := (-(2 ^ 64) < i ∧ i < 2 ^ 64) ∨ (-(2 ^ 64) < j ∧ j < 2 ^ 64)
theorem CMul.ok {i j : Int} (h : CMul i j) : IntMulOk i j := by
  rcases h with ⟨h1, h2⟩ | ⟨h1, h2⟩
  · exact .of_left (intBits_le_64 h1 h2)
  · exact .of_right (intBits_le_64 h1 h2)
theorem op_add : OpR X (binaryOp .Add) (rI0 fun i j => .int (i + j)) := opI0 fun _ _ _ _ _ _ _ q => add_int q
theorem op_sub : OpR X (binaryOp .Sub) (rI0 fun i j => .int (i - j)) := opI0 fun _ _ _ _ _ _ _ q => sub_int q
theorem op_mul : OpR X (binaryOp .Mult) (rI CMul fun i j => .int (i * j)) := opI fun _ _ _ _ _ _ _ hc q => mul_int q hc.ok
theorem op_fdiv : OpR X (binaryOp .FloorDiv) (rI CDiv fun i j => .int (i / j)) := opI fun i j _ _ _ _ _ hc q => by
  have h1 : (0 : Int) < j := hc.1
  have h2 : j < 1073741824 := hc.2
  exact floordiv_int (by omega) (by rw [Int.fdiv_eq_ediv_of_nonneg i (by omega)]; exact q) (.inl (PyProof.noPylong_small (by omega)))
theorem op_mod : OpR X (binaryOp .Mod) (rI (fun _ j => 0 < j) fun i j => .int (i % j)) := opI fun i j _ _ _ _ _ hc q => by
  have h1 : (0 : Int) < j := hc
  exact mod_int' (by omega) (by rw [Int.fmod_eq_emod_of_nonneg i (by omega)]; exact q)
theorem op_pow : OpR X (binaryOp .Pow) (rI CPow fun i j => .int (i ^ j.toNat)) := opI fun _ _ _ _ _ _ _ hc q => pow_int_small hc.1 hc.2.1 hc.2.2 q
end
section
variable {X : Cx} {a b c : Expr} {ta tb tc : TE} {pos : Pos}
theorem fin_bl {pins : List (Addr × Obj)} {σ : St} {H : Hp} {s : Shared} {Q : VK} {k k' : Bool} (I : Inv X pins σ H s) (q : Q (.bl k) H) (e : k = k') : EP X pins σ Q (.bool k') s := by
  subst e
  exact ⟨.bl k, H, I, rfl, q⟩
theorem op_lt : OpR X (compareOp .Lt) (rI0 fun i j => .bl (decide (i < j))) := opB0 fun _ _ _ _ _ _ _ q => lt_int q
theorem op_gt : OpR X (compareOp .Gt) (rI0 fun i j => .bl (decide (j < i))) := opB0 fun _ _ _ _ _ _ _ q => gt_int q
theorem op_in_str : OpR X (compareOp .In) (fun x y H Q => ∃ i j, x = .str i ∧ y = .str j ∧ Q (.bl (!(Builtin.Str.occurrences j i 0 j.length 1).isEmpty)) H) := by
  intro pins s σ H x y v u Q I rx ry h
  obtain ⟨i, j, rfl, rfl, q⟩ := h
  obtain ⟨t, rfl⟩ := rx
  obtain ⟨t', rfl⟩ := ry
  exact in_str (fin_bl I q rfl)
theorem OpR.or {f : Value → Value → Sem Value} {r r' : R2} (h : OpR X f r) (h' : OpR X f r') : OpR X f (fun x y H Q => r x y H Q ∨ r' x y H Q) := by
  intro pins s σ H x y v u Q I rx ry q
  rcases q with q | q
  · exact h pins s σ H x y v u Q I rx ry q
  · exact h' pins s σ H x y v u Q I rx ry q
theorem nomark (b : Expr) {op : CmpOp} (h : op ≠ .In := by decide) (h2 : op ≠ .NotIn := by decide) : behindInMarks op b = false := by
  have e1 : (op == CmpOp.In) = false := by cases op <;> first | rfl | exact absurd rfl h
  have e2 : (op == CmpOp.NotIn) = false := by cases op <;> first | rfl | exact absurd rfl h2
  cases b <;> simp [behindInMarks, e1, e2]
theorem pe_cmpR {op : CmpOp} {r : R2} (ho : OpR X (compareOp op) r) (ha : PE X a ta) (hb : PE X b tb) (hm : behindInMarks op b = false) : PE X (.Compare a [op] [b] pos) (tOp r ta tb) := by
  intro pins s σ H Q I h
  exact wpAny_Compare1 (binT ha hb I h fun v u s2 x y H2 I2 rx ry q => ho pins s2 σ H2 x y v u Q I2 rx ry q) hm
noncomputable def tTest (t : TE) : TT := fun σ H Q => t σ H fun x H' => ∃ k, x = .bl k ∧ Q k H'
theorem pt_cmpR {op : CmpOp} {r : R2} (ho : OpR X (compareOp op) r) (ha : PE X a ta) (hb : PE X b tb) (hm : behindInMarks op b = false) : PT X (.Compare a [op] [b] pos) (tTest (tOp r ta tb)) := by
  intro pins s σ H Q I h
  refine wpAny_isTrue_Compare1 (thn (ha pins s σ H _ I h) fun v s1 ⟨x, H1, I1, r1, q1⟩ => thn (hb pins s1 σ H1 _ I1 q1) fun u s2 ⟨y, H2, I2, r2, q2⟩ =>
    thn (ho pins s2 σ H2 x y v u _ I2 r1 r2 q2) fun c s3 ⟨z, H3, I3, r3, k, e, q3⟩ => ?_) hm
  subst e
  cases r3
  exact wpAny_truthy_bool ⟨H3, I3, q3⟩
noncomputable def TruV (K : PySem.W.Frag) (x : V) (H : Hp) (k : Bool) : Prop :=
  match x with
  | .non => k = false
  | .bl b => k = b
  | .int i => k = (i != 0)
  | .str y => y.length ≤ sizeLine ∧ k = ((y.length : Int) != 0)
  | .byt y => y.size ≤ sizeLine ∧ k = ((y.size : Int) != 0)
  | .ref p => (∃ xs, SqL K H p xs ∧ k = !xs.isEmpty) ∨ (∃ xs, SqT K H p xs ∧ k = !xs.isEmpty) ∨ ∃ kvs, H p = some (.dK kvs) ∧ k = !kvs.isEmpty
  | _ => False
theorem isEmpty_kv {κ : Type} {kvs : List (κ × V)} {vs : List (κ × Value)} (r : KV kvs vs) : (!vs.isEmpty) = !kvs.isEmpty := by
  cases r <;> rfl
theorem isEmpty_of {xs : List V} {its : List Value} (r : Vals xs its) : (!its.toArray.isEmpty) = !xs.isEmpty := by
  cases r <;> simp
theorem line63 : (sizeLine : Nat) < 2 ^ 63 := by rw [sizeLine_eq]; decide
theorem tru_ok : TruR X (fun x H Q => ∃ k, TruV X.K x H k ∧ Q k H) := by
  intro pins s σ H x v Q I rx h
  obtain ⟨k, e, q⟩ := h
  have hl := line63
  have hs : sizeLine = 16777216 := sizeLine_eq
  cases x with
  | non =>
    cases rx
    have e' : k = false := e
    subst e'
    exact truthy_none ⟨H, I, q⟩
  | bl b =>
    cases rx
    have e' : k = b := e
    subst e'
    exact wpAny_truthy_bool ⟨H, I, q⟩
  | int i =>
    obtain ⟨t, rfl⟩ := rx
    have e' : k = (i != 0) := e
    subst e'
    exact PySem.P.truthy_int ⟨H, I, q⟩
  | str y =>
    obtain ⟨t, rfl⟩ := rx
    obtain ⟨hy, e'⟩ : y.length ≤ sizeLine ∧ k = ((y.length : Int) != 0) := e
    subst e'
    exact PySem.P.truthy_str (by omega) ⟨H, I.tok _, q⟩
  | byt y =>
    obtain ⟨t, rfl⟩ := rx
    obtain ⟨hy, e'⟩ : y.size ≤ sizeLine ∧ k = ((y.size : Int) != 0) := e
    subst e'
    exact PySem.W.truthy_bytes (by omega) ⟨H, I.tok _, q⟩
  | ref p =>
    cases rx
    have e' : (∃ xs, SqL X.K H p xs ∧ k = !xs.isEmpty) ∨ (∃ xs, SqT X.K H p xs ∧ k = !xs.isEmpty) ∨ ∃ kvs, H p = some (.dK kvs) ∧ k = !kvs.isEmpty := e
    rcases e' with ⟨xs, hx, e'⟩ | ⟨xs, hx, e'⟩ | ⟨kvs, hx, e'⟩
    · subst e'
      obtain ⟨its, r, pl, hz⟩ := I.list hx
      have hlen := r.length
      exact wpAny_truthy_list pl.isList (by simp only [List.size_toArray]; omega) ⟨H, I.tok _, by rw [isEmpty_of r]; exact q⟩
    · subst e'
      obtain ⟨its, r, pl, hz⟩ := I.tuple hx
      have hlen := r.length
      exact truthy_tuple pl (by simp only [List.size_toArray]; omega) ⟨H, I.tok _, by rw [isEmpty_of r]; exact q⟩
    · subst e'
      obtain ⟨hz, hS, vs, r, m⟩ : kvs.length ≤ sizeLine ∧ (p == sysModules) = false ∧ ∃ vs, KV kvs vs ∧ s.heap.DictOf (mixKind X.prog X.w) p vs := I.hok p _ hx
      have hlen : kvs.length = vs.length := Paired.length r
      exact wpAny_truthy_dict hS m (by omega) ⟨H, I.tok _, by rw [isEmpty_kv r]; exact q⟩
  | _ => exact (show False from e).elim
theorem pt_truth (ha : PE X a ta) (he : ∀ whole, isTrue a X.env whole = (do let v ← whole; standAt a.pos; holding [v] (truthy v))) :
    PT X a (fun σ H Q => ta σ H fun x H' => ∃ k, TruV X.K x H' k ∧ Q k H') := by
  intro pins s σ H Q I h
  exact isTrue_plain (thn (ha pins s σ H _ I h) fun v s1 ⟨x, H1, I1, r1, q1⟩ => tru_ok pins s1 σ H1 x v Q I1 r1 q1) (he _)
theorem op_add_str : OpR X (binaryOp .Add) (fun x y H Q => ∃ i j, x = .str i ∧ y = .str j ∧ i.length + j.length ≤ sizeLine ∧ Q (.str (i ++ j)) H) := by
  intro pins s σ H x y v u Q I rx ry h
  obtain ⟨i, j, rfl, rfl, hz, q⟩ := h
  obtain ⟨t, rfl⟩ := rx
  obtain ⟨t', rfl⟩ := ry
  exact add_str (fun t' tk => ⟨.str (i ++ j), H, I.tok _, ⟨_, rfl⟩, q⟩) hz
theorem vals1 {x : V} {us : List Value} (r : Vals [x] us) : ∃ u, us = [u] ∧ RelV x u := by
  cases r with
  | cons r1 r2 => cases r2; exact ⟨_, rfl, r1⟩
theorem call_abs : CallR X (.builtin "abs") (fun xs H Q => ∃ i, xs = [.int i] ∧ Q (.int (if i < 0 then -i else i)) H) := by
  intro pins s σ H xs us Q I r h
  obtain ⟨i, rfl, q⟩ := h
  obtain ⟨u, rfl, t, rfl⟩ := vals1 r
  exact call_abs_int fun u tk => ⟨.int (if i < 0 then -i else i), H, I.tok _, ⟨_, rfl⟩, q⟩
theorem call_str_int : CallR X (.type "str") (fun xs H Q => ∃ i, xs = [.int i] ∧ i.natAbs.log2 < 1920 ∧ Q (.str (toString i)) H) := by
  intro pins s σ H xs us Q I r h
  obtain ⟨i, rfl, hz, q⟩ := h
  obtain ⟨u, rfl, t, rfl⟩ := vals1 r
  exact PySem.P.str_of_int hz ⟨.str _, H, I.tok _, ⟨_, rfl⟩, q⟩
noncomputable def LenV (K : PySem.W.Frag) (x : V) (H : Hp) (n : Nat) : Prop :=
  match x with
  | .str y => y.length ≤ sizeLine ∧ n = y.length
  | .byt y => y.size ≤ sizeLine ∧ n = y.size
  | .ref p => (∃ xs, SqL K H p xs ∧ n = xs.length) ∨ ∃ xs, SqT K H p xs ∧ n = xs.length
  | _ => False
theorem call_len : CallR X (.builtin "len") (fun xs H Q => ∃ x n, xs = [x] ∧ LenV X.K x H n ∧ Q (.int n) H) := by
  intro pins s σ H xs us Q I r h
  obtain ⟨x, n, rfl, e, q⟩ := h
  obtain ⟨u, rfl, rx⟩ := vals1 r
  have hl := line63
  have hs : sizeLine = 16777216 := sizeLine_eq
  cases x with
  | str y =>
    obtain ⟨t, rfl⟩ := rx
    obtain ⟨hy, e'⟩ : y.length ≤ sizeLine ∧ n = y.length := e
    subst e'
    exact len_str (by omega) ⟨.int _, H, I.tok _, ⟨_, rfl⟩, q⟩
  | byt y =>
    obtain ⟨t, rfl⟩ := rx
    obtain ⟨hy, e'⟩ : y.size ≤ sizeLine ∧ n = y.size := e
    subst e'
    exact PySem.W.len_bytes (by omega) ⟨.int _, H, I.tok _, ⟨_, rfl⟩, q⟩
  | ref p =>
    cases rx
    have e' : (∃ xs, SqL X.K H p xs ∧ n = xs.length) ∨ ∃ xs, SqT X.K H p xs ∧ n = xs.length := e
    rcases e' with ⟨xs, hx, e'⟩ | ⟨xs, hx, e'⟩
    · subst e'
      obtain ⟨its, r', pl, hz⟩ := I.list hx
      have hlen := r'.length
      exact Calls.call_len_list pl.isList (by simp only [List.size_toArray]; omega) ⟨.int xs.length, H, I.tok _, ⟨_, by simp only [List.size_toArray]; rw [hlen]⟩, q⟩
    · subst e'
      obtain ⟨its, r', pl, hz⟩ := I.tuple hx
      have hlen := r'.length
      exact len_tuple pl (by simp only [List.size_toArray]; omega) ⟨.int xs.length, H, I.tok _, ⟨_, by simp only [List.size_toArray]; rw [hlen]⟩, q⟩
  | _ => exact (show False from e).elim
end
end L2
namespace L2
open PySem PySem.Spec PyProof.Rows
structure ObjM (h : Heap) (x dx C : Addr) (mA : Str → Option Value) : Prop where
  obj : h.get? x = some (PySem.W.instObj C dx)
  ns : h.Ns1 dx mA
  ne : dx ≠ x
theorem lookIn_ns {h : Heap} {dx : Addr} {mA : Str → Option Value} (n : h.Ns1 dx mA) : ∃ od, h.get? dx = some od ∧ ∀ name, PySem.W.lookIn name od = some (mA name) := by
  obtain ⟨o, es, ep, ho, hd, hk, _, hm⟩ := n
  refine ⟨o, ho, fun name => ?_⟩
  have e := hm name
  unfold nsFind findBy at e
  rw [← Array.find?_toList] at e
  unfold PySem.W.lookIn
  rw [hd]
  dsimp only
  split
  · rename_i y q
    rw [q] at e
    exact congrArg some e
  · rename_i q
    rw [q] at e
    have a : es.toList.any (·.refKey) = false := by
      rw [List.any_eq_false]
      intro y hy
      obtain ⟨z, t, hkey⟩ := hk y (Array.mem_toList_iff.mp hy)
      simp [DictEntry.refKey, hkey]
    have a' : ¬ es.toList.any (·.refKey) = true := by rw [a]; exact Bool.false_ne_true
    rw [if_neg a']
    exact congrArg some e
theorem ObjM.look {h : Heap} {x dx C : Addr} {mA : Str → Option Value} (I : ObjM h x dx C mA) : ∃ od, PySem.W.InstAt h x (PySem.W.instObj C dx) C (some od) ∧ ∀ name, PySem.W.lookIn name od = some (mA name) :=
  let ⟨od, ho, hl⟩ := lookIn_ns I.ns
  ⟨od, ⟨I.obj, rfl, rfl, ho⟩, hl⟩
section
variable {prog : Program} {w : World} {A : Around} {E : Value → Shared → Prop} {s : Shared} {K : PySem.W.Frag} {x dx C f : Addr} {mA : Str → Option Value} {name : Str} {v : Value}
end
section
variable {P : Program} {w : World} {H H' : Hp} {h h' : Heap} {a C dx : Addr} {fs fs' : List (Str × V)}
theorem ins_get (hok : HOk P w H h) (e : H a = some (.ins C dx fs)) : ∃ mA, ObjM h a dx C mA ∧ (∀ f, RelO (fs.lookup f) (mA f)) ∧ PySem.Within mA (fs.map (·.1)) ∧ fs.length ≤ 1000 ∧ H dx = some (.own a) := by
  obtain ⟨d, z, ne, ob, mA, n, r, q⟩ := (show ObjOk P w H h a (.ins C dx fs) from hok a _ e)
  exact ⟨mA, ⟨ob, n, ne⟩, r, q, z, d⟩
end
structure Cls (K : PySem.W.Frag) (C : Addr) : Prop where
  pg : PySem.W.plainGet K C Str.empty = true
  hd : PySem.W.hasDictIn K C = true
  po : PySem.W.plainOver K C = true
  sa : PySem.W.findIn K (.ref C) "__setattr__" = some (some (.builtin "object.__setattr__"))
theorem Cls.get {K : PySem.W.Frag} {C : Addr} (c : Cls K C) (f : Str) : PySem.W.plainGet K C f = true := c.pg
structure Con (K : PySem.W.Frag) (C : Addr) (f : Str) (v : V) (u : Value) : Prop where
  at_ : PySem.W.findIn K (.ref C) f = some (some u)
  rel : RelV v u
  get : PySem.W.specialIn K u "__get__" = some none
  cp : PySem.W.copiedNames.contains f = false
structure Meth (K : PySem.W.Frag) (C : Addr) (m : Str) (f : Addr) : Prop where
  at_ : PySem.W.findIn K (.ref C) m = some (some (.ref f))
  fn : PySem.W.isFn K (.ref f) = true
  kp : PySem.W.keepIn K (.ref f) = true
section
variable {X : Cx} {pins : List (Addr × Obj)} {σ : St} {H : Hp} {s : Shared} {a C dx : Addr} {fs : List (Str × V)} {f : Str} {v : V} {A : Around} {E : Value → Shared → Prop}
end
section
variable {X : Cx} {o e value : Expr} {f : Str} {pos pos' tpos : Pos} {ta tv : TE}
end
section
variable {X : Cx} {pins : List (Addr × Obj)} {σ : St} {H : Hp} {s : Shared} {A : Around} {E : Value → Shared → Prop} {Q : Value → Shared → Prop} {c : Value} {b : Bool}
inductive TyOf (K : PySem.W.Frag) (H : Hp) : V → Value → Prop where
  | non : TyOf K H .non (.type "NoneType")
  | bl (x : Bool) : TyOf K H (.bl x) (.type "bool")
  | int (i : Int) : TyOf K H (.int i) (.type "int")
  | str (x : Str) : TyOf K H (.str x) (.type "str")
  | flt (x : UInt64) : TyOf K H (.flt x) (.type "float")
  | lst {a : Addr} {xs : List V} (e : H a = some (.lst xs)) : TyOf K H (.ref a) (.type "list")
  | frz {a : Addr} {o : Obj} {xs : List V} (e : H a = some (.frz o (.lst xs))) : TyOf K H (.ref a) (.type "list")
  | tup {a : Addr} {xs : List V} (e : H a = some (.tup xs)) : TyOf K H (.ref a) (.type "tuple")
  | dK {a : Addr} {kvs : List (Key × V)} (e : H a = some (.dK kvs)) : TyOf K H (.ref a) (.type "dict")
  | dT {a : Addr} {kvs : List (List Key × V)} (e : H a = some (.dT kvs)) : TyOf K H (.ref a) (.type "dict")
  | ins {a C dx : Addr} {fs : List (Str × V)} (e : H a = some (.ins C dx fs)) (cl : Cls K C) (ha : PySem.W.findIn K (.ref C) "__class__" = some (some (.builtin "object.__class__")))
      (hn : PySem.W.specialIn K (.builtin "object.__class__") "__get__" = some (some (.builtin "getset_descriptor.__get__"))) (htk : PySem.W.takesIn K (.builtin "object.__class__") = some true)
      (hm : PySem.W.mroIn K C (.type "object") = some true) : TyOf K H (.ref a) (.ref C)
theorem isinst_ok {x : V} {u t : Value} (I : Inv X pins σ H s) (rx : RelV x u) (ty : TyOf X.K H x t) (e : PySem.W.kitOne X.K t c = some b) (h : ∀ tk, Q (.bool b) { s with toks := tk }) :
    wpAny (model X.prog X.w) A (call (.builtin "isinstance") [u, c]) Q E s := by
  cases ty with
  | non => cases (show u = Value.none from rx); exact PySem.W.kia_one PySem.W.kitx_none I.kIn True.intro e (fun z => nomatch z) h
  | bl y => cases (show u = Value.bool y from rx); exact PySem.W.kia_one PySem.W.kitx_bool I.kIn True.intro e (fun z => nomatch z) h
  | int i => obtain ⟨t, q⟩ := (show ∃ t, u = Value.int i t from rx); cases q; exact PySem.W.kia_one PySem.W.kitx_int I.kIn True.intro e (fun z => nomatch z) h
  | str y => obtain ⟨t, q⟩ := (show ∃ t, u = Value.str y t from rx); cases q; exact PySem.W.kia_one PySem.W.kitx_str I.kIn True.intro e (fun z => nomatch z) h
  | flt y => obtain ⟨t, q⟩ := (show ∃ t, u = Value.float y t from rx); cases q; exact PySem.W.kia_one PySem.W.kitx_float I.kIn True.intro e (fun z => nomatch z) h
  | @lst a xs ea =>
    cases (show u = Value.ref a from rx)
    obtain ⟨_, _, n, _, h1⟩ := (show ObjOk X.prog X.w H s.heap a (.lst xs) from I.hok a _ ea)
    exact PySem.W.kia_one PySem.W.kitx_list I.kIn ⟨_, h1, rfl⟩ e (fun z => nomatch z) h
  | @frz a ob xs ea =>
    cases (show u = Value.ref a from rx)
    obtain ⟨_, _, _, n, _, h1⟩ := (show ObjOk X.prog X.w H s.heap a (.frz ob (.lst xs)) from I.hok a _ ea)
    exact PySem.W.kia_one PySem.W.kitx_list I.kIn ⟨_, h1, rfl⟩ e (fun z => nomatch z) h
  | @tup a xs ea =>
    cases (show u = Value.ref a from rx)
    obtain ⟨_, _, _, p⟩ := (show ObjOk X.prog X.w H s.heap a (.tup xs) from I.hok a _ ea)
    obtain ⟨o, h1, h2, _⟩ := p
    exact PySem.W.kia_one PySem.W.kitx_tuple I.kIn ⟨o, h1, h2⟩ e (fun z => nomatch z) h
  | @dK a kvs ea =>
    cases (show u = Value.ref a from rx)
    obtain ⟨_, _, vs, _, p⟩ := (show ObjOk X.prog X.w H s.heap a (.dK kvs) from I.hok a _ ea)
    obtain ⟨o, es, ep, h1, h2, _⟩ := p
    exact PySem.W.kia_one PySem.W.kitx_dict I.kIn ⟨o, h1, h2.1⟩ e (fun z => nomatch z) h
  | @dT a kvs ea =>
    cases (show u = Value.ref a from rx)
    obtain ⟨_, _, xs, _, o, es, ep, h1, h2, _⟩ := (show ObjOk X.prog X.w H s.heap a (.dT kvs) from I.hok a _ ea)
    exact PySem.W.kia_one PySem.W.kitx_dict I.kIn ⟨o, h1, h2.1⟩ e (fun z => nomatch z) h
  | @ins a C dx fs ea cl ha hn htk hm =>
    cases (show u = Value.ref a from rx)
    obtain ⟨mA, O, _⟩ := ins_get I.hok ea
    obtain ⟨od, J, _⟩ := O.look
    exact PySem.W.kia_one (PySem.W.kitx_own (cl.get _) cl.hd ha hn htk hm) I.kIn J e (fun z => nomatch z) h
end
end L2
namespace L2
open PySem PySem.Spec PyProof.Rows
structure Room (k : Nat) (A : Around) : Prop where
  hd : A.handled = none
  dp : A.depth + 3 * k + 5 < recursionLimit
  un : A.units + 16 * k + 200 < cLine
theorem Room.mono {j k : Nat} {A : Around} (r : Room k A) (h : j ≤ k) : Room j A := ⟨r.hd, by have := r.dp; omega, by have := r.un; omega⟩
theorem Room.deeper {k : Nat} {A : Around} (r : Room (k + 1) A) (env : Env) : Room k (A.deeper env) :=
  ⟨r.hd, by have := r.dp; show A.depth + 1 + 3 * k + 5 < _; omega, by have := r.un; show A.units + 3 + 16 * k + 200 < _; omega⟩
theorem Room.depth {k : Nat} {A : Around} (r : Room k A) : A.depth < recursionLimit := by have := r.dp; omega
theorem Room.units {k : Nat} {A : Around} (r : Room k A) : A.units + 64 < cLine := by have := r.un; omega
noncomputable def tNil : TA := fun _ H Q => Q [] H
noncomputable def tCons (ta : TE) (tr : TA) : TA := fun σ H Q => ta σ H fun x H1 => tr σ H1 fun xs H2 => Q (x :: xs) H2
section
variable {X : Cx} {e : Expr} {es : List Expr} {te : TE} {t : TA} {pos : Pos}
theorem pa_nil : PA X [] tNil := fun _ _ _ _ H Q I h => Calls.spliced_nil ⟨[], H, I, .nil, h⟩
theorem pa_cons (ha : PE X e te) (hr : PA X es t) (hs : starEach (e :: es) X.env = (false, eval e X.env) :: starEach es X.env := by rfl) : PA X (e :: es) (tCons te t) := by
  intro pos pins s σ H Q I h
  rw [hs]
  show wpAny _ _ (spliced ((false, eval e X.env) :: backTo pos (starEach es X.env))) _ _ s
  refine Calls.spliced_cons (thn (ha pins s σ H _ I h) fun u s1 hpt9 => ?_)
  obtain ⟨x, H1, I1, r1, q1⟩ := hpt9
  exact thn (hr pos pins s1 σ H1 _ I1 q1) fun us s2 ⟨xs, H2, I2, r2, q2⟩ => ⟨x :: xs, H2, I2, .cons r1 r2, q2⟩
noncomputable def tTup (t : TA) : TE := fun σ H Q => t σ H fun xs H1 => xs.length ≤ sizeLine ∧ ∀ p, H1 p = none → Q (.ref p) (upd H1 p (.tup xs))
noncomputable def tLst (t : TA) : TE := fun σ H Q => t σ H fun xs H1 => xs.length ≤ sizeLine ∧ ∀ p, H1 p = none → Q (.ref p) (upd H1 p (.lst xs))
theorem pe_tup {x1} (h : PA X es t) : PE X (.Tuple es x1 pos) (tTup t) := by
  intro pins s σ H Q I hq
  refine wpAny_Tuple_spliced (thn (h pos pins s σ H _ I hq) fun us s1 ⟨xs, H1, I1, r, z, q⟩ => ⟨by rw [← r.length]; exact z, ?_⟩)
  have hf : H1 s1.heap.objs.size = none := I1.hok.fresh (Nat.le_refl _)
  refine ⟨.ref s1.heap.objs.size, upd H1 s1.heap.objs.size (.tup xs), I1.laid (t' := s1.toks) (fun b u e => Heap.get?_push_of_some _ e) (Nat.le_refl _) ?_, rfl, q _ hf⟩
  exact ⟨z, us, r, ⟨_, Heap.get?_push_size _ rfl, rfl, _, rfl⟩⟩
theorem pe_lst (h : PA X es t) : PE X (.List es pos) (tLst t) := by
  intro pins s σ H Q I hq
  refine wpAny_List_spliced (thn (h pos pins s σ H _ I hq) fun us s1 ⟨xs, H1, I1, r, z, q⟩ => ⟨by rw [← r.length]; exact z, ?_⟩)
  have hf : H1 s1.heap.objs.size = none := I1.hok.fresh (Nat.le_refl _)
  refine ⟨.ref s1.heap.objs.size, upd H1 s1.heap.objs.size (.lst xs), I1.laid (t' := s1.toks) (fun b u e => Heap.get?_push_of_some _ e) (Nat.le_refl _) ?_, rfl, q _ hf⟩
  exact ⟨z, us, 0, r, Heap.get?_push_size _ rfl⟩
end
noncomputable abbrev Sp := List V → Hp → VK → XK → Prop
noncomputable abbrev CXT := List Env → Hp → Shared → XK → Value → Shared → Prop
structure Env0 (P : Program) (w : World) (K : PySem.W.Frag) (mg : Str → Option Value) (base : Heap) (A : Around) (outer : List Env) (s : Shared) (H : Hp) : Prop where
  frames : A.frames = some outer
  mod : Mod K mg base
  bs : ∀ b o, base.get? b = some o → s.heap.get? b = some o ∧ H b = none
  bsz : base.objs.size ≤ s.heap.objs.size
  funs : s.heap.FunFrames base outer
  frf : ∀ b ∈ frs outer, H b = none
  hok : HOk P w H s.heap
  bare : AllBare s.gens
noncomputable def CE (outer : List Env) (P : Program) (w : World) (H : Hp) (s : Shared) (Q : VK) (u : Value) (s' : Shared) : Prop :=
  ∃ v H', s'.os = s.os ∧ AllBare s'.gens ∧ Un (frs outer) [] H H' s.heap s'.heap ∧ HOk P w H' s'.heap ∧ RelV v u ∧ Q v H'
noncomputable def CR (CX : CXT) (outer : List Env) (P : Program) (w : World) (H : Hp) (s : Shared) (Q : VK) (E : XK) (r : Result) (s' : Shared) : Prop :=
  match r with
  | .ok (.ret u) => CE outer P w H s Q u s'
  | .ok _ => False
  | .error e => CX outer H s E e s'
structure FnOk (P : Program) (w : World) (K : PySem.W.Frag) (mg : Str → Option Value) (base : Heap) (CX : CXT) (k : Nat) (f : Addr) (fd : FuncData) (ps : List Str) (sp : Sp) : Prop where
  len : ∀ vs H Q E, sp vs H Q E → vs.length = ps.length
  run : ∀ (A : Around) (outer : List Env) (s : Shared) (H : Hp) (args : Args) (us : List Value) (vs : List V) (Q : VK) (E : XK), Room k A → Env0 P w K mg base A outer s H → BindsTo s fd args (ps.zip us) → Vals vs us → sp vs H Q E →
    codeAny (model P w) A (.call (.ref f) args) (CR CX outer P w H s Q E) s
section
variable {X : Cx} {pins : List (Addr × Obj)} {σ : St} {H : Hp} {s s' : Shared}
theorem Inv.env0 (I : Inv X pins σ H s) : Env0 X.prog X.w X.K X.mg X.base X.A X.stack s H :=
  ⟨I.ok.frames, I.ok.mod, I.bs, Nat.le_trans I.ok.bsz I.sz, I.stack, I.stkFree, I.hok, I.bare⟩
theorem Inv.after {Q : VK} {u : Value} (I : Inv X pins σ H s) (h : CE X.stack X.prog X.w H s Q u s') : EP X pins σ Q u s' := by
  obtain ⟨v, H', os, bare, un, hok, r, q⟩ := h
  obtain ⟨hh, g, d, t, os'⟩ := s'
  obtain rfl : os' = s.os := os
  exact ⟨v, H', I.call (h' := hh) (g' := g) (d' := d) (t' := t) (ch := []) un hok bare (fun b z => absurd z (by simp)), r, q⟩
end
noncomputable def tCall (sp : Sp) (dvs : List V) (E : XK) (t : TA) : TE := fun σ H Q => t σ H fun vs H1 => sp (vs ++ dvs) H1 Q E
noncomputable def Binds (K : PySem.W.Frag) (fd : FuncData) (ps : List Str) (ds : List Value) : Prop :=
  ∀ (s : Shared) (us : List Value), K.In s.heap → (us ++ ds).length = ps.length → BindsTo s fd ⟨us, []⟩ (ps.zip (us ++ ds))
theorem Binds.all {K : PySem.W.Frag} {fd : FuncData} {ps : List Str} (h : ∀ us : List Value, us.length = ps.length → bindArgs fd ⟨us, []⟩ = pure (ps.zip us)) : Binds K fd ps [] := fun s us _ hl => by
  rw [List.append_nil] at hl ⊢
  exact .of_eq (h us hl)
noncomputable def Passes (CX : CXT) (X : Cx) (E : XK) : Prop := ∀ (pins : List (Addr × Obj)) (σ : St) (H : Hp) (s : Shared) (e : Value) (s' : Shared), Inv X pins σ H s → CX X.stack H s E e s' → X.xe e s'
section
variable {X : Cx} {CX : CXT} {k : Nat} {f C : Addr} {fd : FuncData} {ps : List Str} {sp : Sp} {dvs : List V} {ds : List Value} {E : XK} {x m : Str} {p pos apos : Pos} {e o : Expr} {es : List Expr} {ta : TE} {t : TA}
theorem run_fn {pins : List (Addr × Obj)} {σ : St} {H : Hp} {s : Shared} {Q : VK} {us : List Value} {vs : List V} (F : FnOk X.prog X.w X.K X.mg X.base CX k f fd ps sp) (hr : Room k X.A) (hb : Binds X.K fd ps ds) (hd : Vals dvs ds) (hx : Passes CX X E)
    (I : Inv X pins σ H s) (r : Vals vs us) (h : sp (vs ++ dvs) H Q E) : wpAny (model X.prog X.w) X.A (call (.ref f) us) (EP X pins σ Q) X.xe s := by
  have r2 : Vals (vs ++ dvs) (us ++ ds) := r.append hd
  have hl : (us ++ ds).length = ps.length := by rw [← r2.length]; exact F.len _ _ _ _ h
  refine wpAny_call (codeAny_mono (F.run X.A X.stack s H ⟨us, []⟩ (us ++ ds) (vs ++ dvs) Q E hr I.env0 (hb s us I.kIn hl) r2 h) fun r s' hq => ?_)
  cases r with
  | error e => exact hx pins σ H s e s' I hq
  | ok fl =>
    cases fl with
    | ret u => exact I.after hq
    | next => exact False.elim hq
    | brk => exact False.elim hq
    | cont => exact False.elim hq
theorem pe_call (F : FnOk X.prog X.w X.K X.mg X.base CX k f fd ps sp) (hr : Room k X.A) (hg : Gl X x) (hm : X.mg x = some (.ref f)) (hk : PySem.W.keepIn X.K (.ref f) = true) (hb : Binds X.K fd ps ds) (hd : Vals dvs ds) (hx : Passes CX X E)
    (ha : PA X (e :: es) t) (hdb : (x == ("__debug__" : Str)) = false := by decide) (he : starEach (e :: es) X.env = (false, eval e X.env) :: starEach es X.env := by rfl) (hpl : (backTo pos (starEach es X.env)).any (·.1) = false := by rfl) :
    PE X (.Call (.Name x p) (e :: es) [] pos) (tCall sp dvs E t) := by
  intro pins s σ H Q I h
  refine wpAny_Call_Name_kw (ld_glob I hg hm ?_ hdb)
  refine PySem.W.callWith_K (h₀ := X.base) I.ok.mod.kin hk (thn (ha pos pins s σ H _ I h) fun us s1 ⟨vs, H1, I1, r, q⟩ => ⟨I1.kIn, ?_⟩) he hpl
  exact run_fn F hr hb hd hx I1 r q
structure Mk (K : PySem.W.Frag) (C f : Addr) : Prop where
  makes : PySem.W.makesIn K C = true
  init : PySem.W.findIn K (.ref C) "__init__" = some (some (.ref f))
  fn : PySem.W.isFn K (.ref f) = true
  kp : PySem.W.keepIn K (.ref C) = true
end
section
variable {X : Cx} {CX : CXT} {k : Nat} {f C : Addr} {fd : FuncData} {ps ks : List Str} {sp : Sp} {E : XK} {x m : Str} {p pos apos kpos : Pos} {e o : Expr} {es : List Expr} {kws : List Keyword} {te ta : TE} {t tk : TA} {nm : Option Str}
structure KBinds (K : PySem.W.Frag) (fd : FuncData) (ps ks : List Str) (g : List Value → List Value → List Value) (gV : List V → List V → List V) : Prop where
  to : ∀ (s : Shared) (us ws : List Value), K.In s.heap → (g us ws).length = ps.length → BindsTo s fd ⟨us, ks.zip ws⟩ (ps.zip (g us ws))
  rel : ∀ {vs : List V} {us : List Value} {zs : List V} {ws : List Value}, Vals vs us → Vals zs ws → Vals (gV vs zs) (g us ws)
variable {g : List Value → List Value → List Value} {gV : List V → List V → List V}
end
structure FnScope (N P : List Str) (sc : Scope) : Prop where
  kind : sc.kind = .function
  co : sc.isCoroutine = false
  gen : sc.isGenerator = false
  nd : N.Nodup
  pre : N.take P.length = P
  par : ∀ x ∈ P, sc.names.lookup x = some .local ∨ sc.names.lookup x = some .cell
  nofree : ∀ y ∈ sc.names, y.2 ≠ .free
theorem bindL_out {kindOf : Str → Option NameKind} {x : Str} : ∀ {binds : List (Str × Value)} {m : Str → Option Value}, (∀ v, (x, v) ∉ binds) → bindL kindOf binds m x = m x
  | [], _, _ => rfl
  | (n, v) :: r, m, h => by
    unfold bindL
    rw [bindL_out fun w hw => h w (List.mem_cons_of_mem _ hw)]
    split
    · have : x ≠ n := by rintro rfl; exact h v List.mem_cons_self
      simp [this]
    · rfl
theorem bindC_out {kindOf : Str → Option NameKind} {x : Str} : ∀ {binds : List (Str × Value)} {m : Str → Option Value}, (∀ v, (x, v) ∉ binds) → bindC kindOf binds m x = m x
  | [], _, _ => rfl
  | (n, v) :: r, m, h => by
    unfold bindC
    rw [bindC_out fun w hw => h w (List.mem_cons_of_mem _ hw)]
    split
    · rfl
    · have : x ≠ n := by rintro rfl; exact h v List.mem_cons_self
      simp [this]
theorem bindL_get {kindOf : Str → Option NameKind} {x : Str} {v : Value} : ∀ {P : List Str} {vs : List Value} {i : Nat} {m : Str → Option Value}, P.Nodup → P[i]? = some x → vs[i]? = some v → kindOf x = some .local →
    bindL kindOf (P.zip vs) m x = some v
  | [], _, _, _, _, h, _, _ => by simp at h
  | _ :: _, [], _, _, _, _, h, _ => by simp at h
  | p :: P, w :: vs, 0, m, nd, h1, h2, hk => by
    simp at h1 h2; subst h1; subst h2
    show bindL kindOf ((p, w) :: P.zip vs) m p = _
    unfold bindL
    rw [bindL_out fun v hv => (List.nodup_cons.mp nd).1 (List.of_mem_zip hv).1, if_pos hk]
    simp
  | p :: P, w :: vs, i + 1, m, nd, h1, h2, hk => by
    show bindL kindOf ((p, w) :: P.zip vs) m x = _
    unfold bindL
    exact bindL_get (i := i) (List.nodup_cons.mp nd).2 (by simpa using h1) (by simpa using h2) hk
theorem bindC_get {kindOf : Str → Option NameKind} {x : Str} {v : Value} : ∀ {P : List Str} {vs : List Value} {i : Nat} {m : Str → Option Value}, P.Nodup → P[i]? = some x → vs[i]? = some v → kindOf x ≠ some .local →
    bindC kindOf (P.zip vs) m x = some v
  | [], _, _, _, _, h, _, _ => by simp at h
  | _ :: _, [], _, _, _, _, h, _ => by simp at h
  | p :: P, w :: vs, 0, m, nd, h1, h2, hk => by
    simp at h1 h2; subst h1; subst h2
    show bindC kindOf ((p, w) :: P.zip vs) m p = _
    unfold bindC
    rw [bindC_out fun v hv => (List.nodup_cons.mp nd).1 (List.of_mem_zip hv).1, if_neg hk]
    simp
  | p :: P, w :: vs, i + 1, m, nd, h1, h2, hk => by
    show bindC kindOf ((p, w) :: P.zip vs) m x = _
    unfold bindC
    exact bindC_get (i := i) (List.nodup_cons.mp nd).2 (by simpa using h1) (by simpa using h2) hk
noncomputable def start (N : List Str) (vs : List V) : St := vs.map some ++ List.replicate (N.length - vs.length) none
noncomputable def cxOf (CX : CXT) (P : Program) (w : World) (K : PySem.W.Frag) (mg : Str → Option Value) (base : Heap) (N : List Str) (qual : Str) (scope : Scope) (f : Addr) (cd : Value) (A : Around) (outer : List Env) (s : Shared) (H : Hp) (E : XK) : Cx where
  prog := P
  w := w
  K := K
  mg := mg
  base := base
  A := A.deeper (envOfC qual scope s.heap.objs.size f cd)
  N := N
  s₀ := s
  H₀ := H
  env := envOfC qual scope s.heap.objs.size f cd
  outer := outer
  stack := envOfC qual scope s.heap.objs.size f cd :: outer
  ex := []
  calm := true
  fn := fun _ => true
  pn := []
  xe := fun e s' => wpAny (model P w) (A.deeper (envOfC qual scope s.heap.objs.size f cd)) (leaving (envOfC qual scope s.heap.objs.size f cd) e) (fun _ s'' => CX outer H s E e s'') (fun e' s'' => CX outer H s E e' s'') s'
theorem cell_has {sc : Scope} {n : Nat} {x : Str} (h : sc.names.lookup x = some .cell) : ∃ c, (cellsFrom n sc.names []).lookup x = some c := by
  have q := PySem.W.cellsFrom_some sc.names n [] (.inl h)
  exact Option.isSome_iff_exists.mp q
theorem inv_start {CX : CXT} {P : Program} {w : World} {K : PySem.W.Frag} {mg : Str → Option Value} {base : Heap} {N ps : List Str} {qual : Str} {scope : Scope} {f : Addr} {cd : Value} {A : Around} {outer : List Env} {s s1 : Shared} {H : Hp} {E : XK} {us : List Value} {vs : List V}
    (S : FnScope N ps scope) (hd : A.handled = none) (e0 : Env0 P w K mg base A outer s H) (hl : vs.length = ps.length) (r : Vals vs us)
    (x : InCallC s s.heap.objs.size (bindL (envOfC qual scope s.heap.objs.size f cd).kindOf (ps.zip us) fun _ => none) (cellsFrom (s.heap.objs.size + 1) scope.names []) (bindC (envOfC qual scope s.heap.objs.size f cd).kindOf (ps.zip us) fun _ => none) s1) :
    Inv (cxOf CX P w K mg base N qual scope f cd A outer s H E) [] (start N vs) H s1 := by
  have hpl : ps.length ≤ N.length := by have := congrArg List.length S.pre; rw [List.length_take] at this; omega
  obtain ⟨h1, tk, rfl, hk⟩ := x.done
  have noA : ∀ b : Addr, b ∉ (cxOf CX P w K mg base N qual scope f cd A outer s H E).ex := fun b z => absurd (show b ∈ ([] : List Addr) from z) (by simp)
  refine ⟨⟨e0.mod, S.kind, rfl, rfl, Nat.le_refl _, fun y z c h1 h2 => ?_, fun y hy => ?_, fun y c _ h => ?_, fun _ => hd, Around.frames_deeper e0.frames, .inr ⟨rfl, rfl⟩, fun b z => absurd z (noA b), e0.bs, e0.bsz, fun b _ _ => noA b, fun b z => absurd z (noA b), e0.funs, e0.frf⟩,
    rfl, e0.bare, Un.kept hk, ⟨_, x.toInCall.ns, fun i y v h1 h2 h3 => ?_⟩, fun y c h => ⟨_, x.cell y c h⟩, e0.hok.fresh (Nat.le_refl _), fun y c h => ?_, fun p hp => absurd (show p ∈ ([] : List (Addr × Obj)) from hp) (by simp), e0.hok.kept hk, ?_⟩
  · exact name_of_addr x.apart (PySem.mem_of_lookup h1) (PySem.mem_of_lookup h2)
  · have hy : scope.names.lookup y = some .cell ∨ scope.names.lookup y = some .free := hy
    rcases hy with hy | hy
    · exact cell_has hy
    · exact absurd rfl (S.nofree _ (PySem.mem_of_lookup hy))
  · exact Nat.le_of_lt (x.above y c (PySem.mem_of_lookup h))
  · have hi : i < vs.length := by
      unfold start at h2
      by_cases hi : i < vs.length
      · exact hi
      · rw [List.getElem?_append_right (by simpa using hi)] at h2
        rw [List.getElem?_replicate] at h2
        split at h2 <;> cases h2
    have ha : vs[i]? = some v := by
      unfold start at h2
      rw [List.getElem?_append_left (by simpa using hi), List.getElem?_map] at h2
      cases e : vs[i]? with
      | none => rw [e] at h2; cases h2
      | some a => rw [e] at h2; cases h2; rfl
    obtain ⟨u, hu, rv⟩ := r.get ha
    have hp : ps[i]? = some y := by
      rw [← S.pre, List.getElem?_take_of_lt (by omega)]; exact h1
    have ndP : ps.Nodup := by rw [← S.pre]; exact S.nd.sublist (List.take_sublist _ _)
    refine ⟨u, rv, ?_⟩
    rcases S.par y (List.mem_of_getElem? hp) with k | k
    · exact .inl ⟨k, bindL_get ndP hp hu k⟩
    · obtain ⟨c, e⟩ := cell_has (n := s.heap.objs.size + 1) k
      refine .inr ⟨.inl k, c, e, ?_⟩
      have q := x.cell y c e
      rw [bindC_get ndP hp hu (by show scope.names.lookup y ≠ _; rw [k]; decide)] at q
      exact q
  · exact e0.hok.fresh (Nat.le_of_lt (x.above y c (PySem.mem_of_lookup h)))
  · unfold start
    show _ = N.length
    rw [List.length_append, List.length_map, List.length_replicate]
    omega
theorem fn_of {CX : CXT} {P : Program} {w : World} {K : PySem.W.Frag} {mg : Str → Option Value} {base : Heap} {k : Nat} {f : Addr} {name qual : Str} {params : Arguments} {body : List Stmt} {scope : Scope} {dV kV doc pm cdv ct oc : Value} {an od : Option Addr}
    {osl : Array (Option Value)} {N ps : List Str} {sp : Sp} (lk : K.lookup f = some ⟨oc, od, .func (PySem.W.fnOf name qual params body scope dV kV doc pm an cdv ct), osl⟩) (hcd : PySem.W.codeIn K cdv qual = true) (S : FnScope N ps scope)
    (len : ∀ vs H Q E, sp vs H Q E → vs.length = ps.length)
    (hbody : ∀ (A : Around) (outer : List Env) (s : Shared) (H : Hp) (vs : List V) (Q : VK) (E : XK), Room k (A.deeper (envOfC qual scope s.heap.objs.size f cdv)) → sp vs H Q E →
      ∃ t, PSs (cxOf CX P w K mg base N qual scope f cdv A outer s H E) body t ∧ t { nx := fun _ H' => Q .non H', rt := Q } (start N vs) H) :
    FnOk P w K mg base CX (k + 1) f (PySem.W.fnOf name qual params body scope dV kV doc pm an cdv ct) ps sp := by
  refine ⟨len, fun A outer s H args us vs Q E hr e0 hb r hsp => ?_⟩
  have hl := len _ _ _ _ hsp
  have KX : K.In s.heap := e0.mod.kin.keeps fun b o e => (e0.bs b o e).1
  have lim : s.heap.NoLimit := e0.mod.nolimit.keeps fun b o e => (e0.bs b o e).1
  have hkind : ∀ y ∈ ps.zip us, scope.names.lookup y.1 = some .local ∨ (scope.names.lookup y.1 = some .cell ∧ ((cellsFrom (s.heap.objs.size + 1) scope.names []).lookup y.1).isSome = true) := fun ⟨n, v⟩ hy => by
    rcases S.par n (List.of_mem_zip hy).1 with q | q
    · exact .inl q
    · exact .inr ⟨q, PySem.W.cellsFrom_some _ _ _ (.inl q)⟩
  refine codeAny_call_function hr.depth (KX _ _ lk) rfl S.co S.gen rfl (PySem.W.codeRec_of KX hcd) (hb _ _ _ _ ?_)
  refine wpAny_newFunctionEnv_cells S.kind hkind fun env he s1 x => ?_
  subst he
  refine ⟨lim.keeps x.toInCall.keep, codeAny_func ?_⟩
  obtain ⟨t, ht, hq⟩ := hbody A outer s H vs Q E (hr.deeper _) hsp
  have I : Inv (cxOf CX P w K mg base N qual scope f cdv A outer s H E) [] (start N vs) H s1 := inv_start S hr.hd e0 hl r x
  refine wpAny_mono (ht [] s1 (start N vs) H _ I hq) (fun fl s' hs => ?_) fun e s' hs => hs
  have fin : ∀ {σ' : St} {H' : Hp} {v : V} {u : Value}, Inv (cxOf CX P w K mg base N qual scope f cdv A outer s H E) [] σ' H' s' → RelV v u → Q v H' → CE outer P w H s Q u s' :=
    fun {σ' H' v u} J rv q => ⟨v, H', J.os, J.bare, J.base, J.hok, rv, q⟩
  cases fl with
  | ret u =>
    obtain ⟨v, σ', H', J, rv, q⟩ := hs
    exact fin J rv q
  | next =>
    obtain ⟨σ', H', J, q⟩ := hs
    exact fin (v := V.non) (u := Value.none) J rfl q
  | brk =>
    obtain ⟨_, _, _, q⟩ := hs
    exact False.elim q
  | cont =>
    obtain ⟨_, _, _, q⟩ := hs
    exact False.elim q
end L2
namespace L2
open PySem PySem.Spec PyProof.Rows
section
variable {X : Cx} {x : Str} {p pos : Pos} {e : Expr} {es : List Expr} {t : TA} {id T : String} {r : List V → Hp → VK → Prop}
noncomputable def tCB (r : List V → Hp → VK → Prop) (t : TA) : TE := fun σ H Q => t σ H fun vs H1 => r vs H1 Q
theorem pe_callB (hc : CallR X (.builtin id) r) (hg : Gl X x) (hm : X.mg x = none) (hv : bootBuiltins x = some (.builtin id)) (ha : PA X (e :: es) t) (hn : x ≠ "__name__" := by decide) (hdb : (x == ("__debug__" : Str)) = false := by decide)
    (he : starEach (e :: es) X.env = (false, eval e X.env) :: starEach es X.env := by rfl) (hpl : (backTo pos (starEach es X.env)).any (·.1) = false := by rfl) : PE X (.Call (.Name x p) (e :: es) [] pos) (tCB r t) := by
  intro pins s σ H Q I h
  refine wpAny_Call_Name_kw (ld_blt I hg hm hv ?_ hn hdb)
  exact PyProof.Rows.callWith_builtin1 (thn (ha pos pins s σ H _ I h) fun us s1 ⟨vs, H1, I1, r1, q1⟩ => hc pins s1 σ H1 vs us Q I1 r1 q1) he hpl
theorem pe_callTy (hc : CallR X (.type T) r) (hg : Gl X x) (hm : X.mg x = none) (hv : bootBuiltins x = some (.type T)) (ha : PA X (e :: es) t) (hn : x ≠ "__name__" := by decide) (hdb : (x == ("__debug__" : Str)) = false := by decide)
    (he : starEach (e :: es) X.env = (false, eval e X.env) :: starEach es X.env := by rfl) (hpl : (backTo pos (starEach es X.env)).any (·.1) = false := by rfl) : PE X (.Call (.Name x p) (e :: es) [] pos) (tCB r t) := by
  intro pins s σ H Q I h
  refine wpAny_Call_Name_kw (ld_blt I hg hm hv ?_ hn hdb)
  exact PyProof.Rows.callWith_type1 (thn (ha pos pins s σ H _ I h) fun us s1 ⟨vs, H1, I1, r1, q1⟩ => hc pins s1 σ H1 vs us Q I1 r1 q1) he hpl
end
end L2
namespace HT
open PySem PyProof.Rows
section
open PySem.SeqAt
open PySem.AutoSeq1 (wpAny_loadPart')
open PySem.MeetsSeq PySem.MeetsSeq2 PySem.MeetsSeq3
end
section
variable {prog : Program} {w : World} {A : Around} {E : Value → Shared → Prop} {s : Shared}
theorem cat_tup {t b : Addr} {vs ws : List Value} {Q : Value → Shared → Prop} (ht : IsTup s.heap t vs.toArray) (hb : IsTup s.heap b ws.toArray) (hv : vs ≠ [])
    (h1 : ws = [] → Q (.ref t) s) (h2 : ws ≠ [] → Q (.ref s.heap.objs.size) { s with heap := s.heap.push { cls := .type "tuple", data := .seq (vs ++ ws).toArray } })
    (hsz : vs.length + ws.length ≤ sizeLine) : wpAny (model prog w) A (binaryOp .Add (.ref t) (.ref b)) Q E s := by
  obtain ⟨⟨cls, dd, data, sl⟩, ho, hc, n, hd⟩ := id ht
  obtain ⟨⟨cls2, dd2, data2, sl2⟩, ho2, hc2, n2, hd2⟩ := id hb
  simp only at hc hd hc2 hd2
  subst hc hd hc2 hd2
  have e : vs.toArray ++ ws.toArray = (vs ++ ws).toArray := by simp
  by_cases hw : ws = []
  · exact concat_meets ⟨_, ho, rfl⟩ ⟨_, ho2, rfl⟩ noFill_tuple_add seq_tuple_add PySem.F.slot_tuple_add PySem.F.entry_tuple_add (PySem.F.args_tuple_add_2 _ _)
      (tuple_addW1 t b vs.toArray ws.toArray n n2 dd dd2 sl sl2 (by simpa using hv) (by simp [hw])) ⟨ho, ho2, h1 hw⟩
  · refine concat_meets ⟨_, ho, rfl⟩ ⟨_, ho2, rfl⟩ noFill_tuple_add seq_tuple_add PySem.F.slot_tuple_add PySem.F.entry_tuple_add (PySem.F.args_tuple_add_2 _ _)
      (tuple_addW2 t b vs.toArray ws.toArray n n2 dd dd2 sl sl2 (by simpa using hv) (by simpa using hw) (by rw [List.size_toArray, List.size_toArray]; exact hsz)) ⟨ho, ho2, ?_⟩
    rw [e]
    exact h2 hw
noncomputable def sIx (n d : Nat) : Option Int → Nat
  | none => d
  | some v => if v < 0 then (v + (n : Int)).toNat else min v.toNat n
theorem sIx_le (n d : Nat) (hd : d ≤ n) (o : Option Int) : sIx n d o ≤ n := by
  cases o with
  | none => exact hd
  | some v =>
    show (if v < 0 then (v + (n : Int)).toNat else min v.toNat n) ≤ n
    by_cases hv : v < 0
    · rw [if_pos hv]; omega
    · rw [if_neg hv]; exact Nat.min_le_right _ _
theorem clip_eq (v : Int) (n d : Nat) : (if v < 0 then max (v + (n : Int)) 0 else min v (n : Int)) = ((sIx n d (some v) : Nat) : Int) := by
  show (if v < 0 then max (v + (n : Int)) 0 else min v (n : Int)) = (((if v < 0 then (v + (n : Int)).toNat else min v.toNat n) : Nat) : Int)
  by_cases hv : v < 0
  · simp only [if_pos hv]; omega
  · simp only [if_neg hv]; omega
theorem adjust_gen (lo hi : Option Int) (n : Nat) : Builtin.Slice.sliceAdjust lo hi 1 (n : Int) = (((sIx n 0 lo : Nat) : Int), ((sIx n n hi : Nat) : Int)) := by
  have h1 : ¬ ((1 : Int) < 0) := by omega
  unfold Builtin.Slice.sliceAdjust
  simp only [h1, if_false]
  refine Prod.ext ?_ ?_
  · cases lo with
    | none => rfl
    | some v => exact clip_eq v n 0
  · cases hi with
    | none => rfl
    | some v => exact clip_eq v n n
theorem places_gen (i j : Nat) : Builtin.Slice.slicePlaces (i : Int) (j : Int) 1 = j - i := by
  unfold Builtin.Slice.slicePlaces
  have h1 : (1 : Int) > 0 := by omega
  simp only [h1, if_true, Int.ediv_one]
  split <;> omega
theorem slicePart_ {v : Value} {o : Option Int} {Q : Option Int → Shared → Prop} (p : IsPart v o) (h : Q o s) : wpAny (model prog w) A (Builtin.Slice.slicePartIndex v) Q E s := by
  cases p with
  | none => exact slicePart_none h
  | int i t => exact slicePart_int h
theorem sliceApplied_gen {sl : Addr} {vl vu : Value} {lo hi : Option Int} {n : Nat} {Q : Int × Int × Nat → Shared → Prop} (hs : s.heap.IsSliceOf sl vl vu .none) (pl : IsPart vl lo) (pu : IsPart vu hi)
    (h : Q (((sIx n 0 lo : Nat) : Int), 1, sIx n n hi - sIx n 0 lo) s) : wpAny (model prog w) A (Builtin.Slice.sliceApplied (.ref sl) (pure (n : Int))) Q E s := by
  obtain ⟨os, hos, hcs, hds⟩ := id hs
  unfold Builtin.Slice.sliceApplied Builtin.Slice.sliceFields
  refine wpAny_bind (wpAny_bind (wpAny_field hos hds (x := vl) rfl (wpAny_bind (wpAny_field hos hds (x := vu) rfl (wpAny_bind (wpAny_field hos hds (x := .none) rfl (wpAny_pure ?_)))))))
  refine wpAny_bind (slicePart_none ?_)
  show wpAny _ _ (if ((1 : Int) == 0) = true then _ else _) _ _ s
  rw [if_neg (by decide)]
  refine wpAny_bind (slicePart_ pl (wpAny_bind (slicePart_ pu (wpAny_bind (wpAny_pure ?_)))))
  show wpAny _ _ (match Builtin.Slice.sliceAdjust lo hi 1 (n : Int) with | (lo, hi) => pure (lo, (1 : Int), Builtin.Slice.slicePlaces lo hi 1)) _ _ s
  rw [adjust_gen lo hi n]
  show wpAny _ _ (pure (((sIx n 0 lo : Nat) : Int), (1 : Int), Builtin.Slice.slicePlaces ((sIx n 0 lo : Nat) : Int) ((sIx n n hi : Nat) : Int) 1)) _ _ s
  rw [places_gen]
  exact wpAny_pure h
theorem pick_gen (xs : Array Value) (i k : Nat) : ((List.range k).filterMap fun (m : Nat) => xs[((i : Int) + (m : Int) * 1).toNat]?).toArray = ((xs.toList.drop i).take k).toArray := by
  have e : (fun (m : Nat) => xs[((i : Int) + (m : Int) * 1).toNat]?) = fun m => xs[i + m]? := by
    funext m
    have : ((i : Int) + (m : Int) * 1).toNat = i + m := by omega
    rw [this]
  rw [e]
  have := pick_run xs i k
  rw [List.filterMap_map] at this
  have e2 : ((fun x => xs[x]?) ∘ fun x => i + x) = fun m => xs[i + m]? := rfl
  rw [e2] at this
  rw [this]
theorem getItem_tuple_cut {t sl : Addr} {items : Array Value} {vl vu : Value} {lo hi : Option Int} {Q : Value → Shared → Prop} (ht : IsTup s.heap t items) (hs : s.heap.IsSliceOf sl vl vu .none) (pl : IsPart vl lo) (pu : IsPart vu hi)
    (hw : ¬ (sIx items.size 0 lo = 0 ∧ sIx items.size items.size hi = items.size))
    (h : Q (.ref s.heap.objs.size) { s with heap := s.heap.push { cls := .type "tuple", data := .seq ((items.toList.drop (sIx items.size 0 lo)).take (sIx items.size items.size hi - sIx items.size 0 lo)).toArray } })
    (hsz : items.size ≤ sizeLine) : wpAny (model prog w) A (getItem (.ref t) (.ref sl)) Q E s := by
  have htake : sizeOk (.seq ((items.toList.drop (sIx items.size 0 lo)).take (sIx items.size items.size hi - sIx items.size 0 lo)).toArray) := by
    show ((items.toList.drop (sIx items.size 0 lo)).take (sIx items.size items.size hi - sIx items.size 0 lo)).toArray.size ≤ sizeLine
    rw [List.size_toArray, List.length_take, List.length_drop, Array.length_toList]
    omega
  have hj : sIx items.size items.size hi ≤ items.size := sIx_le _ _ (Nat.le_refl _) hi
  obtain ⟨os, hos, hcs, hds⟩ := id hs
  have hTs : s.TypeIs (.ref sl) "slice" := ⟨os, hos, hcs⟩
  unfold getItem
  try with_reducible refine wpAny_holding ?_
  first | refine wpAny_bind (wpAny_pure ?_) | skip
  refine wpAny_bind (wpAny_sequenceKey ht.typeIs (by decide) ?_)
  refine wpAny_bind (wpAny_callSpecial?_slot (name := Str.ofString "__getitem__") ht.typeIs PyProof.Rows.slot_tuple_getitem
    (wpAny_call_entry PyProof.Rows.slot_tuple_getitem ht.typeIs entry_tuple_getitem ?_ (args_tuple_getitem _ _)))
  show wpAny _ _ (Builtin.Tuple.tupleItemsOf (.ref t) >>= _) _ _ s
  refine wpAny_bind (tupleItemsOf_ ht ?_)
  refine wpAny_bind (wpAny_typeOf hTs ?_)
  rw [if_pos (by decide)]
  refine wpAny_bind (sliceApplied_gen hs pl pu ?_)
  have hno : ¬ ((((sIx items.size 0 lo : Nat) : Int) == 0 && (1 : Int) == 1 && (sIx items.size items.size hi - sIx items.size 0 lo) == items.size) = true) := by
    intro q
    rw [Bool.and_eq_true, Bool.and_eq_true] at q
    have q1 : ((sIx items.size 0 lo : Nat) : Int) = 0 := eq_of_beq q.1.1
    have q2 : sIx items.size items.size hi - sIx items.size 0 lo = items.size := eq_of_beq q.2
    exact hw ⟨by omega, by omega⟩
  show wpAny _ _ (if (((sIx items.size 0 lo : Nat) : Int) == 0 && (1 : Int) == 1 && (sIx items.size items.size hi - sIx items.size 0 lo) == items.size) = true then _ else _) _ _ s
  rw [if_neg hno, pick_gen]
  first
    | exact wpAny_bind (m := Builtin.Tuple.tupleExact _) (wpAny_newObj_type (wpAny_pure ⟨_, rfl, wpAny_pure h⟩) htake)
    | exact wpAny_bind (m := Builtin.Tuple.tupleExact _) (wpAny_newObj_type (wpAny_bind (wpAny_pure (wpAny_pure ⟨_, rfl, wpAny_pure h⟩))) htake)
    | exact wpAny_bind (wpAny_bind (m := Builtin.Tuple.tupleExact _) (wpAny_newObj_type (wpAny_pure (wpAny_pure ⟨_, rfl, wpAny_pure h⟩)) htake))
    | exact wpAny_bind (wpAny_bind (m := Builtin.Tuple.tupleExact _) (wpAny_newObj_type (wpAny_pure ⟨_, rfl, wpAny_pure h⟩) htake))
end
end HT
namespace L2
open PySem PySem.Spec PyProof.Rows
noncomputable abbrev TO := St → Hp → (Option Int → Hp → Prop) → Prop
noncomputable def PO (X : Cx) (e : Option Expr) (t : TO) : Prop :=
  ∀ (pins : List (Addr × Obj)) (s : Shared) (σ : St) (H : Hp) (Q : Option Int → Hp → Prop), Inv X pins σ H s → t σ H Q →
    wpAny (model X.prog X.w) X.A (evalPart e X.env) (fun u s' => ∃ o H', Inv X pins σ H' s' ∧ IsPart u o ∧ Q o H') X.xe s
noncomputable def tNoPart : TO := fun _ H Q => Q none H
noncomputable def tPart (t : TE) : TO := fun σ H Q => t σ H fun x H1 => ∃ i, x = .int i ∧ Q (some i) H1
section
variable {X : Cx} {e : Expr} {te : TE} {lo hi : Option Expr} {tl th : TO} {pos p2 : Pos}
theorem po_none : PO X none tNoPart := by
  intro pins s σ H Q I h
  rw [evalPart_none]
  exact wpAny_pure ⟨none, H, I, .none, h⟩
theorem po_some (h : PE X e te) : PO X (some e) (tPart te) := by
  intro pins s σ H Q I hw
  rw [evalPart_some]
  refine thn (h pins s σ H _ I hw) fun u s1 hpt9 => ?_
  obtain ⟨x, H1, I1, r1, q1⟩ := hpt9
  obtain ⟨i, rfl, q⟩ := q1
  obtain ⟨t, rfl⟩ := r1
  exact ⟨some i, H1, I1, .int i t, q⟩
noncomputable def SlR (X : Cx) (r : V → Option Int → Option Int → Hp → VK → Prop) : Prop :=
  ∀ (pins : List (Addr × Obj)) (s : Shared) (σ : St) (H : Hp) (x : V) (v vl vu : Value) (lo hi : Option Int) (sl : Addr) (Q : VK), Inv X pins σ H s → RelV x v → s.heap.IsSliceOf sl vl vu .none → IsPart vl lo → IsPart vu hi → r x lo hi H Q →
    ∃ T id, typeLookup (.type T) "__getitem__" = pure (some (.builtin id)) ∧ s.TypeIs v T ∧ wpAny (model X.prog X.w) X.A (getItem v (.ref sl)) (EP X pins σ Q) X.xe s
theorem SlR.or {r r' : V → Option Int → Option Int → Hp → VK → Prop} (h : SlR X r) (h' : SlR X r') : SlR X (fun x lo hi H Q => r x lo hi H Q ∨ r' x lo hi H Q) := by
  intro pins s σ H x v vl vu lo hi sl Q I rx hs pl pu q
  rcases q with q | q
  · exact h pins s σ H x v vl vu lo hi sl Q I rx hs pl pu q
  · exact h' pins s σ H x v vl vu lo hi sl Q I rx hs pl pu q
noncomputable def tSl (r : V → Option Int → Option Int → Hp → VK → Prop) (te : TE) (tl th : TO) : TE := fun σ H Q => te σ H fun x H1 => tl σ H1 fun l H2 => th σ H2 fun u H3 => r x l u H3 Q
theorem pe_slice {r : V → Option Int → Option Int → Hp → VK → Prop} (hr : SlR X r) (he : PE X e te) (hl : PO X lo tl) (hu : PO X hi th) : PE X (.Subscript e (.Slice lo hi none p2) pos) (tSl r te tl th) := by
  intro pins s σ H Q I h
  refine Subscript_ (thn (he pins s σ H _ I h) fun v s1 hpt9 => ?_)
  obtain ⟨x, H1, I1, r1, q1⟩ := hpt9
  refine wpAny_Slice (thn (hl pins s1 σ H1 _ I1 q1) fun vl s2 ⟨l, H2, I2, pl, q2⟩ => thn (hu pins s2 σ H2 _ I2 q2) fun vu s3 hpt9 => ?_)
  obtain ⟨u, H3, I3, pu, q3⟩ := hpt9
  rw [evalPart_none]
  refine wpAny_pure ?_
  have I4 : Inv X pins σ H3 { s3 with heap := s3.heap.push { cls := .type "slice", data := .fields #[vl, vu, .none] } } := I3.kept (t' := s3.toks) fun b ob q => Heap.get?_push_of_some _ q
  obtain ⟨T, id, hT, ht, hg⟩ := hr pins { s3 with heap := s3.heap.push { cls := .type "slice", data := .fields #[vl, vu, .none] } } σ H3 x v vl vu l u s3.heap.objs.size Q I4 r1 (Heap.IsSliceOf.new ..) pl pu q3
  show wpAny (model X.prog X.w) X.A (subscriptTail e (.Slice lo hi none p2) v (.ref s3.heap.objs.size)) (EP X pins σ Q) X.xe { s3 with heap := s3.heap.push { cls := .type "slice", data := .fields #[vl, vu, .none] } }
  exact tail_any (ops := [.ref s3.heap.objs.size, v]) ht hT hg (by with_unfolding_all rfl)
noncomputable def cutV (xs : List V) (lo hi : Option Int) : List V := (xs.drop (HT.sIx xs.length 0 lo)).take (HT.sIx xs.length xs.length hi - HT.sIx xs.length 0 lo)
theorem cutV_length (xs : List V) (lo hi : Option Int) : (cutV xs lo hi).length ≤ xs.length := by
  unfold cutV
  rw [List.length_take, List.length_drop]
  omega
noncomputable def rSlT (K : PySem.W.Frag) : V → Option Int → Option Int → Hp → VK → Prop := fun x lo hi H Q => ∃ a xs, x = .ref a ∧ SqT K H a xs ∧
  ¬ (HT.sIx xs.length 0 lo = 0 ∧ HT.sIx xs.length xs.length hi = xs.length) ∧ ∀ p, H p = none → Q (.ref p) (upd H p (.tup (cutV xs lo hi)))
theorem sl_tup : SlR X (rSlT X.K) := by
  intro pins s σ H x v vl vu lo hi sl Q I rx hs pl pu h
  obtain ⟨a, xs, rfl, hx, hw, q⟩ := h
  cases rx
  obtain ⟨its, r, ht, hz⟩ := I.tuple hx
  have hlen : its.toArray.size = xs.length := by rw [List.size_toArray]; exact r.length.symm
  refine ⟨"tuple", _, PyProof.Rows.slot_tuple_getitem.lookup, ht.typeIs, ?_⟩
  refine HT.getItem_tuple_cut ht hs pl pu (by rw [hlen]; exact hw) ?_ (by rw [hlen]; exact hz)
  rw [hlen]
  refine ⟨.ref s.heap.objs.size, _, I.laid (t' := s.toks) (o := .tup (cutV xs lo hi)) (fun b ob q => Heap.get?_push_of_some _ q) (Nat.le_refl _) ?_, rfl, q _ (I.hok.fresh (Nat.le_refl _))⟩
  exact ⟨Nat.le_trans (cutV_length xs lo hi) hz, _, (r.drop (HT.sIx xs.length 0 lo)).take (HT.sIx xs.length xs.length hi - HT.sIx xs.length 0 lo), IsTup.new _ _⟩
theorem Vals.nil_iff {xs : List V} {us : List Value} (r : Vals xs us) : us = [] ↔ xs = [] := by
  cases r with
  | nil => simp
  | cons _ _ => simp
end
end L2
namespace L2
open PySem PySem.Spec PyProof.Rows
noncomputable def ixN (n : Nat) (i : Int) : Option Nat := if 0 ≤ i then (if i < n then some i.toNat else none) else if -(n : Int) ≤ i then some (i + n).toNat else none
noncomputable def atI {α : Type} (xs : List α) (i : Int) : Option α := (ixN xs.length i).bind fun j => xs[j]?
theorem ixN_seq {n : Nat} {i : Int} {j : Nat} (h : ixN n i = some j) : seqIndex? i n = some j ∧ j < n ∧ -(n : Int) ≤ i ∧ i < n := by
  unfold ixN at h
  by_cases h0 : 0 ≤ i
  · rw [if_pos h0] at h
    by_cases h1 : i < n
    · rw [if_pos h1] at h
      have e : i.toNat = j := Option.some.inj h
      exact ⟨by rw [seqIndex_of h0 h1, e], by omega, by omega, h1⟩
    · rw [if_neg h1] at h; cases h
  · rw [if_neg h0] at h
    by_cases h1 : -(n : Int) ≤ i
    · rw [if_pos h1] at h
      have e : (i + n).toNat = j := Option.some.inj h
      exact ⟨by rw [seqIndex_neg (by omega) h1, e], by omega, h1, by omega⟩
    · rw [if_neg h1] at h; cases h
theorem atI_get {α : Type} {xs : List α} {i : Int} {v : α} (h : atI xs i = some v) : ∃ j, seqIndex? i xs.length = some j ∧ xs[j]? = some v ∧ j < xs.length ∧ -(xs.length : Int) ≤ i ∧ i < xs.length := by
  unfold atI at h
  cases e : ixN xs.length i with
  | none => rw [e] at h; cases h
  | some j =>
    rw [e] at h
    obtain ⟨h1, h2, h3, h4⟩ := ixN_seq e
    exact ⟨j, h1, h, h2, h3, h4⟩
noncomputable def PlainIx (b : Expr) : Prop := ∀ o i, subscripted b false o i = operate [o, i] (getItem o i)
noncomputable def IxR (X : Cx) (r : R2) : Prop :=
  ∀ (value slice : Expr) (pins : List (Addr × Obj)) (s : Shared) (σ : St) (H : Hp) (x y : V) (v u : Value) (Q : VK), Inv X pins σ H s → RelV x v → RelV y u → r x y H Q →
    subscripted slice false v u = operate [v, u] (getItem v u) → wpAny (model X.prog X.w) X.A (subscriptTail value slice v u) (EP X pins σ Q) X.xe s
noncomputable def MtR (X : Cx) (id : String) (r : V → List V → Hp → VK → Prop) : Prop :=
  ∀ (pins : List (Addr × Obj)) (s : Shared) (σ : St) (H : Hp) (x : V) (xs : List V) (v : Value) (us : List Value) (Q : VK), Inv X pins σ H s → RelV x v → Vals xs us → r x xs H Q →
    wpAny (model X.prog X.w) X.A (call (.builtin id) (v :: us)) (EP X pins σ Q) X.xe s
section
variable {X : Cx} {a b : Expr} {ta tb : TE} {pos : Pos}
theorem IxR.or {r r' : R2} (h : IxR X r) (h' : IxR X r') : IxR X (fun x y H Q => r x y H Q ∨ r' x y H Q) := by
  intro value slice pins s σ H x y v u Q I rx ry q hs
  rcases q with q | q
  · exact h value slice pins s σ H x y v u Q I rx ry q hs
  · exact h' value slice pins s σ H x y v u Q I rx ry q hs
theorem pe_ix {r : R2} (hr : IxR X r) (ha : PE X a ta) (hb : PE X b tb) (hs : PlainIx b) : PE X (.Subscript a b pos) (tOp r ta tb) := by
  intro pins s σ H Q I h
  exact Subscript_ (binT ha hb I h fun v u s2 x y H2 I2 rx ry q => hr a b pins s2 σ H2 x y v u Q I2 rx ry q (hs _ _))
noncomputable def rIxL (K : PySem.W.Frag) : R2 := fun x y H Q => ∃ p xs i v, x = .ref p ∧ y = .int i ∧ SqL K H p xs ∧ atI xs i = some v ∧ Q v H
noncomputable def rIxT (K : PySem.W.Frag) : R2 := fun x y H Q => ∃ p xs i v, x = .ref p ∧ y = .int i ∧ SqT K H p xs ∧ atI xs i = some v ∧ Q v H
noncomputable def rIxS : R2 := fun x y H Q => ∃ z i c, x = .str z ∧ y = .int i ∧ z.length ≤ sizeLine ∧ atI z.cps.toList i = some c ∧ Q (.str ⟨#[c]⟩) H
theorem ix_list : IxR X (rIxL X.K) := by
  intro value slice pins s σ H x y v u Q I rx ry h hs
  obtain ⟨p, xs, i, z, rfl, rfl, hq, he, q⟩ := h
  cases rx
  obtain ⟨t, rfl⟩ := ry
  obtain ⟨its, r, pl, hz⟩ := I.list hq
  obtain ⟨j, h1, h2, h3, h4, h5⟩ := atI_get he
  obtain ⟨w, ew, rw'⟩ := r.get h2
  have hl := r.length
  have hn := line63
  have fin : EP X pins σ Q w s := ⟨z, H, I, rw', q⟩
  by_cases h0 : 0 ≤ i
  · have hj : i.toNat = j := by
      rw [seqIndex_of h0 h5] at h1
      exact Option.some.inj h1
    exact item_listR pl.isList h0 (by omega) (by rw [hj]; simpa using ew) fin hs
  · have hj : (i + (its.toArray.size : Int)).toNat = j := by
      rw [seqIndex_neg (by omega) h4] at h1
      rw [List.size_toArray, ← hl]
      exact Option.some.inj h1
    exact subscriptTail_builtinR (x := w) pl.isList.typeIs slot_list_getitem.lookup
      (wpAny_getItem_list_neg (Q := fun r s' => r = w ∧ EP X pins σ Q r s') pl.isList (by omega) (by rw [List.size_toArray] <;> omega) (by omega) (by rw [hj]; simpa using ew) ⟨rfl, fin⟩) hs
theorem ix_tup : IxR X (rIxT X.K) := by
  intro value slice pins s σ H x y v u Q I rx ry h hs
  obtain ⟨p, xs, i, z, rfl, rfl, hq, he, q⟩ := h
  cases rx
  obtain ⟨t, rfl⟩ := ry
  obtain ⟨its, r, pl, hz⟩ := I.tuple hq
  obtain ⟨j, h1, h2, h3, h4, h5⟩ := atI_get he
  obtain ⟨w, ew, rw'⟩ := r.get h2
  have hl := r.length
  have hn := line63
  have fin : EP X pins σ Q w s := ⟨z, H, I, rw', q⟩
  exact subscriptTail_builtinR (x := w) pl.typeIs slot_tuple_getitem.lookup
    (getItem_tuple (j := j) (Q := fun r s' => r = w ∧ EP X pins σ Q r s') pl (by omega) (by omega) (by rw [List.size_toArray, ← hl]; exact h1) (by simpa using ew) ⟨rfl, fin⟩) hs
theorem ix_str : IxR X rIxS := by
  intro value slice pins s σ H x y v u Q I rx ry h hs
  obtain ⟨z, i, c, rfl, rfl, hz, he, q⟩ := h
  obtain ⟨t, rfl⟩ := rx
  obtain ⟨t', rfl⟩ := ry
  obtain ⟨j, h1, h2, h3, h4, h5⟩ := atI_get he
  have hl : z.cps.toList.length = z.length := by simp [Str.length]
  rw [hl] at h1 h4 h5
  have hn := line63
  exact tail_any (typeIs_str s z t) slot_str_getitem.lookup (getItem_str (c := c) (by
    have e1 : decide (i < -(2 ^ 63 : Int)) = false := decide_eq_false (by omega)
    have e2 : decide (i ≥ 2 ^ 63) = false := decide_eq_false (by omega)
    rw [e1, e2, Bool.or_false]) (by rw [h1]; simpa using h2) ⟨.str ⟨#[c]⟩, H, I.tok _, ⟨_, rfl⟩, q⟩) hs
noncomputable def rIx (K : PySem.W.Frag) : R2 := fun x y H Q => rIxL K x y H Q ∨ rIxT K x y H Q ∨ rIxS x y H Q
theorem ix_seq : IxR X (rIx X.K) := ix_list.or (ix_tup.or ix_str)
theorem Inv.lst {pins : List (Addr × Obj)} {σ : St} {H : Hp} {s : Shared} {p : Addr} {xs : List V} (I : Inv X pins σ H s) (h : H p = some (.lst xs)) :
    ∃ (its : List Value) (n : Nat), Vals xs its ∧ s.heap.get? p = some { cls := .type "list", data := .seq its.toArray n } ∧ xs.length ≤ sizeLine := by
  obtain ⟨z, its, n, r, e⟩ := I.hok p _ h
  exact ⟨its, n, r, e, z⟩
theorem slice_bounds (lo hi : Option Int) (n : Nat) : (sliceBounds lo hi none n).1 = ((HT.sIx n 0 lo : Nat) : Int) ∧ (sliceBounds lo hi none n).2.1 = ((HT.sIx n n hi : Nat) : Int) ∧ (sliceBounds lo hi none n).2.2 = 1 := by
  refine ⟨?_, ?_, rfl⟩
  · cases lo with
    | none => simp [sliceBounds, HT.sIx]
    | some i =>
      simp only [sliceBounds, HT.sIx, Option.getD_none, show (1 : Int) > 0 by decide, if_true]
      by_cases h : i < 0
      · simp only [h, if_true] <;> omega
      · simp only [h, if_false] <;> omega
  · cases hi with
    | none => simp [sliceBounds, HT.sIx]
    | some i =>
      simp only [sliceBounds, HT.sIx, Option.getD_none, show (1 : Int) > 0 by decide, if_true]
      by_cases h : i < 0
      · simp only [h, if_true] <;> omega
      · simp only [h, if_false] <;> omega
theorem slicePick_cut (its : List Value) (lo hi : Option Int) : slicePick its.toArray lo hi none = ((its.drop (HT.sIx its.length 0 lo)).take (HT.sIx its.length its.length hi - HT.sIx its.length 0 lo)).toArray := by
  obtain ⟨h1, h2, h3⟩ := slice_bounds lo hi its.toArray.size
  unfold slicePick
  rw [h1, h2, h3]
  simp only [sliceRange_one, pick_run, List.size_toArray] <;> rfl
noncomputable def rSlL (K : PySem.W.Frag) : V → Option Int → Option Int → Hp → VK → Prop := fun x lo hi H Q => ∃ a xs, x = .ref a ∧ SqL K H a xs ∧ ∀ p, H p = none → Q (.ref p) (upd H p (.lst (cutV xs lo hi)))
theorem sl_list : SlR X (rSlL X.K) := by
  intro pins s σ H x v vl vu lo hi sl Q I rx hs pl pu h
  obtain ⟨a, xs, rfl, hx, q⟩ := h
  cases rx
  obtain ⟨its, r, ht, hz⟩ := I.list hx
  have hlen := r.length
  refine ⟨"list", _, slot_list_getitem.lookup, ht.isList.typeIs, ?_⟩
  refine wpAny_getItem_list_slice ht.isList hs pl pu .none (by simp) ?_ (by rw [List.size_toArray] <;> omega)
  rw [slicePick_cut, ← hlen]
  refine ⟨.ref s.heap.objs.size, _, I.laid (t' := s.toks) (o := .lst (cutV xs lo hi)) (fun b ob q => Heap.get?_push_of_some _ q) (Nat.le_refl _) ?_, rfl, q _ (I.hok.fresh (Nat.le_refl _))⟩
  exact ⟨Nat.le_trans (cutV_length xs lo hi) hz, _, 0, (r.drop (HT.sIx xs.length 0 lo)).take (HT.sIx xs.length xs.length hi - HT.sIx xs.length 0 lo), Heap.get?_push_size _ rfl⟩
noncomputable def tyV (K : PySem.W.Frag) (T : String) (x : V) (H : Hp) : Prop := match x with
  | .str _ => T = "str"
  | .int _ => T = "int"
  | .ref p => (T = "list" ∧ ∃ xs, SqL K H p xs) ∨ (T = "tuple" ∧ ∃ o, K.lookup p = some o ∧ o.cls = .type "tuple" ∧ o.dict = none) ∨
      (T = "dict" ∧ ((∃ kvs, H p = some (.dK kvs)) ∨ ∃ kvs, H p = some (.dT kvs))) ∨ (T = "set" ∧ ∃ S n, H p = some (.set S n))
  | _ => False
theorem tyV_is {pins : List (Addr × Obj)} {σ : St} {H : Hp} {s : Shared} {T : String} {x : V} {v : Value} (I : Inv X pins σ H s) (r : RelV x v) (ty : tyV X.K T x H) :
    s.TypeIs v T ∧ ∀ a, v = .ref a → ∃ ob, s.heap.get? a = some ob ∧ ob.dict = none := by
  cases x with
  | str z =>
    obtain ⟨t, rfl⟩ := r
    cases (show T = "str" from ty)
    exact ⟨typeIs_str s z t, fun _ e => nomatch e⟩
  | int i =>
    obtain ⟨t, rfl⟩ := r
    cases (show T = "int" from ty)
    exact ⟨typeIs_int s i t, fun _ e => nomatch e⟩
  | ref p =>
    cases r
    rcases ty with ⟨rfl, xs, hq⟩ | ⟨rfl, o, hk, hc, hd⟩ | ⟨rfl, hk⟩ | ⟨rfl, S, n, hk⟩
    · obtain ⟨its, _, pl, _⟩ := I.list hq
      refine ⟨pl.isList.typeIs, fun a e => ?_⟩
      cases e
      obtain ⟨o, n, e, c, hd, _⟩ := pl
      exact ⟨o, e, hd⟩
    · refine ⟨⟨o, I.kIn p o hk, hc⟩, fun a e => ?_⟩
      cases e
      exact ⟨o, I.kIn _ o hk, hd⟩
    · have z : ∃ o, s.heap.get? p = some o ∧ o.ExactDict := by
        rcases hk with ⟨kvs, hk⟩ | ⟨kvs, hk⟩
        · obtain ⟨_, _, _, _, o, _, _, e, ex, _⟩ := I.hok p _ hk
          exact ⟨o, e, ex⟩
        · obtain ⟨_, _, _, _, o, _, _, e, ex, _⟩ := I.hok p _ hk
          exact ⟨o, e, ex⟩
      obtain ⟨o, e, ex⟩ := z
      refine ⟨⟨o, e, ex.1⟩, fun a e2 => ?_⟩
      cases e2
      exact ⟨o, e, ex.2.1⟩
    · obtain ⟨o, _, _, _, e, ex, _⟩ := I.hok p _ hk
      refine ⟨⟨o, e, ex.1⟩, fun a e2 => ?_⟩
      cases e2
      exact ⟨o, e, ex.2.1⟩
  | _ => exact False.elim ty
noncomputable def tBM (K : PySem.W.Frag) (T : String) (r : V → List V → Hp → VK → Prop) (to : TE) (t : TA) : TE := fun σ H Q => to σ H fun x H1 => tyV K T x H1 ∧ t σ H1 fun xs H2 => r x xs H2 Q
variable {o e : Expr} {es : List Expr} {to : TE} {t : TA} {name : Str} {apos cpos : Pos} {T id : String} {r : V → List V → Hp → VK → Prop}
theorem pe_bm (pa : PlainAttrs T) (slot : Slot T name id) (hty : typeOf (.builtin id) = pure (.type "method_descriptor")) (hm : MtR X id r) (ho : PE X o to) (ha : PA X (e :: es) t)
    (hbase : attributeBase o name X.env (eval o X.env) = eval o X.env := by rfl)
    (hfew : ((backTo cpos (starEach (e :: es) X.env)).all (fun x => !x.1) && (backToKw cpos (keywordEach [] X.env)).all (fun x => x.1.isSome)
      && decide ((e :: es).length + ([] : List Keyword).length + (if ([] : List Keyword).isEmpty then 0 else 1) < 30)) = true := by rfl)
    (hline : (apos.endLine == cpos.line) = true := by rfl) (hs : starEach (e :: es) X.env = (false, eval e X.env) :: starEach es X.env := by rfl) (hplain : (backTo cpos (starEach es X.env)).any (·.1) = false := by rfl) :
    PE X (.Call (.Attribute o name apos) (e :: es) [] cpos) (tBM X.K T r to t) := by
  intro pins s σ H Q I h
  refine wpAny_Call_method_late hbase hfew hline rfl (thn (ho pins s σ H _ I h) fun v s1 hpt9 => ?_)
  obtain ⟨x, H1, I1, r1, ty, q1⟩ := hpt9
  obtain ⟨h1, h2⟩ := tyV_is I1 r1 ty
  refine ⟨T, id, pa, slot, hty, h1, h2, ?_⟩
  have hA := ha cpos pins s1 σ H1 _ I1 q1
  rw [hs] at hA ⊢
  refine Calls.callWith_builtin (by show (false || (backTo cpos (starEach es X.env)).any (·.1)) = false; rw [hplain] <;> rfl) (Calls.evalArgs_plain ?_)
  exact thn hA fun us s2 ⟨vs, H2, I2, r2, q2⟩ => hm pins s2 σ H2 x vs v us Q I2 r1 r2 q2
end
end L2
namespace L2
open PySem PySem.Spec PyProof.Rows
noncomputable def MtM (X : Cx) (id : String) (r : V → List V → Hp → VK → Prop) : Prop :=
  ∀ (pins : List (Addr × Obj)) (s : Shared) (σ : St) (H : Hp) (x : V) (xs : List V) (v : Value) (us : List Value) (Q : VK), Inv X pins σ H s → RelV x v → Vals xs us → r x xs H Q →
    wpAny (model X.prog X.w) X.A (call (.builtin id) (v :: us)) (EP X pins σ Q) X.xe s
theorem Vals.one {x : V} {us : List Value} (h : Vals [x] us) : ∃ u, us = [u] ∧ RelV x u := by
  cases h with
  | cons r t => cases t; exact ⟨_, rfl, r⟩
theorem Vals.two {x y : V} {us : List Value} (h : Vals [x, y] us) : ∃ u v, us = [u, v] ∧ RelV x u ∧ RelV y v := by
  cases h with
  | cons r t =>
    cases t with
    | cons q t => cases t; exact ⟨_, _, rfl, r, q⟩
section
variable {X : Cx} {pins : List (Addr × Obj)} {σ : St} {H : Hp} {s : Shared} {l b : Addr} {xs ys zs : List V}
theorem Inv.lset {its its' : List Value} {n : Nat} {f : Array Value → Array Value} {t' : Nat} (I : Inv X pins σ H s) (hH : H l = some (.lst xs))
    (e : s.heap.get? l = some { cls := .type "list", data := .seq its.toArray n }) (hf : f its.toArray = its'.toArray) (hv : Vals ys its') (hz : ys.length ≤ sizeLine) :
    Inv X pins σ (upd H l (.lst ys)) { s with heap := s.heap.update l (Obj.mapSeq f), toks := t' } := by
  have q := PySem.IsL.update e f
  rw [hf] at q
  refine I.write (x := l) (e := l) (by rw [hH]; exact trivial) (.inl rfl) (fun b' u hb hu => (Heap.get?_update_other s.heap (Obj.mapSeq f) (Ne.symm hb)).trans hu) ⟨_, q⟩ ?_
  exact ⟨hz, its', _, hv, q⟩
theorem Inv.lnew {its : List Value} {t' : Nat} (I : Inv X pins σ H s) (hv : Vals ys its) (hz : ys.length ≤ sizeLine) :
    Inv X pins σ (upd H s.heap.objs.size (.lst ys)) { s with heap := s.heap.push { cls := .type "list", data := .seq its.toArray }, toks := t' } :=
  I.laid (fun _ _ q => Heap.get?_push_of_some _ q) (Nat.le_refl _) ⟨hz, its, 0, hv, Heap.get?_push_size _ rfl⟩
theorem Inv.fresh (I : Inv X pins σ H s) : H s.heap.objs.size = none := I.hok.fresh (Nat.le_refl _)
theorem Inv.lstM (I : Inv X pins σ H s) (hH : H l = some (.lst xs)) : xs.length ≤ sizeLine ∧ ∃ (its : List Value) (n : Nat), Vals xs its ∧ xs.length = its.length ∧ s.heap.get? l = some { cls := .type "list", data := .seq its.toArray n } := by
  obtain ⟨z, its, n, r, e⟩ := I.hok l _ hH
  exact ⟨z, its, n, r, r.length, e⟩
end
section
variable {X : Cx}
noncomputable def rAppend : V → List V → Hp → VK → Prop := fun x vs H Q => ∃ l xs y, x = .ref l ∧ vs = [y] ∧ H l = some (.lst xs) ∧ xs.length < sizeLine ∧ Q .non (upd H l (.lst (xs ++ [y])))
theorem mt_append : MtM X "list.append" rAppend := by
  intro pins s σ H x vs v us Q I rx rv h
  obtain ⟨l, xs, y, rfl, rfl, hH, hz, q⟩ := h
  cases rx
  obtain ⟨u, rfl, ru⟩ := rv.one
  obtain ⟨z, its, n, r, hl, e⟩ := I.lstM hH
  refine call_meets F.slot_list_append ⟨_, e, rfl⟩ F.entry_list_append (F.args_list_append_2 _ _) (PySem.list_append l its.toArray n u (by rw [List.size_toArray]; omega)) ⟨e, ?_⟩
  refine ⟨.non, _, I.lset (its' := its ++ [u]) hH e (by simp) (r.append (.cons ru .nil)) ?_, rfl, q⟩
  rw [List.length_append, List.length_singleton]
  omega
end
section
variable {prog : Program} {w : World} {A : Around} {E : Value → Shared → Prop} {s : Shared}
end
section
variable {X : Cx}
end
end L2
namespace Att
open PySem PySem.W PySem.Calls PyProof.Rows
theorem ints_of_wellAll {P : Params} {h : Heap} : ∀ (ns : List Int) (vs : List Value), WellAll P h vs (ns.map WData.int) → IntsAre vs ns := by
  intro ns
  induction ns with
  | nil =>
    intro vs w
    rw [List.map_nil] at w
    cases w
    exact .nil
  | cons n ns ih =>
    intro vs w
    rw [List.map_cons] at w
    cases w with
    | cons a b =>
      cases a
      exact .cons _ _ (ih _ b)
theorem script_of {l : OpenLaw} {n : Nat} (hn : l.most = some n) {P : Params} {h : Heap} {args : List WData} {vals : List Value}
    (hpre : l.row.toRowW.claim.pre args = true) (hwl : WellAll P h vals args) :
    ∃ a vs ns, vals = [Value.ref a] ∧ args = [WData.list (ns.map WData.int)] ∧ h.get? a = some { cls := .type "list", data := .seq vs.toArray } ∧ IntsAre vs ns ∧ ns.length ≤ n := by
  have hsh : WShape.hasAll [] args [.list .int] = true := (pre_splitW hpre).1
  have hc : l.pre.holds [] { args := args } = true := (pre_splitW hpre).2
  obtain ⟨d, r, rfl, h1, h2⟩ := hasAllW_cons hsh
  obtain rfl := hasAllW_nil h2
  obtain ⟨xs, rfl, h3⟩ := hasW_list h1
  obtain ⟨ns, rfl⟩ := items_int h3
  have hlen : ns.length ≤ n := by
    unfold OpenLaw.pre at hc
    have h4 : (WTm.not (.lt (.lit (.int (n : Int))) (.len (.arg 0)))).holds [] { args := [.list (ns.map .int)] } = true := by
      have h4 := (holds_andW hc).1
      rw [hn] at h4
      exact h4
    have h5 := condW_of h4 (w_not (w_lt w_lit (w_len_list (w_arg rfl))))
    rw [List.length_map] at h5
    refine Nat.le_of_not_lt fun q => ?_
    have q' : (n : Int) < ((ns.length : Nat) : Int) := by omega
    first
      | (rw [decide_eq_true q'] at h5; exact absurd h5 (by decide))
      | (simp at h5; omega)
  cases hwl with
  | cons w1 w2 =>
    cases w2
    cases w1 with
    | list ho hall => exact ⟨_, _, ns, rfl, rfl, ho, ints_of_wellAll ns _ hall, hlen⟩
theorem post_true (l : OpenLaw) (args : List WData) : l.row.toRowW.claim.post args (.bool true) args = true :=
  postW_of (r := l.row.toRowW) (X := (true == true))
    (show WShape.has [] (.bool true) .bool = true by first | rfl | decide | simp [WShape.has, WShape.arms, WShape.armsAll])
    (show (WTm.eq .res (.lit (.bool true))).value [] { args := args, res := some (.bool true), after := args } = some (.bool (true == true)) from w_eq_bool (w_res rfl) w_lit) rfl
theorem attach_call {l : OpenLaw} {n : Nat} {q : Program} {loose : List Str} {XP : (Str → Option Value) → Heap → Prop} {YP : World → Heap → Prop} {d : DefRec}
    (hn : l.most = some n) (hdf : d.params.defaults = [])
    (call : ∀ (w : World) (s₀ s₁ : Shared) (mg mb : Str → Option Value) (fa : Addr) (o : Obj) (pm cd doc : Value) (a : Addr) (vs : List Value) (ns : List Int),
      Ground q loose [] XP w s₀ mg mb s₁.heap → YP w s₁.heap →
      s₁.heap.get? fa = some o → o.data = .func (docDef d.name d.params d.body d.scope pm cd doc) → s₁.heap.CodeRec cd d.name → mg d.name = some (.ref fa) →
      s₁.heap.get? a = some { cls := .type "list", data := .seq vs.toArray } → IntsAre vs ns → ns.length ≤ n → s₁.gens = #[] →
      codeAny (model l.prog w) callerA (.call (.ref fa) ⟨[.ref a], []⟩) (fun r s' => r = .ok (.ret (.bool true)) ∧ OldK s₁.heap s'.heap ∧ s'.os = s₁.os ∧ AllBare s'.gens) s₁) :
    WalkO q loose XP YP l.row.toRowW d [] (fun f vs => PySem.call f vs) := by
  intro w s₀ s₁ mg mb G Y fa o pm cd doc dV kV ho hd hcd hD hmg hg args vals as hpre hlay hrd hwl hlo
  obtain rfl : dV = .none := Dflts.none hD hdf
  obtain rfl : kV = .none := Dflts.noKw hD
  obtain ⟨a, vs, ns, rfl, rfl, hobj, hints, hlen⟩ := script_of hn hpre hwl
  refine enter_call (codeAny_mono (call w s₀ s₁ mg mb fa o pm cd doc a vs ns G Y ho (fd_plain hd) hcd hmg hobj hints hlen hg) fun r s' hq => ?_)
  obtain ⟨rfl, h2, h3, h4⟩ := hq
  exact ⟨.inl ⟨.bool true, .bool true, [], rfl, fun _ => rfl, .bool true, post_true l _, fun _ => ⟨List.Pairwise.nil, fun _ hm => (nomatch hm)⟩⟩, h2, h3, h4⟩
section
variable {prog : Program} {w : World} {A : Around} {E : Value → Shared → Prop} {s : Shared} {K : Frag}
end
end Att
namespace L2
open PySem PySem.Spec PyProof.Rows
theorem vals_ints : ∀ {vs : List Value} {ns : List Int}, IntsAre vs ns → Vals (ns.map V.int) vs
  | _, _, .nil => .nil
  | _, _, .cons n t h => .cons ⟨t, rfl⟩ (vals_ints h)
noncomputable def Only (H : Hp) : Prop := ∀ b, H b = none ∨ ∃ o xs, H b = some (.frz o (.lst xs))
theorem law_call {P : Program} {w : World} {K : PySem.W.Frag} {mg mb : Str → Option Value} {CX : CXT} {k : Nat} {fa a : Addr} {fd : FuncData} {x : Str} {sp : Sp} {s₁ : Shared} {vs : List Value} {ns : List Int}
    (KX : K.In s₁.heap) (hns : s₁.heap.Ns mainGlobals mg) (hb : s₁.heap.Ns builtinsNs mb) (hbb : ∀ x : Str, x ≠ "__name__" → mb x = bootBuiltins x) (hlim : s₁.heap.NoLimit) (hg : s₁.gens = #[])
    (ha : s₁.heap.get? a = some { cls := .type "list", data := .seq vs.toArray }) (hi : IntsAre vs ns) (hl : ns.length ≤ sizeLine) (hr : Room k callerA)
    (F : ∀ base : Heap, K.In base → base.Ns mainGlobals mg → FnOk P w K mg base CX k fa fd [x] sp) (hbind : ∀ (s : Shared) (u : Value), BindsTo s fd ⟨[u], []⟩ [(x, u)])
    (hsp : ∀ H : Hp, Only H → SqL K H a (ns.map V.int) → sp [.ref a] H (fun v _ => v = .bl true) fun _ _ _ => False)
    (hCX : ∀ H e s', CX [] H s₁ (fun _ _ _ => False) e s' → False) :
    codeAny (model P w) callerA (.call (.ref fa) ⟨[.ref a], []⟩) (fun r s' => r = .ok (.ret (.bool true)) ∧ OldK s₁.heap s'.heap ∧ s'.os = s₁.os ∧ AllBare s'.gens) s₁ := by
  have rv := vals_ints hi
  have lenV := hi.length
  -- from an abstract heap in which nothing but the script may be tracked
  have core : ∀ H : Hp, Only H → SqL K H a (ns.map V.int) → HOk P w H s₁.heap → (∀ b, H b ≠ none → b = a) → (H a ≠ none → K.lookup a = none) →
      codeAny (model P w) callerA (.call (.ref fa) ⟨[.ref a], []⟩) (fun r s' => r = .ok (.ret (.bool true)) ∧ OldK s₁.heap s'.heap ∧ s'.os = s₁.os ∧ AllBare s'.gens) s₁ := by
    intro H hO hS hok hA hK
    have base_of : ∀ {b : Addr} {o : Obj}, s₁.heap.get? b = some o → H b = none → (hidT s₁.heap H).get? b = some o := fun e n => hidT_get e n
    have noA : ∀ {b : Addr} {o : Obj} {es : Array DictEntry} {ep : Nat}, s₁.heap.get? b = some o → o.data = .dict es ep → H b = none := fun {b o es ep} e d => by
      cases q : H b with
      | none => rfl
      | some u =>
        have e' : b = a := hA b (by rw [q]; simp)
        subst e'
        rw [ha] at e; cases e
        have d' : Data.seq vs.toArray _ = Data.dict es ep := d
        cases d'
    have nsK : ∀ {b : Addr} {m : Str → Option Value}, s₁.heap.Ns b m → (hidT s₁.heap H).Ns b m := fun {b m} ⟨o, es, ep, e, d, r⟩ => ⟨o, es, ep, base_of e (noA e d), d, r⟩
    have hKb : K.In (hidT s₁.heap H) := fun b o e => base_of (KX b o e) (by
      cases q : H b with
      | none => rfl
      | some u =>
        have e' : b = a := hA b (by rw [q]; simp)
        subst e'
        rw [hK (by rw [q]; simp)] at e; cases e)
    have hM : Mod K mg (hidT s₁.heap H) := ⟨hKb, nsK hns, ⟨mb, nsK hb, hbb⟩, let ⟨mc, h1, h2⟩ := hlim; ⟨mc, nsK h1, h2⟩⟩
    have e0 : Env0 P w K mg (hidT s₁.heap H) callerA [] s₁ H := ⟨rfl, hM, fun b o e => of_hidT e, Nat.le_of_eq (hidT_size _ _), trivial, fun b hb => absurd (show b ∈ ([] : List Addr) from hb) (by simp), hok, .of_eq hg⟩
    refine codeAny_mono ((F _ hKb (nsK hns)).run callerA [] s₁ H ⟨[.ref a], []⟩ [.ref a] [.ref a] _ _ hr e0 (hbind s₁ (.ref a)) (.cons rfl .nil) (hsp H hO hS)) fun r s' h => ?_
    cases r with
    | error e => exact (hCX H e s' h).elim
    | ok fl =>
      cases fl with
      | next => exact False.elim h
      | brk => exact False.elim h
      | cont => exact False.elim h
      | ret u =>
        obtain ⟨v, H', os, bare, un, hok', r', q⟩ := h
        have q' : v = .bl true := q
        subst q'
        obtain rfl : u = Value.bool true := r'
        refine ⟨rfl, OldK.of_keep fun b o e => ?_, os, bare⟩
        cases q : H b with
        | none => exact un.keep b o e q (by intro z; exact absurd (show b ∈ ([] : List Addr) from z) (by simp)) (by simp)
        | some u =>
          rcases hO b with z | ⟨ob, xs, z⟩
          · rw [q] at z; cases z
          · have z2 := un.frzs b ob _ z
            obtain ⟨e1, _⟩ := hok b _ z
            obtain ⟨e2, _⟩ := hok' b _ z2
            rw [e] at e1; cases e1
            exact e2
  cases hk : K.lookup a with
  | some o =>
    -- the script is one of the module's own objects
    have e := KX a o hk
    rw [ha] at e
    cases e
    refine core (fun _ => none) (fun _ => .inl rfl) (.inr ⟨_, vs.toArray, _, hk, rfl, rfl, rfl, by rw [List.size_toArray, lenV]; exact hl, by simpa using rv⟩) (fun b u z => by have z' : (none : Option HO) = some u := z; cases z') (fun b z => absurd rfl z) fun z => absurd rfl z
  | none =>
    refine core (fun b => if b = a then some (.frz { cls := .type "list", data := .seq vs.toArray } (.lst (ns.map V.int))) else none) (fun b => ?_) (.inl (.inr ⟨{ cls := .type "list", data := .seq vs.toArray }, if_pos rfl⟩)) (fun b u z => ?_) (fun b z => ?_) fun _ => hk
    · by_cases hb : b = a
      · exact .inr ⟨_, _, if_pos hb⟩
      · exact .inl (if_neg hb)
    · by_cases hb : b = a
      · have z' := (if_pos hb).symm.trans z
        cases z'
        subst hb
        exact ⟨ha, by rw [List.length_map]; exact hl, vs, _, rv, ha⟩
      · have z' := (if_neg hb).symm.trans z
        cases z'
    · by_cases hb : b = a
      · exact hb
      · exact absurd (if_neg hb) z
end L2
namespace L2
open PySem PySem.Spec PyProof.Rows
theorem walk_of {l : PySem.W.OpenLaw} {n k : Nat} {q : Program} {loose : List Str} {XP : (Str → Option Value) → Heap → Prop} {YP : World → Heap → Prop} {d : DefRec} {K : Params → PySem.W.Frag} {CX : World → CXT} {sp : World → Sp} {x : Str}
    (hn : l.most = some n) (hn2 : n ≤ sizeLine) (hdf : d.params.defaults = []) (hr : Room k callerA)
    (hY : ∀ (w : World) (h : Heap), YP w h → (K w.params).In h)
    (F : ∀ (w : World) (mg : Str → Option Value) (fa : Addr) (h : Heap), (K w.params).In h → h.Ns mainGlobals mg → mg d.name = some (.ref fa) →
      ∃ fd : FuncData, (∀ (s : Shared) (u : Value), BindsTo s fd ⟨[u], []⟩ [(x, u)]) ∧
        ∀ base : Heap, (K w.params).In base → base.Ns mainGlobals mg → FnOk l.prog w (K w.params) mg base (CX w) k fa fd [x] (sp w))
    (hsp : ∀ (w : World) (H : Hp) (a : Addr) (ns : List Int), ns.length ≤ n → Only H → SqL (K w.params) H a (ns.map V.int) → sp w [.ref a] H (fun v _ => v = .bl true) fun _ _ _ => False)
    (hCX : ∀ (w : World) (H : Hp) (s : Shared) (e : Value) (s' : Shared), CX w [] H s (fun _ _ _ => False) e s' → False) :
    PySem.W.WalkO q loose XP YP l.row.toRowW d [] (fun f vs => PySem.call f vs) := by
  refine Att.attach_call hn hdf fun w s₀ s₁ mg mb fa o pm cd doc a vs ns G Y ho hd hcd hmg hobj hints hlen hg => ?_
  have KX := hY w _ Y
  obtain ⟨fd, hb, hF⟩ := F w mg fa _ KX G.T.g hmg
  exact law_call KX G.T.g G.T.b G.T.builtins G.T.nolimit hg hobj hints (Nat.le_trans hlen hn2) hr hF hb (fun H hO hS => hsp w H a ns hlen hO hS) fun H e s' => hCX w H s₁ e s'
end L2
namespace L2
open PySem PySem.Spec PyProof.Rows
noncomputable def defArgs (s : Stmt) : Arguments := match s with
  | .FunctionDef _ a _ _ _ _ _ _ _ _ => a
  | _ => { posonlyargs := [], args := [], vararg := none, kwonlyargs := [], kw_defaults := [], kwarg := none, defaults := [] }
noncomputable def defBody (s : Stmt) : List Stmt := match s with
  | .FunctionDef _ _ b _ _ _ _ _ _ _ => b
  | _ => []
noncomputable def defScope (s : Stmt) : Scope := match s with
  | .FunctionDef _ _ _ _ _ _ sc _ _ _ => sc
  | _ => { kind := .function, names := [], isGenerator := false, isCoroutine := false }
noncomputable abbrev CX0 : CXT := fun _ _ _ _ _ _ => False
noncomputable abbrev E0 : XK := fun _ _ _ => False
theorem pass0 {X : Cx} : Passes CX0 X E0 := fun _ _ _ _ _ _ _ h => h.elim
structure Fun (K : PySem.W.Frag) (x qual : Str) (st : Stmt) (f : Addr) (fd : FuncData) : Prop where
  ex : ∃ (oc : Value) (od : Option Addr) (kV doc pm : Value) (an : Option Addr) (cdv ct : Value) (osl : Array (Option Value)),
    fd = PySem.W.fnOf x qual (defArgs st) (defBody st) (defScope st) .none kV doc pm an cdv ct ∧ K.lookup f = some ⟨oc, od, .func fd, osl⟩ ∧ PySem.W.codeIn K cdv qual = true
  kp : PySem.W.keepIn K (.ref f) = true
section
variable {P : Program} {w : World} {K : PySem.W.Frag} {mg : Str → Option Value} {base : Heap}
theorem Fun.ok {x qual : Str} {st : Stmt} {f : Addr} {fd : FuncData} {N ps : List Str} {k : Nat} {sp : Sp} (F : Fun K x qual st f fd) (S : FnScope N ps (defScope st)) (len : ∀ vs H Q E, sp vs H Q E → vs.length = ps.length)
    (hbody : ∀ (cdv : Value) (A : Around) (outer : List Env) (s : Shared) (H : Hp) (vs : List V) (Q : VK) (E : XK), Room k (A.deeper (envOfC qual (defScope st) s.heap.objs.size f cdv)) → sp vs H Q E →
      ∃ t, PSs (cxOf CX0 P w K mg base N qual (defScope st) f cdv A outer s H E).nox (defBody st) t ∧ t { nx := fun _ H' => Q .non H', rt := Q } (start N vs) H) : FnOk P w K mg base CX0 (k + 1) f fd ps sp := by
  obtain ⟨oc, od, kV, doc, pm, an, cdv, ct, osl, rfl, lk, hcd⟩ := F.ex
  refine fn_of lk hcd S len fun A outer s H vs Q E hr hsp => ?_
  obtain ⟨t, h, q⟩ := hbody cdv A outer s H vs Q E hr hsp
  exact ⟨t, h.nox, q⟩
theorem Fun.binds {x qual : Str} {st : Stmt} {f : Addr} {fd : FuncData} {ps : List Str} (F : Fun K x qual st f fd)
    (h : ∀ (kV doc pm : Value) (an : Option Addr) (cdv ct : Value) (us : List Value), us.length = ps.length → bindArgs (PySem.W.fnOf x qual (defArgs st) (defBody st) (defScope st) .none kV doc pm an cdv ct) ⟨us, []⟩ = pure (ps.zip us)) : Binds K fd ps [] := by
  obtain ⟨oc, od, kV, doc, pm, an, cdv, ct, osl, rfl, lk, hcd⟩ := F.ex
  exact .all (h kV doc pm an cdv ct)
theorem fun_mk {x qual : Str} {st : Stmt} {f : Addr} {oc : Value} {od an : Option Addr} {osl : Array (Option Value)} {kV doc pm cdv ct : Value} (l : K.lookup f = some ⟨oc, od, .func (PySem.W.fnOf x qual (defArgs st) (defBody st) (defScope st) .none kV doc pm an cdv ct), osl⟩)
    (c : PySem.W.codeIn K cdv qual = true) (k : PySem.W.keepIn K (.ref f) = true) : Fun K x qual st f (PySem.W.fnOf x qual (defArgs st) (defBody st) (defScope st) .none kV doc pm an cdv ct) := ⟨⟨oc, od, kV, doc, pm, an, cdv, ct, osl, rfl, l, c⟩, k⟩
end
section
variable {X : Cx}
theorem pv (i : Nat) {x : Str} {pos : Pos} (hN : X.N[i]? = some x := by rfl) (hv : Vis X.env.scope x := by first | exact Or.inl rfl | exact Or.inr (Or.inl rfl) | exact Or.inr (Or.inr rfl)) (hd : (x == ("__debug__" : Str)) = false := by decide)
    (hcd : (x == ("__classdict__" : Str)) = false := by decide) : PE X (.Name x pos) (tVar i) := pe_var hN hv hd hcd
end
theorem iteF {A B : Prop} (h : B) : if false = true then A else B := by
  rw [if_neg Bool.false_ne_true]
  exact h
theorem iteT {A B : Prop} (h : A) : if true = true then A else B := by
  rw [if_pos rfl]
  exact h
noncomputable def Same (H H' : Hp) : Prop := ∀ b o, H b = some o → H' b = some o
theorem Same.refl (H : Hp) : Same H H := fun _ _ h => h
theorem Same.trans {H H1 H2 : Hp} (a : Same H H1) (b : Same H1 H2) : Same H H2 := fun c o h => b c o (a c o h)
theorem Same.free {H H' : Hp} (e : Same H H') {l : Addr} (h : H' l = Option.none) : H l = Option.none := by
  cases q : H l with
  | none => rfl
  | some o =>
    rw [e l o q] at h
    cases h
end L2
set_option linter.all false
set_option maxHeartbeats 4000000
set_option maxRecDepth 100000
namespace L2
open PySem PySem.Spec PyProof.Rows
structure CmpOk (XN : List Str) (sc scope : Scope) (N : List Str) (js : List (Option Nat)) : Prop where
  kind : scope.kind = .function
  cell : ∀ y ∈ scope.names, y.2 ≠ .cell
  free : ∀ y ∈ scope.names, y.2 = .free → sc.names.lookup y.1 = some .cell ∨ sc.names.lookup y.1 = some .free
  loc : ∀ y ∈ scope.names, y.2 = .local → scope.names.lookup y.1 = some .local
  len : js.length = N.length
  ix : ((N.zip js).all fun p => match p.2 with | none => true | some j => decide (XN[j]? = some p.1) && decide (scope.names.lookup p.1 = some .free)) = true
noncomputable def clOf (env : Env) : List (Str × NameKind) → List (Str × Addr) → List (Str × Addr)
  | [], cs => cs
  | (n, k) :: r, cs => clOf env r (if k = .free then (match env.cells.lookup n with | some c => (n, c) :: cs | none => cs) else cs)
theorem clOf_sub {env : Env} : ∀ {names : List (Str × NameKind)} {cs : List (Str × Addr)}, (∀ n c, cs.lookup n = some c → env.cells.lookup n = some c) → ∀ n c, (clOf env names cs).lookup n = some c → env.cells.lookup n = some c
  | [], _, h => h
  | (m, k) :: r, cs, h => by
    unfold clOf
    refine clOf_sub ?_
    split
    · cases e : env.cells.lookup m with
      | none => exact h
      | some d =>
        intro n c hn
        dsimp only at hn
        rw [List.lookup_cons] at hn
        cases q : n == m with
        | true =>
          rw [q] at hn
          have e1 : n = m := by simpa using q
          cases hn
          rw [e1]; exact e
        | false => rw [q] at hn; exact h n c hn
    · exact h
theorem clOf_has {env : Env} : ∀ {names : List (Str × NameKind)} {cs : List (Str × Addr)} {n : Str}, ((n, NameKind.free) ∈ names ∧ (∃ c, env.cells.lookup n = some c)) ∨ (∃ c, cs.lookup n = some c) → ∃ c, (clOf env names cs).lookup n = some c
  | [], _, _, h => h.elim (fun z => by cases z.1) id
  | (m, k) :: r, cs, n, h => by
    unfold clOf
    refine clOf_has ?_
    rcases h with ⟨hm, c, hc⟩ | ⟨c, hc⟩
    · rcases List.mem_cons.mp hm with e | hm
      · cases e
        right
        rw [if_pos rfl, hc]
        exact ⟨c, by rw [List.lookup_cons]; simp⟩
      · exact .inl ⟨hm, c, hc⟩
    · right
      split
      · cases e : env.cells.lookup m with
        | none => exact ⟨c, hc⟩
        | some d =>
          dsimp only
          rw [List.lookup_cons]
          cases q : n == m with
          | true => exact ⟨d, rfl⟩
          | false => exact ⟨c, hc⟩
      · exact ⟨c, hc⟩
theorem closure_is {env : Env} {scope : Scope} (h : ∀ y ∈ scope.names, y.2 = .free → ∃ c, env.cells.lookup y.1 = some c) : closureFor scope env = pure (clOf env scope.names []) := by
  have key : ∀ (names : List (Str × NameKind)) (cs : List (Str × Addr)), (∀ y ∈ names, y.2 = .free → ∃ c, env.cells.lookup y.1 = some c) →
      (forIn names cs (fun (x : Str × NameKind) r => if (x.2 == NameKind.free) = true then (do let a ← cellOf env x.1; pure (ForInStep.yield ((x.1, a) :: r))) else pure (ForInStep.yield r)) : Sem (List (Str × Addr))) = pure (clOf env names cs) := by
    intro names
    induction names with
    | nil => intro cs _; rfl
    | cons y r ih =>
      intro cs hy
      obtain ⟨n, k⟩ := y
      rw [List.forIn_cons]
      unfold clOf
      by_cases hk : k = .free
      · subst hk
        obtain ⟨c, hc⟩ := hy _ List.mem_cons_self rfl
        have e1 : cellOf env n = pure c := by unfold cellOf; rw [hc]
        rw [if_pos (by rfl)]
        rw [if_pos rfl, hc]
        show ((cellOf env n >>= fun a => pure (ForInStep.yield ((n, a) :: cs))) >>= _) = _
        rw [e1]
        exact ih _ fun z hz => hy z (List.mem_cons_of_mem _ hz)
      · have hb : (k == NameKind.free) = false := by simpa using hk
        rw [if_neg (by rw [hb]; decide), if_neg hk]
        exact ih _ fun z hz => hy z (List.mem_cons_of_mem _ hz)
  have k := key scope.names [] h
  unfold closureFor
  show (forIn scope.names ([] : List (Str × Addr)) _ >>= fun cs => pure cs) = _
  refine Eq.trans (congrArg (fun t => t >>= fun cs => pure cs) (Eq.trans ?_ k)) rfl
  congr 1
theorem relab_free {env : Env} : ∀ {names : List (Str × NameKind)} {x : Str}, names.lookup x = some .free →
    (names.map fun (n, k) => if (k == NameKind.free && env.scope.kind == .function && env.kindOf n == some .cell) then (n, NameKind.cell) else (n, k)).lookup x = some .cell ∨
    (names.map fun (n, k) => if (k == NameKind.free && env.scope.kind == .function && env.kindOf n == some .cell) then (n, NameKind.cell) else (n, k)).lookup x = some .free
  | [], _, h => by simp at h
  | (n, k) :: r, x, h => by
    have ih := @relab_free env r x
    rw [List.map_cons]
    dsimp only
    cases q : x == n with
    | true =>
      rw [List.lookup_cons, q] at h
      cases h
      split
      · left; rw [List.lookup_cons, q]
      · right; rw [List.lookup_cons, q]
    | false =>
      rw [List.lookup_cons, q] at h
      split
      · rw [List.lookup_cons, q]; exact ih h
      · rw [List.lookup_cons, q]; exact ih h
theorem relab_back {env : Env} : ∀ {names : List (Str × NameKind)} {x : Str} {j : NameKind}, (∀ y ∈ names, y.2 ≠ .cell) → (j = .cell ∨ j = .free) →
    (names.map fun (n, k) => if (k == NameKind.free && env.scope.kind == .function && env.kindOf n == some .cell) then (n, NameKind.cell) else (n, k)).lookup x = some j → (x, NameKind.free) ∈ names
  | [], _, _, _, _, h => by simp at h
  | (n, k) :: r, x, j, hc, hj, h => by
    have ih := @relab_back env r x j (fun y hy => hc y (List.mem_cons_of_mem _ hy)) hj
    rw [List.map_cons] at h
    dsimp only at h
    cases q : x == n with
    | true =>
      have e : x = n := by simpa using q
      subst e
      split at h
      · rename_i g
        have : k = .free := by
          simp only [Bool.and_eq_true, beq_iff_eq] at g
          exact g.1.1
        subst this
        exact List.mem_cons_self
      · rw [List.lookup_cons, q] at h
        cases h
        rcases hj with z | z
        · exact absurd z (hc _ List.mem_cons_self)
        · rw [z]; exact List.mem_cons_self
    | false =>
      refine List.mem_cons_of_mem _ (ih ?_)
      split at h
      · rw [List.lookup_cons, q] at h; exact h
      · rw [List.lookup_cons, q] at h; exact h
noncomputable def inn (js : List (Option Nat)) (σ : St) : St := js.map fun o => match o with | none => none | some j => (σ[j]?).join
structure CxZ where
  cl : List (Str × Addr)
  C : Addr
  s : Shared
  H : Hp
  fp : List Addr
  pins : List (Addr × Obj)
noncomputable def cxC (X : Cx) (N : List Str) (scope : Scope) (z : CxZ) : Cx where
  prog := X.prog
  w := X.w
  K := X.K
  mg := X.mg
  base := X.base
  A := X.A
  N := N
  s₀ := z.s
  H₀ := z.H
  env := compEnvC scope z.cl z.C X.env
  outer := X.stack
  stack := X.stack
  ex := z.fp
  fn := fun _ => false
  calm := X.calm
  pn := X.pn ++ z.pins
  xe := fun _ _ => False
section
variable {X : Cx} {pins : List (Addr × Obj)} {σ : St} {H : Hp} {s : Shared} {XN N : List Str} {sc scope : Scope} {js : List (Option Nat)}
theorem inv_comp {h1 : Heap} {m : Str → Option Value} {tk : Nat} {fp : List Addr} (ck : CmpOk XN sc scope N js) (hXN : X.N = XN) (hsc : X.env.scope = sc) (I : Inv X pins σ H s) (hf : ∀ b ∈ fp, FpOk X pins H b)
    (hfo : ∀ b ∈ fp, b < s.heap.objs.size) (hn : h1.Ns s.heap.objs.size m) (hk : ∀ b o, s.heap.get? b = some o → h1.get? b = some o) :
    Inv (cxC X N scope ⟨clOf X.env scope.names [], s.heap.objs.size, s, H, fp, pins⟩) [] (inn js σ) H { s with heap := h1, toks := tk } := by
  subst hXN hsc
  have sub : ∀ n c, (clOf X.env scope.names []).lookup n = some c → X.env.cells.lookup n = some c := clOf_sub fun n c h => by simp at h
  have clt : ∀ n c, (clOf X.env scope.names []).lookup n = some c → c < s.heap.objs.size := fun n c h => by
    obtain ⟨v, q⟩ := I.cell n c (sub n c h)
    exact q.lt
  have has : ∀ x, (x, NameKind.free) ∈ scope.names → ∃ c, (clOf X.env scope.names []).lookup x = some c := fun x hx =>
    clOf_has (.inl ⟨hx, I.ok.has x (ck.free _ hx rfl)⟩)
  refine ⟨⟨I.ok.mod, ck.kind, I.ok.glob, I.ok.blt, Nat.le_refl _, fun x y c h1 h2 => I.ok.inj x y c (sub x c h1) (sub y c h2), fun x hx => ?has, fun x c hx => ?cab, I.ok.hd, I.ok.frames, .inl rfl, fun b hb => ?exf, I.bs, ?bsz, fun b o e hb => ?noex, fun b hb => ?exfs, I.stack, I.stkFree⟩,
    rfl, I.bare, Un.kept hk, ⟨m, hn, fun i x v h1 h2 h3 => ?loc⟩, fun x c h => ?cell, I.hok.fresh (Nat.le_refl _), fun x c h => I.freeC x c (sub x c h), fun p hp => ?pin, I.hok.kept hk, ?len⟩
  case has =>
    rcases hx with hx | hx
    · exact has x (relab_back ck.cell (.inl rfl) hx)
    · exact has x (relab_back ck.cell (.inr rfl) hx)
  case cab => cases hx
  case exf =>
    obtain ⟨f0, f1, f2, f3, f4, f5⟩ := hf b hb
    exact ⟨Nat.ne_of_lt (hfo b hb), fun x c e => f4 x c (sub x c e)⟩
  case bsz => exact Nat.le_trans I.ok.bsz I.sz
  case noex =>
    obtain ⟨f0, f1, f2, f3, f4, f5⟩ := hf b hb
    rcases f3 with f3 | f3
    · exact I.ok.noex b o e f3
    · exact absurd (Nat.lt_of_lt_of_le (Heap.lt_size e) (Nat.le_trans I.ok.bsz f3)) (Nat.lt_irrefl _)
  case exfs =>
    obtain ⟨f0, f1, f2, f3, f4, f5⟩ := hf b hb
    intro z
    rcases List.mem_cons.mp (I.stkSub b z) with e | e
    · exact f1 e
    · exact f2 e
  case loc =>
    have hl : N.length = js.length := ck.len.symm
    have hi : i < js.length := by
      have := (List.getElem?_eq_some_iff.mp h1).1
      have e : (cxC X N scope ⟨clOf X.env scope.names [], s.heap.objs.size, s, H, fp, pins⟩).N = N := rfl
      rw [e] at this
      omega
    have hN : N[i]? = some x := h1
    have hj : js[i]? = some js[i] := List.getElem?_eq_getElem hi
    unfold inn at h2
    rw [List.getElem?_map, hj] at h2
    cases q : js[i] with
    | none => rw [q] at h2; cases h2
    | some j =>
      rw [q] at h2 hj
      have h2' : (σ[j]?).join = some v := Option.some.inj h2
      have hσ : σ[j]? = some (some v) := by
        cases e : σ[j]? with
        | none => rw [e] at h2'; cases h2'
        | some o => rw [e] at h2'; exact congrArg some h2'
      have hm : (x, some j) ∈ N.zip js := by
        refine List.mem_of_getElem? (i := i) ?_
        rw [List.getElem?_zip_eq_some]
        exact ⟨hN, hj⟩
      have hc := List.all_eq_true.mp ck.ix _ hm
      simp only [Bool.and_eq_true, decide_eq_true_eq] at hc
      obtain ⟨c1, c2⟩ := hc
      have hfr : (x, NameKind.free) ∈ scope.names := PySem.mem_of_lookup c2
      have hvis : X.env.scope.names.lookup x = some .cell ∨ X.env.scope.names.lookup x = some .free := ck.free _ hfr rfl
      obtain ⟨m0, hn0, hl0⟩ := I.loc
      obtain ⟨u, r, l⟩ := hl0 j x v c1 hσ (hvis.elim (fun z => .inr (.inl z)) fun z => .inr (.inr z))
      refine ⟨u, r, .inr ⟨?_, ?_⟩⟩
      · exact relab_free c2
      · rcases l with ⟨k1, _⟩ | ⟨_, c, k1, k2⟩
        · have k1' : X.env.scope.names.lookup x = some .local := k1
          rcases hvis with z | z
          · rw [z] at k1'; cases k1'
          · rw [z] at k1'; cases k1'
        · obtain ⟨c', hc'⟩ := has x hfr
          have e := sub x c' hc'
          rw [k1] at e
          cases e
          obtain ⟨oc, ho, hd⟩ := k2
          exact ⟨c, hc', oc, hk _ _ ho, hd⟩
  case cell =>
    obtain ⟨v, oc, ho, hd⟩ := I.cell x c (sub x c h)
    exact ⟨v, oc, hk _ _ ho, hd⟩
  case pin =>
    have hp' : p ∈ X.pn ++ pins := by simpa [cxC] using hp
    obtain ⟨p1, p2, p3, p4, p5⟩ := I.pin p hp'
    refine ⟨hk _ _ p1, p2, Nat.ne_of_lt (Heap.lt_size p1), fun z => ?_, p5⟩
    rcases List.mem_cons.mp (I.stkSub _ z) with e | e
    · exact p3 e
    · exact p4 e
  case len =>
    show (inn js σ).length = N.length
    unfold inn
    rw [List.length_map]
    exact ck.len
noncomputable abbrev TIf := St → Hp → (Bool → Hp → Prop) → Prop
noncomputable def PIf (X : Cx) (ifs : List Expr) (t : TIf) : Prop :=
  ∀ (pins : List (Addr × Obj)) (s : Shared) (σ : St) (H : Hp) (Q : Bool → Hp → Prop), Inv X pins σ H s → t σ H Q →
    wpAny (model X.prog X.w) X.A (forIn ifs true fun c r => if r = true then do let ok ← isTrue c X.env (eval c X.env); pure (ForInStep.yield ok) else pure (ForInStep.yield r)) (TP X pins σ Q) X.xe s
noncomputable def fNone : TIf := fun _ H Q => Q true H
theorem pif_nil : PIf X [] fNone := fun _ _ _ H _ I h => wpAny_tests_nil ⟨H, I, h⟩
noncomputable def Lev (σ σ' : St) : Prop := σ.length = σ'.length ∧ ∀ (i : Nat) (v : V), σ[i]? = some (some v) → σ'[i]? = some (some v)
theorem Lev.refl (σ : St) : Lev σ σ := ⟨rfl, fun _ _ h => h⟩
noncomputable def Sets (js : List (Option Nat)) (g : TG) : Prop := ∀ (σ0 : St) (v : V) (σ : St) (H : Hp) (Q : St → Hp → Prop), Lev (inn js σ0) σ → g v σ H Q → g v σ H fun σ' H' => Lev (inn js σ0) σ' ∧ Q σ' H'
theorem st_name {i : Nat} (h : js[i]? = some none := by rfl) : Sets js (gName i) := fun σ0 v σ H Q l q => by
  refine ⟨⟨?_, fun j u e => ?_⟩, q⟩
  · rw [List.length_set]; exact l.1
  · by_cases hij : i = j
    · subst hij
      unfold inn at e
      rw [List.getElem?_map, h] at e
      cases e
    · rw [List.getElem?_set_ne hij]
      exact l.2 j u e
noncomputable def tComp (js : List (Option Nat)) (wi : TI) (g : TG) (tt : TIf) (te : TE) : TE := fun σ H Q => wi σ H fun J H1 => ∀ D, H1 D = none → ∃ W : Nat → Nat → Hp → Prop, (∃ m, W 0 m (upd H1 D (.lst []))) ∧ ∀ i m H, W i m H →
  (J.stop i H ∧ Q (.ref D) H) ∨ (J.go i H ∧ ∀ x H', J.yld i H x H' → g x (inn js σ) H' fun σ2 H2 => tt σ2 H2 fun b H3 =>
    if b = true then te σ2 H3 fun y H4 => ∃ ys, H4 D = some (.lst ys) ∧ ys.length < sizeLine ∧ ∃ m', m' < m ∧ W (i + 1) m' (upd H4 D (.lst (ys ++ [y]))) else ∃ m', m' < m ∧ W (i + 1) m' H3)
variable {tg iter elt : Expr} {ifs : List Expr} {pos : Pos} {wi : TI} {g : TG} {tt : TIf} {te : TE}
theorem comp_loop {E : Value → Shared → Prop} {R : Result → Shared → Prop} {it D : Addr} {fp : List Addr} {tn : Nat → Heap → Prop} {J : It} {z : CxZ} {W : Nat → Nat → Hp → Prop} {n : Nat}
    (hc : X.calm = true) (T : Turn X.prog X.w X.K tg J fp it tn) (hz : ∀ b ∈ fp, ∀ H', H' b = none → FpOk (cxC X N scope z) [] H' b)
    (hg : PG (cxC X N scope z) tg g) (hs : Sets js g) (ht : PIf (cxC X N scope z) ifs tt) (he : PE (cxC X N scope z) elt te)
    (turn : ∀ i m H, W i m H → (J.stop i H ∧ ∀ s', Inv (cxC X N scope z) [] (inn js σ) H s' → R (.ok .next) s') ∨ (J.go i H ∧ ∀ x H', J.yld i H x H' → g x (inn js σ) H' fun σ2 H2 => tt σ2 H2 fun b H3 =>
      if b = true then te σ2 H3 fun y H4 => ∃ ys, H4 D = some (.lst ys) ∧ ys.length < sizeLine ∧ ∃ m', m' < m ∧ W (i + 1) m' (upd H4 D (.lst (ys ++ [y]))) else ∃ m', m' < m ∧ W (i + 1) m' H3))
    {s1 : Shared} {H1 : Hp} (I1 : Inv (cxC X N scope z) [] (inn js σ) H1 s1) (t1 : tn 0 s1.heap) (f1 : ∀ b ∈ fp, H1 b = none) (w1 : W 0 n H1) :
    codeAny (model X.prog X.w) X.A (.compLoop (.ListComp elt [⟨tg, iter, ifs, 0⟩] scope pos) 0 (.ref it) (.ref D) (compEnvC scope z.cl z.C X.env)) R s1 := by
  refine codeAny_loop (c := .compLoop (.ListComp elt [⟨tg, iter, ifs, 0⟩] scope pos) 0 (.ref it) (.ref D) (compEnvC scope z.cl z.C X.env)) rfl
    (fun k s' => ∃ i H', Inv (cxC X N scope z) [] (inn js σ) H' s' ∧ tn i s'.heap ∧ (∀ b ∈ fp, H' b = none) ∧ W i k H') ?_ n ⟨0, H1, I1, t1, f1, w1⟩
  rintro k s2 ⟨i, H2, I2, t2, f2, w2⟩
  show wpAny (model X.prog X.w) X.A ((compTurn (.ListComp elt [⟨tg, iter, ifs, 0⟩] scope pos) 0 (.ref it) (.ref D) (compEnvC scope z.cl z.C X.env)).onRaise fun x => do noteFrame x (compEnvC scope z.cl z.C X.env); theTreesLotGoes x) _ _ s2
  refine wpAny_noted ?_
  rw [compTurn_list]
  refine wpAny_bind (wpAny_standAt ?_)
  rcases turn i k H2 w2 with ⟨stop, fin⟩ | ⟨go, step⟩
  · refine wpAny_bind (thn (T.done (cxC X N scope z) rfl rfl rfl hc i [] s2 (inn js σ) H2 _ I2 (fun b hb => hz b hb H2 (f2 b hb)) t2 stop) fun r s3 h3 => ?_)
    obtain ⟨rfl, I3⟩ := h3
    exact wpAny_pure (fin s3 I3)
  · refine wpAny_bind (thn (T.item (cxC X N scope z) rfl rfl rfl hc i [] s2 (inn js σ) H2 _ I2 (fun b hb => hz b hb H2 (f2 b hb)) t2 go) fun r s3 h3 => ?_)
    obtain ⟨u, rfl, h3⟩ := h3
    refine wpAny_bind (thn h3 fun _ s4 h4 => ?_)
    obtain ⟨x, H4, I4, r4, y4, t4, f4⟩ := h4
    have P4 := I4.pinned (fun b hb => hz b hb H4 (f4 b hb)) (T.obj _ _ t4)
    have ff : ∀ {e : Value} {s' : Shared}, (cxC X N scope z).xe e s' → False := fun h => h
    refine wpAny_bind (wpAny_mono (hg _ s4 (inn js σ) H4 x u _ P4 r4 (hs σ x (inn js σ) H4 _ (Lev.refl _) (step x H4 y4))) (fun _ s5 h5 => ?_) fun _ _ h => (ff h).elim)
    obtain ⟨σ5, H5, I5, lev, q5⟩ := h5
    refine wpAny_bind (wpAny_mono (ht _ s5 σ5 H5 _ I5 q5) (fun ok s6 h6 => ?_) fun _ _ h => (ff h).elim)
    obtain ⟨H6, I6, q6⟩ := h6
    have again : ∀ {s7 : Shared} {H7 : Hp}, Inv (cxC X N scope z) ([] ++ pinsAt fp s4.heap) σ5 H7 s7 → (∃ m', m' < k ∧ W (i + 1) m' H7) → ∃ m, m < k ∧ ∃ i H', Inv (cxC X N scope z) [] (inn js σ) H' s7 ∧ tn i s7.heap ∧ (∀ b ∈ fp, H' b = none) ∧ W i m H' := fun {s7 H7} I7 h7 => by
      obtain ⟨m', hm, w7⟩ := h7
      refine ⟨m', hm, i + 1, H7, (I7.unpinned).weak lev.1 lev.2, T.keep _ _ _ t4 fun b hb o e => (I7.pin (b, o) (List.mem_append_right _ (List.mem_append_right _ (mem_pinsAt hb e)))).1, fun b hb => ?_, w7⟩
      obtain ⟨o, e, d⟩ := T.obj _ _ t4 b hb
      exact (I7.pin (b, o) (List.mem_append_right _ (List.mem_append_right _ (mem_pinsAt hb e)))).2.1
    cases ok with
    | false =>
      rw [if_neg (by decide)] at q6
      exact wpAny_pure ⟨rfl, again I6 q6⟩
    | true =>
      rw [if_pos rfl] at q6
      refine wpAny_bind (wpAny_bind (wpAny_mono (he _ s6 σ5 H6 _ I6 q6) (fun y s7 h7 => ?_) fun _ _ h => (ff h).elim))
      obtain ⟨vy, H7, I7, r7, ys, hD, hl, q7⟩ := h7
      refine wpAny_bind (wpAny_mono (mt_append (X := cxC X N scope z) _ s7 σ5 H7 (.ref D) [vy] (.ref D) [y] (fun _ H' => ∃ m', m' < k ∧ W (i + 1) m' H') I7 rfl (.cons r7 .nil) ⟨D, ys, vy, rfl, rfl, hD, hl, q7⟩) (fun _ s8 h8 => ?_) fun _ _ h => (ff h).elim)
      obtain ⟨_, H8, I8, _, q8⟩ := h8
      exact wpAny_pure (wpAny_pure ⟨rfl, again I8 q8⟩)
theorem comp_block {E : Value → Shared → Prop} {RR : Value → Addr → Result → Shared → Prop} {Q : VK} {itv : Value} {s2 : Shared} (ck : CmpOk XN sc scope N js) (hXN : X.N = XN) (hsc : X.env.scope = sc) (hc : X.calm = true)
    (hg : ∀ z, PG (cxC X N scope z) tg g) (hs : Sets js g) (ht : ∀ z, PIf (cxC X N scope z) ifs tt) (he : ∀ z, PE (cxC X N scope z) elt te)
    (h2 : PIE X pins σ tg (fun J H1 => ∀ D, H1 D = none → ∃ W : Nat → Nat → Hp → Prop, (∃ m, W 0 m (upd H1 D (.lst []))) ∧ ∀ i m H, W i m H →
      (J.stop i H ∧ Q (.ref D) H) ∨ (J.go i H ∧ ∀ x H', J.yld i H x H' → g x (inn js σ) H' fun σ2 H2 => tt σ2 H2 fun b H3 =>
        if b = true then te σ2 H3 fun y H4 => ∃ ys, H4 D = some (.lst ys) ∧ ys.length < sizeLine ∧ ∃ m', m' < m ∧ W (i + 1) m' (upd H4 D (.lst (ys ++ [y]))) else ∃ m', m' < m ∧ W (i + 1) m' H3)) itv s2)
    (hRR : ∀ D C s' H' m o, Inv X (pins ++ [(C, o)]) σ H' s' → s'.heap.Ns C m → (X.s₀.heap.objs.size ≤ C ∧ C ≠ X.env.locals ∧ (∀ x c, X.env.cells.lookup x = some c → c ≠ C) ∧ ∀ p ∈ X.pn ++ pins, p.1 ≠ C) → H' C = none → Q (.ref D) H' → RR (.ref D) C (.ok .next) s') :
    wpAny (model X.prog X.w) X.A (newList []) (fun acc s₃ => wpAny (model X.prog X.w) X.A (newFunctionEnv scope X.env.globals (clOf X.env scope.names []) [] X.env.qual none .none (some X.env)) (fun cenv s₄ =>
      codeAny (model X.prog X.w) X.A (.compStart (.ListComp elt [⟨tg, iter, ifs, 0⟩] scope pos) 0 itv acc { cenv with scope := relabel scope X.env }) (RR acc cenv.locals) s₄) E s₃) E s2 := by
  obtain ⟨it, fp, tn, J, H2, rfl, I2, T, t2, f2, q2⟩ := h2
  have fo : ∀ b ∈ fp, b < s2.heap.objs.size := fun b hb => by
    obtain ⟨o, e, _⟩ := T.obj _ _ t2 b hb
    exact Heap.lt_size e
  have hD : H2 s2.heap.objs.size = none := I2.fresh
  obtain ⟨W, ⟨n, w0⟩, turn⟩ := q2 _ hD
  refine wpAny_newObj_type (wpAny_newFunctionEnv ck.cell (by intro y hy; simp at hy) (fun h1 hns hsb => ?_) ck.kind)
  have I3 : Inv X pins σ (upd H2 s2.heap.objs.size (.lst [])) { s2 with heap := s2.heap.push { cls := .type "list", data := .seq ([] : List Value).toArray }, toks := s2.toks } := I2.lnew (its := []) .nil (Nat.zero_le _)
  have f3 : ∀ b ∈ fp, FpOk X pins (upd H2 s2.heap.objs.size (.lst [])) b := fun b hb => by
    obtain ⟨g0, g1⟩ := f2 b hb
    exact ⟨by rw [upd_ne (Nat.ne_of_lt (fo b hb))]; exact g0, g1⟩
  have sz : (s2.heap.push { cls := .type "list", data := .seq ([] : List Value).toArray }).objs.size = s2.heap.objs.size + 1 := Heap.size_push _ _
  have kept : ∀ b o, (s2.heap.push { cls := .type "list", data := .seq ([] : List Value).toArray }).get? b = some o → h1.get? b = some o := fun b o e =>
    hsb.extBut b o (Nat.ne_of_lt (Heap.lt_size e)) (Heap.get?_push_of_some _ e)
  have I4 := inv_comp (tk := s2.toks + ([] : List (Str × Value)).length) ck hXN hsc I3 f3 (fun b hb => by show b < (s2.heap.push _).objs.size; rw [sz]; exact Nat.lt_succ_of_lt (fo b hb)) hns kept
  have t4 : tn 0 h1 := T.keep _ _ _ t2 fun b hb o e => kept b o (Heap.get?_push_of_some _ e)
  have fz : ∀ b ∈ fp, ∀ H', H' b = none → FpOk (cxC X N scope ⟨clOf X.env scope.names [], (s2.heap.push { cls := .type "list", data := .seq ([] : List Value).toArray }).objs.size, { s2 with heap := s2.heap.push { cls := .type "list", data := .seq ([] : List Value).toArray }, toks := s2.toks }, upd H2 s2.heap.objs.size (.lst []), fp, pins⟩) [] H' b := fun b hb H' hn => by
    obtain ⟨g0, g1, g2, g3, g4, g5⟩ := f3 b hb
    refine ⟨hn, (I4.ok.exf b hb).1, I4.ok.exfs b hb, .inl hb, (I4.ok.exf b hb).2, fun p hp => ?_⟩
    exact g5 p (by simpa [cxC] using hp)
  have loop := comp_loop (X := X) (σ := σ) (N := N) (scope := scope) (js := js) (iter := iter) (pos := pos) (E := E) (R := RR (.ref s2.heap.objs.size) (s2.heap.push { cls := .type "list", data := .seq ([] : List Value).toArray }).objs.size) (D := s2.heap.objs.size) (W := W) (n := n)
    hc T fz (hg _) hs (ht _) (he _) (fun i m H w => (turn i m H w).imp (fun a => ⟨a.1, fun s' Y => ?_⟩) id) I4 t4 (fun b hb => (f3 b hb).1) w0
  · exact codeAny_compStart_list loop (T.self _ 0 _ _ _ t4 loop)
  · have bb := Y.base
    have J0 : Inv X pins σ H s' := I3.call' Y.os bb Y.hok Y.bare fun b hb => by
      obtain ⟨g0, g1, g2, g3, g4, g5⟩ := f3 b hb
      exact ⟨g3, g1, g4, g5⟩
    obtain ⟨mC, nC, _⟩ := Y.loc
    obtain ⟨oC, eC, dC⟩ : ∃ o, s'.heap.get? (s2.heap.push { cls := .type "list", data := .seq ([] : List Value).toArray }).objs.size = some o ∧ ∀ v, o.data ≠ .cell v := by
      obtain ⟨o, es, ep, ho, hd, _⟩ := nC
      exact ⟨o, ho, fun v z => by rw [hd] at z; cases z⟩
    have lC : X.s₀.heap.objs.size ≤ (s2.heap.push { cls := .type "list", data := .seq ([] : List Value).toArray }).objs.size := I3.sz
    have cC : (s2.heap.push { cls := .type "list", data := .seq ([] : List Value).toArray }).objs.size ≠ X.env.locals := Nat.ne_of_gt I3.lt
    have kC : ∀ x c, X.env.cells.lookup x = some c → c ≠ (s2.heap.push { cls := .type "list", data := .seq ([] : List Value).toArray }).objs.size := fun x c e => by
      obtain ⟨v, q⟩ := I3.cell x c e
      exact Nat.ne_of_lt q.lt
    have pC : ∀ p ∈ X.pn ++ pins, p.1 ≠ (s2.heap.push { cls := .type "list", data := .seq ([] : List Value).toArray }).objs.size := fun p hp => Nat.ne_of_lt (Heap.lt_size (I3.pin p hp).1)
    have J1 : Inv X (pins ++ [((s2.heap.push { cls := .type "list", data := .seq ([] : List Value).toArray }).objs.size, oC)]) σ H s' := J0.pins_of fun p hp => by
      rcases List.mem_append.mp hp with hp | hp
      · exact J0.pin p (List.mem_append_right _ hp)
      · rw [List.mem_singleton.mp hp]
        exact ⟨eC, Y.free, cC, I3.nofs (Nat.le_refl _), dC⟩
    exact hRR _ _ s' H mC oC J1 nC ⟨lC, cC, kC, pC⟩ Y.free a.2
theorem pe_comp (ck : CmpOk XN sc scope N js) (hi : PI X tg iter wi) (hg : ∀ z, PG (cxC X N scope z) tg g) (hs : Sets js g) (ht : ∀ z, PIf (cxC X N scope z) ifs tt) (he : ∀ z, PE (cxC X N scope z) elt te)
    (hXN : X.N = XN := by rfl) (hsc : X.env.scope = sc := by rfl) (hc : X.calm = true := by rfl) (hf : ∀ x, foldedSetIterable iter X.env x = pure x := by intro _; rfl) :
    PE X (.ListComp elt [⟨tg, iter, ifs, 0⟩] scope pos) (tComp js wi g tt te) := by
  intro pins s σ H Q I h
  rw [eval_ListComp]
  have hcl : closureFor scope X.env = pure (clOf X.env scope.names []) := closure_is fun y hy hk => I.ok.has y.1 (by
    have := ck.free y hy hk
    rw [← hsc] at this
    exact this)
  refine wpAny_comprehension_free (use := none) rfl hf hcl ck.kind ck.loc (thn (hi pins s σ H _ I h) fun v s1 h1 => thn h1 fun itv s2 h2 => ?_)
  refine comp_block (RR := fun acc C => compPost (model X.prog X.w) X.A X.xe none (EP X pins σ Q) acc C) ck hXN hsc hc hg hs ht he h2 ?_
  intro D C s' H' m o J nC hC fC q
  refine ⟨m, nC, fun h' sb => ⟨.ref D, H', ?_, rfl, q⟩⟩
  have J0 : Inv X pins σ H' s' := J.unpinned
  exact J0.turned (t' := s'.toks) (it := C) (fun b o hb e => sb.extBut b o hb e) fC hC.2.1 (.inr hC.1) hC.2.2.1 hC.2.2.2
end
end L2
namespace Srt
open PySem PySem.W PyProof.Rows
section
variable {α β : Type} (lt : Nat → Nat → Bool) (n : Nat)
noncomputable def Pwp : KasT α → (α → Prop) → Prop
  | .ret a, Q => Q a
  | .ask i j k, Q => i < n ∧ j < n ∧ Pwp (k (lt i j)) Q
theorem Pwp.bind {f : α → KasT β} {Q : β → Prop} : ∀ {t : KasT α}, Pwp lt n t (fun a => Pwp lt n (f a) Q) → Pwp lt n (t.bind f) Q
  | .ret _, h => h
  | .ask _ _ _, h => ⟨h.1, h.2.1, Pwp.bind h.2.2⟩
end
section
variable {lt : Nat → Nat → Bool} {le : Nat → Nat → Prop} {n : Nat} {p : Array Nat}
structure Ord (lt : Nat → Nat → Bool) (le : Nat → Nat → Prop) : Prop where
  tr : ∀ a b c, le a b → le b c → le a c
  rf : ∀ a, le a a
  yes : ∀ a b, lt a b = true → le a b
  no : ∀ a b, lt a b = false → le b a
variable {z : Nat}
end
end Srt
namespace Srt
open PySem PySem.W PyProof.Rows
section
variable {prog : Program} {w : World} {A : Around} {E : Value → Shared → Prop} {s : Shared}
structure Known (prog : Program) (w : World) (s : Shared) (vs : List Value) (κ : SortKind) (lt : Nat → Nat → Bool) : Prop where
  kind : ∀ (A : Around) (E : Value → Shared → Prop) (h' : Heap) (Q : SortKind → Shared → Prop), (∀ b o, s.heap.get? b = some o → h'.get? b = some o) → 2 ≤ vs.length → Q κ { s with heap := h' } → wpAny (model prog w) A (keyKind' vs.toArray) Q E { s with heap := h' }
  ask : ∀ (A : Around) (h' : Heap) (i j : Nat) (C : Bool → Shared → Prop), (∀ b o, s.heap.get? b = some o → h'.get? b = some o) → i < vs.length → j < vs.length → C (lt i j) { s with heap := h' } → kas_ask prog w A κ vs i j C { s with heap := h' }
end
section
variable {prog : Program} {w : World} {A : Around} {E : Value → Shared → Prop} {s : Shared}
end
end Srt
namespace L2
open PySem
noncomputable def tTru (K : PySem.W.Frag) (ta : TE) : TT := fun σ H Q => ta σ H fun x H' => ∃ k, TruV K x H' k ∧ Q k H'
noncomputable def iSeq (K : PySem.W.Frag) (tl : TE) : TI := fun σ H R => tl σ H fun x H1 => ∃ a, x = .ref a ∧ (((∃ xs, SqL K H1 a xs) ∧ R (Itl K a) H1) ∨ ((∃ xs, SqT K H1 a xs) ∧ R (Itt K a) H1))
end L2
namespace M
open PySem L2
inductive D where
  | non | bl (b : Bool) | int (i : Int) | str (x : Str) | ty (n : String) | lst (l : List D) | tup (l : List D) | scr (l : List D) | ins (N : Str) (ns : List Str) (l : List D)
  deriving Inhabited
theorem rd_mono {S S' : Hp} (s : Same S S') {a : Addr} {u : HO} (h : Rd S a u) : Rd S' a u := h.elim (fun e => .inl (s _ _ e)) fun ⟨o, e⟩ => .inr ⟨o, s _ _ e⟩
theorem sqL_mono {K : PySem.W.Frag} {S S' : Hp} (s : Same S S') {a : Addr} {xs : List V} (h : SqL K S a xs) : SqL K S' a xs := h.elim (fun e => .inl (rd_mono s e)) .inr
theorem sqT_mono {K : PySem.W.Frag} {S S' : Hp} (s : Same S S') {a : Addr} {xs : List V} (h : SqT K S a xs) : SqT K S' a xs := h.elim (fun e => .inl (rd_mono s e)) .inr
mutual
noncomputable def Den (K : PySem.W.Frag) (S : Hp) : D → V → Prop
  | .non, v => v = .non
  | .bl b, v => v = .bl b
  | .int i, v => v = .int i
  | .str x, v => v = .str x
  | .ty x, v => v = .ty x
  | .lst l, v => ∃ p xs, v = .ref p ∧ Rd S p (.lst xs) ∧ Dens K S l xs
  | .tup l, v => ∃ p xs, v = .ref p ∧ SqT K S p xs ∧ Dens K S l xs
  | .scr l, v => ∃ p xs, v = .ref p ∧ SqL K S p xs ∧ Dens K S l xs
  | .ins N ns l, v => ∃ p C dx fs, v = .ref p ∧ PySem.W.nsIn K mainGlobals N = some (some (.ref C)) ∧ S p = some (.ins C dx fs) ∧ fs.map (·.1) = ns ∧ Dens K S l (fs.map (·.2))
noncomputable def Dens (K : PySem.W.Frag) (S : Hp) : List D → List V → Prop
  | [], xs => xs = []
  | d :: ds, xs => ∃ y ys, xs = y :: ys ∧ Den K S d y ∧ Dens K S ds ys
end
section
variable {K : PySem.W.Frag} {S S' H H' : Hp}
theorem Dens.nil : Dens K S [] [] := by unfold Dens; rfl
theorem Dens.cons {d : D} {ds : List D} {y : V} {ys : List V} (h : Den K S d y) (k : Dens K S ds ys) : Dens K S (d :: ds) (y :: ys) := by unfold Dens; exact ⟨y, ys, rfl, h, k⟩
theorem Dens.nil_of {xs : List V} (h : Dens K S [] xs) : xs = [] := by unfold Dens at h; exact h
theorem Dens.cons_of {d : D} {ds : List D} {xs : List V} (h : Dens K S (d :: ds) xs) : ∃ y ys, xs = y :: ys ∧ Den K S d y ∧ Dens K S ds ys := by unfold Dens at h; exact h
theorem Dens.length : ∀ {ds : List D} {xs : List V}, Dens K S ds xs → ds.length = xs.length
  | [], _, h => by rw [h.nil_of]; rfl
  | _ :: _, _, h => by
    obtain ⟨y, ys, rfl, _, k⟩ := h.cons_of
    rw [List.length_cons, List.length_cons, k.length]
theorem Dens.append : ∀ {ds es : List D} {xs ys : List V}, Dens K S ds xs → Dens K S es ys → Dens K S (ds ++ es) (xs ++ ys)
  | [], _, _, _, h, k => by rw [h.nil_of]; exact k
  | _ :: _, _, _, _, h, k => by
    obtain ⟨y, ys, rfl, a, b⟩ := h.cons_of
    exact .cons a (b.append k)
theorem Dens.get : ∀ {ds : List D} {xs : List V} {i : Nat} {d : D}, Dens K S ds xs → ds[i]? = some d → ∃ x, xs[i]? = some x ∧ Den K S d x
  | [], _, _, _, _, e => by simp at e
  | _ :: _, _, 0, _, h, e => by
    obtain ⟨y, ys, rfl, a, b⟩ := h.cons_of
    simp at e; subst e
    exact ⟨y, rfl, a⟩
  | _ :: _, _, i + 1, _, h, e => by
    obtain ⟨y, ys, rfl, a, b⟩ := h.cons_of
    obtain ⟨x, e1, h1⟩ := b.get (i := i) (by simpa using e)
    exact ⟨x, by simpa using e1, h1⟩
theorem Dens.take : ∀ {ds : List D} {xs : List V} (i : Nat), Dens K S ds xs → Dens K S (ds.take i) (xs.take i)
  | [], _, _, h => by rw [h.nil_of]; simp; exact .nil
  | _ :: _, _, 0, h => by simp; exact .nil
  | _ :: _, _, i + 1, h => by
    obtain ⟨y, ys, rfl, a, b⟩ := h.cons_of
    exact .cons a (b.take i)
theorem Dens.drop : ∀ {ds : List D} {xs : List V} (i : Nat), Dens K S ds xs → Dens K S (ds.drop i) (xs.drop i)
  | [], _, _, h => by rw [h.nil_of]; simp; exact .nil
  | _ :: _, _, 0, h => h
  | _ :: _, _, i + 1, h => by
    obtain ⟨y, ys, rfl, a, b⟩ := h.cons_of
    exact b.drop i
mutual
theorem Den.mono (s : Same S S') : ∀ {d : D} {v : V}, Den K S d v → Den K S' d v
  | .non, _, h => by unfold Den at *; exact h
  | .bl _, _, h => by unfold Den at *; exact h
  | .int _, _, h => by unfold Den at *; exact h
  | .str _, _, h => by unfold Den at *; exact h
  | .ty _, _, h => by unfold Den at *; exact h
  | .lst _, _, h => by
    unfold Den at *
    obtain ⟨p, xs, e, h1, h2⟩ := h
    exact ⟨p, xs, e, rd_mono s h1, Dens.mono s h2⟩
  | .tup _, _, h => by
    unfold Den at *
    obtain ⟨p, xs, e, h1, h2⟩ := h
    exact ⟨p, xs, e, sqT_mono s h1, Dens.mono s h2⟩
  | .scr _, _, h => by
    unfold Den at *
    obtain ⟨p, xs, e, h1, h2⟩ := h
    exact ⟨p, xs, e, sqL_mono s h1, Dens.mono s h2⟩
  | .ins _ _ _, _, h => by
    unfold Den at *
    obtain ⟨p, C, dx, fs, e, h0, h1, h2, h3⟩ := h
    exact ⟨p, C, dx, fs, e, h0, s _ _ h1, h2, Dens.mono s h3⟩
theorem Dens.mono (s : Same S S') : ∀ {ds : List D} {xs : List V}, Dens K S ds xs → Dens K S' ds xs
  | [], _, h => by rw [h.nil_of]; exact .nil
  | _ :: _, _, h => by
    obtain ⟨y, ys, rfl, a, b⟩ := h.cons_of
    exact .cons (Den.mono s a) (Dens.mono s b)
end
theorem den_int {i : Int} {v : V} : Den K S (.int i) v ↔ v = .int i := by unfold Den; exact Iff.rfl
theorem den_bl {b : Bool} {v : V} : Den K S (.bl b) v ↔ v = .bl b := by unfold Den; exact Iff.rfl
theorem den_non {v : V} : Den K S .non v ↔ v = .non := by unfold Den; exact Iff.rfl
theorem den_str {x : Str} {v : V} : Den K S (.str x) v ↔ v = .str x := by unfold Den; exact Iff.rfl
theorem den_ty {x : String} {v : V} : Den K S (.ty x) v ↔ v = .ty x := by unfold Den; exact Iff.rfl
theorem den_tup {l : List D} {v : V} : Den K S (.tup l) v ↔ ∃ p xs, v = .ref p ∧ SqT K S p xs ∧ Dens K S l xs := by
  constructor
  · intro h; unfold Den at h; exact h
  · intro h; unfold Den; exact h
theorem den_lst {l : List D} {v : V} : Den K S (.lst l) v ↔ ∃ p xs, v = .ref p ∧ Rd S p (.lst xs) ∧ Dens K S l xs := by
  constructor
  · intro h; unfold Den at h; exact h
  · intro h; unfold Den; exact h
theorem den_scr {l : List D} {v : V} : Den K S (.scr l) v ↔ ∃ p xs, v = .ref p ∧ SqL K S p xs ∧ Dens K S l xs := by
  constructor
  · intro h; unfold Den at h; exact h
  · intro h; unfold Den; exact h
noncomputable def DenP (K : PySem.W.Frag) (S H : Hp) (d : D) (v : V) : Prop := Den K S d v ∨ ∃ l p xs, d = .lst l ∧ v = .ref p ∧ H p = some (.lst xs) ∧ Dens K S l xs
theorem Den.p {d : D} {v : V} (h : Den K S d v) : DenP K S H d v := .inl h
theorem DenP.lst {l : List D} {v : V} (s : Same S H) (h : DenP K S H (.lst l) v) : ∃ p xs, v = .ref p ∧ Rd H p (.lst xs) ∧ Dens K S l xs := by
  rcases h with h | ⟨l', p, xs, e, e1, e2, e3⟩
  · obtain ⟨p, xs, e, e1, e2⟩ := den_lst.mp h
    exact ⟨p, xs, e, rd_mono s e1, e2⟩
  · cases e
    exact ⟨p, xs, e1, .inl e2, e3⟩
theorem DenP.tup {l : List D} {v : V} (s : Same S H) (h : DenP K S H (.tup l) v) : ∃ p xs, v = .ref p ∧ SqT K H p xs ∧ Dens K S l xs := by
  rcases h with h | ⟨l', p, xs, e, e1, e2, e3⟩
  · obtain ⟨p, xs, e, e1, e2⟩ := den_tup.mp h
    exact ⟨p, xs, e, sqT_mono s e1, e2⟩
  · cases e
theorem DenP.scr {l : List D} {v : V} (s : Same S H) (h : DenP K S H (.scr l) v) : ∃ p xs, v = .ref p ∧ SqL K H p xs ∧ Dens K S l xs := by
  rcases h with h | ⟨l', p, xs, e, e1, e2, e3⟩
  · obtain ⟨p, xs, e, e1, e2⟩ := den_scr.mp h
    exact ⟨p, xs, e, sqL_mono s e1, e2⟩
  · cases e
theorem DenP.int {i : Int} {v : V} (h : DenP K S H (.int i) v) : v = .int i := by
  rcases h with h | ⟨l', p, xs, e, _⟩
  · exact den_int.mp h
  · cases e
theorem DenP.bl {i : Bool} {v : V} (h : DenP K S H (.bl i) v) : v = .bl i := by
  rcases h with h | ⟨l', p, xs, e, _⟩
  · exact den_bl.mp h
  · cases e
theorem DenP.str {i : Str} {v : V} (h : DenP K S H (.str i) v) : v = .str i := by
  rcases h with h | ⟨l', p, xs, e, _⟩
  · exact den_str.mp h
  · cases e
theorem DenP.non {v : V} (h : DenP K S H .non v) : v = .non := by
  rcases h with h | ⟨l', p, xs, e, _⟩
  · exact den_non.mp h
  · cases e
theorem DenP.ty {i : String} {v : V} (h : DenP K S H (.ty i) v) : v = .ty i := by
  rcases h with h | ⟨l', p, xs, e, _⟩
  · exact den_ty.mp h
  · cases e
structure Ext (S H S' H' : Hp) : Prop where
  sh : Same S S'
  sub : Same S' H'
  al : ∀ b o, H b = some o → S b = none → H' b = some o ∧ S' b = none
theorem Ext.refl (h : Same S H) : Ext S H S H := ⟨Same.refl _, h, fun _ _ h n => ⟨h, n⟩⟩
theorem Ext.trans {S1 H1 S2 H2 : Hp} (a : Ext S H S1 H1) (b : Ext S1 H1 S2 H2) : Ext S H S2 H2 := ⟨a.sh.trans b.sh, b.sub, fun c o h n => b.al c o (a.al c o h n).1 (a.al c o h n).2⟩
theorem Ext.same (a : Ext S H S' H') (s : Same S H) : Same H H' := fun b o h => by
  cases q : S b with
  | none => exact (a.al b o h q).1
  | some u =>
    have := s b u q
    rw [h] at this
    cases this
    exact a.sub b o (a.sh b o q)
theorem Ext.new (s : Same S H) {p : Addr} {o : HO} (h : H p = none) : Ext S H (upd S p o) (upd H p o) where
  sh := fun b u e => by rw [upd_ne (ne_of_none e (s.free h))]; exact e
  sub := fun b u e => by
    by_cases hb : b = p
    · subst hb; rw [upd_same] at e ⊢; exact e
    · rw [upd_ne hb] at e ⊢; exact s b u e
  al := fun b u e n => by
    have hb := ne_of_none e h
    rw [upd_ne hb, upd_ne hb]
    exact ⟨e, n⟩
theorem Ext.own (s : Same S H) {p : Addr} {o : HO} (h : H p = none) : Ext S H S (upd H p o) where
  sh := Same.refl _
  sub := fun b u e => by rw [upd_ne (ne_of_none (s b u e) h)]; exact s b u e
  al := fun b u e n => by
    have hb := ne_of_none e h
    rw [upd_ne hb]
    exact ⟨e, n⟩
theorem DenP.mono {d : D} {v : V} (e : Ext S H S' H') (s : Same S H) (h : DenP K S H d v) : DenP K S' H' d v := by
  rcases h with h | ⟨l, p, xs, h1, h2, h3, h4⟩
  · exact .inl (h.mono e.sh)
  · exact .inr ⟨l, p, xs, h1, h2, e.same s _ _ h3, h4.mono e.sh⟩
inductive DensP (K : PySem.W.Frag) (S H : Hp) : List D → List V → Prop where
  | nil : DensP K S H [] []
  | cons {d ds v vs} : DenP K S H d v → DensP K S H ds vs → DensP K S H (d :: ds) (v :: vs)
inductive O where
  | sh (d : D) | lst (l : List O) | tup (l : List O)
  deriving Inhabited
mutual
noncomputable def O.d : O → D
  | .sh d => d
  | .lst l => .lst (O.ds l)
  | .tup l => .tup (O.ds l)
noncomputable def O.ds : List O → List D
  | [] => []
  | o :: l => o.d :: O.ds l
end
mutual
noncomputable def Own (K : PySem.W.Frag) (S H : Hp) : O → V → List Addr → Prop
  | .sh d, v, fp => fp = [] ∧ Den K S d v
  | .lst l, v, fp => ∃ a xs f, v = .ref a ∧ fp = a :: f ∧ H a = some (.lst xs) ∧ Owns K S H l xs f
  | .tup l, v, fp => ∃ a xs f, v = .ref a ∧ fp = a :: f ∧ H a = some (.tup xs) ∧ Owns K S H l xs f
noncomputable def Owns (K : PySem.W.Frag) (S H : Hp) : List O → List V → List Addr → Prop
  | [], xs, fp => xs = [] ∧ fp = []
  | o :: l, xs, fp => ∃ y ys f g, xs = y :: ys ∧ fp = f ++ g ∧ Own K S H o y f ∧ Owns K S H l ys g
end
theorem own_sh {d : D} {v : V} {fp : List Addr} : Own K S H (.sh d) v fp ↔ fp = [] ∧ Den K S d v := by unfold Own; exact Iff.rfl
theorem own_lst {l : List O} {v : V} {fp : List Addr} : Own K S H (.lst l) v fp ↔ ∃ a xs f, v = .ref a ∧ fp = a :: f ∧ H a = some (.lst xs) ∧ Owns K S H l xs f := by
  constructor
  · intro h; unfold Own at h; exact h
  · intro h; unfold Own; exact h
theorem own_tup {l : List O} {v : V} {fp : List Addr} : Own K S H (.tup l) v fp ↔ ∃ a xs f, v = .ref a ∧ fp = a :: f ∧ H a = some (.tup xs) ∧ Owns K S H l xs f := by
  constructor
  · intro h; unfold Own at h; exact h
  · intro h; unfold Own; exact h
theorem Owns.nil : Owns K S H [] [] [] := by unfold Owns; exact ⟨rfl, rfl⟩
theorem Owns.cons {o : O} {l : List O} {y : V} {ys : List V} {f g : List Addr} (h : Own K S H o y f) (k : Owns K S H l ys g) : Owns K S H (o :: l) (y :: ys) (f ++ g) := by unfold Owns; exact ⟨y, ys, f, g, rfl, rfl, h, k⟩
theorem Owns.nil_of {xs : List V} {fp : List Addr} (h : Owns K S H [] xs fp) : xs = [] ∧ fp = [] := by unfold Owns at h; exact h
theorem Owns.cons_of {o : O} {l : List O} {xs : List V} {fp : List Addr} (h : Owns K S H (o :: l) xs fp) : ∃ y ys f g, xs = y :: ys ∧ fp = f ++ g ∧ Own K S H o y f ∧ Owns K S H l ys g := by unfold Owns at h; exact h
theorem Owns.length : ∀ {l : List O} {xs : List V} {fp : List Addr}, Owns K S H l xs fp → l.length = xs.length
  | [], _, _, h => by rw [h.nil_of.1]; rfl
  | _ :: _, _, _, h => by
    obtain ⟨y, ys, f, g, rfl, rfl, _, k⟩ := h.cons_of
    rw [List.length_cons, List.length_cons, k.length]
theorem of_owns_sh : ∀ {ds : List D} {xs : List V} {fp : List Addr}, Owns K S H (ds.map .sh) xs fp → Dens K S ds xs ∧ fp = []
  | [], _, _, h => by rw [h.nil_of.1, h.nil_of.2]; exact ⟨.nil, rfl⟩
  | _ :: _, _, _, h => by
    obtain ⟨y, ys, f, g, rfl, rfl, a, b⟩ := h.cons_of
    obtain ⟨e, a⟩ := own_sh.mp a
    obtain ⟨b, e2⟩ := of_owns_sh b
    exact ⟨.cons a b, by rw [e, e2]; rfl⟩
mutual
theorem Own.mono (s : Same S S') : ∀ {o : O} {v : V} {fp : List Addr}, (∀ b ∈ fp, H' b = H b) → Own K S H o v fp → Own K S' H' o v fp
  | .sh _, _, _, k, h => by
    obtain ⟨e, d⟩ := own_sh.mp h
    exact own_sh.mpr ⟨e, d.mono s⟩
  | .lst _, _, _, k, h => by
    obtain ⟨a, xs, f, e, rfl, h1, h2⟩ := own_lst.mp h
    exact own_lst.mpr ⟨a, xs, f, e, rfl, by rw [k a List.mem_cons_self]; exact h1, Owns.mono s (fun b hb => k b (List.mem_cons_of_mem _ hb)) h2⟩
  | .tup _, _, _, k, h => by
    obtain ⟨a, xs, f, e, rfl, h1, h2⟩ := own_tup.mp h
    exact own_tup.mpr ⟨a, xs, f, e, rfl, by rw [k a List.mem_cons_self]; exact h1, Owns.mono s (fun b hb => k b (List.mem_cons_of_mem _ hb)) h2⟩
theorem Owns.mono (s : Same S S') : ∀ {l : List O} {xs : List V} {fp : List Addr}, (∀ b ∈ fp, H' b = H b) → Owns K S H l xs fp → Owns K S' H' l xs fp
  | [], _, _, k, h => by rw [h.nil_of.1, h.nil_of.2]; exact .nil
  | _ :: _, _, _, k, h => by
    obtain ⟨y, ys, f, g, rfl, rfl, a, b⟩ := h.cons_of
    exact .cons (Own.mono s (fun b hb => k b (List.mem_append_left _ hb)) a) (Owns.mono s (fun b hb => k b (List.mem_append_right _ hb)) b)
end
mutual
theorem Own.there : ∀ {o : O} {v : V} {fp : List Addr}, Own K S H o v fp → ∀ b ∈ fp, H b ≠ none
  | .sh _, _, _, h => by
    obtain ⟨e, d⟩ := own_sh.mp h
    rw [e]; intro b hb; cases hb
  | .lst _, _, _, h => by
    obtain ⟨a, xs, f, e, rfl, h1, h2⟩ := own_lst.mp h
    intro b hb
    rcases List.mem_cons.mp hb with rfl | hb
    · rw [h1]; exact fun z => by cases z
    · exact Owns.there h2 b hb
  | .tup _, _, _, h => by
    obtain ⟨a, xs, f, e, rfl, h1, h2⟩ := own_tup.mp h
    intro b hb
    rcases List.mem_cons.mp hb with rfl | hb
    · rw [h1]; exact fun z => by cases z
    · exact Owns.there h2 b hb
theorem Owns.there : ∀ {l : List O} {xs : List V} {fp : List Addr}, Owns K S H l xs fp → ∀ b ∈ fp, H b ≠ none
  | [], _, _, h => by rw [h.nil_of.2]; intro b hb; cases hb
  | _ :: _, _, _, h => by
    obtain ⟨y, ys, f, g, rfl, rfl, a, b⟩ := h.cons_of
    intro c hc
    rcases List.mem_append.mp hc with hc | hc
    · exact Own.there a c hc
    · exact Owns.there b c hc
end
mutual
theorem Own.den {S2 : Hp} (s : Same S S2) : ∀ {o : O} {v : V} {fp : List Addr}, (∀ b ∈ fp, S2 b = H b) → Own K S H o v fp → Den K S2 o.d v
  | .sh _, _, _, k, h => by
    obtain ⟨e, d⟩ := own_sh.mp h
    exact d.mono s
  | .lst l, _, _, k, h => by
    obtain ⟨a, xs, f, e, rfl, h1, h2⟩ := own_lst.mp h
    rw [O.d]
    exact den_lst.mpr ⟨a, xs, e, .inl (by rw [k a List.mem_cons_self]; exact h1), Owns.den s (fun b hb => k b (List.mem_cons_of_mem _ hb)) h2⟩
  | .tup l, _, _, k, h => by
    obtain ⟨a, xs, f, e, rfl, h1, h2⟩ := own_tup.mp h
    rw [O.d]
    exact den_tup.mpr ⟨a, xs, e, SqT.of (by rw [k a List.mem_cons_self]; exact h1), Owns.den s (fun b hb => k b (List.mem_cons_of_mem _ hb)) h2⟩
theorem Owns.den {S2 : Hp} (s : Same S S2) : ∀ {l : List O} {xs : List V} {fp : List Addr}, (∀ b ∈ fp, S2 b = H b) → Owns K S H l xs fp → Dens K S2 (O.ds l) xs
  | [], _, _, k, h => by rw [h.nil_of.1, O.ds]; exact .nil
  | _ :: _, _, _, k, h => by
    obtain ⟨y, ys, f, g, rfl, rfl, a, b⟩ := h.cons_of
    rw [O.ds]
    exact .cons (Own.den s (fun b hb => k b (List.mem_append_left _ hb)) a) (Owns.den s (fun b hb => k b (List.mem_append_right _ hb)) b)
end
theorem Own.denH {o : O} {v : V} {fp : List Addr} (s : Same S H) (h : Own K S H o v fp) : Den K H o.d v := h.den s fun _ _ => rfl
theorem Ext.keeps {fp : List Addr} (e : Ext S H S' H') (h : ∀ b ∈ fp, S b = none) (t : ∀ b ∈ fp, H b ≠ none) : (∀ b ∈ fp, H' b = H b) ∧ ∀ b ∈ fp, S' b = none := by
  have key : ∀ b ∈ fp, H' b = H b ∧ S' b = none := fun b hb => by
    cases q : H b with
    | none => exact absurd q (t b hb)
    | some o => exact e.al b o q (h b hb)
  exact ⟨fun b hb => (key b hb).1, fun b hb => (key b hb).2⟩
inductive Sl where
  | un | lo | sh (d : D) | ow (o : O)
  deriving Inhabited
noncomputable abbrev Env := List Sl
structure RlF (K : PySem.W.Frag) (A : Hp) (Λ : Nat → Option Addr) (Φ : Nat → List Addr) (ρ : Env) (σ : St) (S H : Hp) : Prop where
  len : σ.length = ρ.length
  sub : Same S H
  sh : ∀ (i : Nat) d, ρ[i]? = some (.sh d) → ∃ v, σ[i]? = some (some v) ∧ Den K S d v
  ow : ∀ (i : Nat) o, ρ[i]? = some (.ow o) → ∃ v, σ[i]? = some (some v) ∧ Own K S H o v (Φ i) ∧ (Φ i).Nodup ∧ ∀ b ∈ Φ i, S b = none ∧ A b = none
  dj : ∀ (i j : Nat) o o', i ≠ j → ρ[i]? = some (.ow o) → ρ[j]? = some (.ow o') → ∀ b ∈ Φ i, b ∉ Φ j
  lo : ∀ (i : Nat), ρ[i]? = some .lo → ∃ a, Λ i = some a ∧ σ[i]? = some (some (.ref a))
  asub : Same A H
  adis : ∀ b, S b = none ∨ A b = none
noncomputable def RlA (K : PySem.W.Frag) (A : Hp) (Λ : Nat → Option Addr) (ρ : Env) (σ : St) (S H : Hp) : Prop := ∃ Φ, RlF K A Λ Φ ρ σ S H
noncomputable def Rl (K : PySem.W.Frag) (ρ : Env) (σ : St) (S H : Hp) : Prop := ∃ A Λ Φ, RlF K A Λ Φ ρ σ S H
theorem RlF.ext {A : Hp} {Λ : Nat → Option Addr} {Φ : Nat → List Addr} {ρ : Env} {σ : St} (r : RlF K A Λ Φ ρ σ S H) (e : Ext S H S' H') : RlF K A Λ Φ ρ σ S' H' where
  len := r.len
  sub := e.sub
  sh := fun i d h => by
    obtain ⟨v, h1, h2⟩ := r.sh i d h
    exact ⟨v, h1, h2.mono e.sh⟩
  ow := fun i o h => by
    obtain ⟨v, h1, h2, h3, h4⟩ := r.ow i o h
    obtain ⟨k1, k2⟩ := e.keeps (fun b hb => (h4 b hb).1) h2.there
    exact ⟨v, h1, h2.mono e.sh k1, h3, fun b hb => ⟨k2 b hb, (h4 b hb).2⟩⟩
  dj := r.dj
  lo := r.lo
  asub := fun b o h => e.same r.sub b o (r.asub b o h)
  adis := fun b => by
    rcases r.adis b with h | h
    · cases q : A b with
      | none => exact .inr rfl
      | some o => exact .inl (e.al b o (r.asub b o q) h).2
    · exact .inr h
theorem RlA.ext {A : Hp} {Λ : Nat → Option Addr} {ρ : Env} {σ : St} (r : RlA K A Λ ρ σ S H) (e : Ext S H S' H') : RlA K A Λ ρ σ S' H' := let ⟨Φ, f⟩ := r; ⟨Φ, f.ext e⟩
theorem RlA.toRl {A : Hp} {Λ : Nat → Option Addr} {ρ : Env} {σ : St} (r : RlA K A Λ ρ σ S H) : Rl K ρ σ S H := let ⟨Φ, f⟩ := r; ⟨A, Λ, Φ, f⟩
theorem RlA.sub {A : Hp} {Λ : Nat → Option Addr} {ρ : Env} {σ : St} (r : RlA K A Λ ρ σ S H) : Same S H := let ⟨_, f⟩ := r; f.sub
theorem RlA.asub {A : Hp} {Λ : Nat → Option Addr} {ρ : Env} {σ : St} (r : RlA K A Λ ρ σ S H) : Same A H := let ⟨_, f⟩ := r; f.asub
theorem RlA.adis {A : Hp} {Λ : Nat → Option Addr} {ρ : Env} {σ : St} (r : RlA K A Λ ρ σ S H) : ∀ b, S b = none ∨ A b = none := let ⟨_, f⟩ := r; f.adis
theorem RlA.sh {A : Hp} {Λ : Nat → Option Addr} {ρ : Env} {σ : St} (r : RlA K A Λ ρ σ S H) : ∀ (i : Nat) d, ρ[i]? = some (.sh d) → ∃ v, σ[i]? = some (some v) ∧ Den K S d v := let ⟨_, f⟩ := r; f.sh
theorem Rl.ext {ρ : Env} {σ : St} (r : Rl K ρ σ S H) (e : Ext S H S' H') : Rl K ρ σ S' H' := let ⟨A, Λ, Φ, f⟩ := r; ⟨A, Λ, Φ, f.ext e⟩
theorem Rl.sub {ρ : Env} {σ : St} (r : Rl K ρ σ S H) : Same S H := let ⟨_, _, _, f⟩ := r; f.sub
theorem Rl.sh {ρ : Env} {σ : St} (r : Rl K ρ σ S H) : ∀ (i : Nat) d, ρ[i]? = some (.sh d) → ∃ v, σ[i]? = some (some v) ∧ Den K S d v := let ⟨_, _, _, f⟩ := r; f.sh
theorem Rl.ow {ρ : Env} {σ : St} (r : Rl K ρ σ S H) : ∀ (i : Nat) o, ρ[i]? = some (.ow o) → ∃ v fp, σ[i]? = some (some v) ∧ Own K S H o v fp ∧ fp.Nodup ∧ ∀ b ∈ fp, S b = none := fun i o h => by
  obtain ⟨A, Λ, Φ, f⟩ := r
  obtain ⟨v, h1, h2, h3, h4⟩ := f.ow i o h
  exact ⟨v, _, h1, h2, h3, fun b hb => (h4 b hb).1⟩
noncomputable abbrev XE := Env → Option D
noncomputable abbrev XT := Env → Option Bool
noncomputable abbrev XA := Env → Option (List D)
noncomputable def SE (K : PySem.W.Frag) (t : TE) (e : XE) : Prop := ∀ ρ σ S H (Q : VK) d, Rl K ρ σ S H → e ρ = some d → (∀ v S' H', Ext S H S' H' → Den K S' d v → Q v H') → t σ H Q
noncomputable def SPk (K : PySem.W.Frag) (t : TE) (e : XE) : Prop := ∀ ρ σ S H (Q : VK) d, Rl K ρ σ S H → e ρ = some d → (∀ v S' H', Ext S H S' H' → DenP K S' H' d v → Q v H') → t σ H Q
noncomputable def SF (K : PySem.W.Frag) (t : TE) (e : XA) : Prop := ∀ ρ σ S H (Q : VK) l, Rl K ρ σ S H → e ρ = some l → (∀ a xs S' H', Ext S H S' H' → H a = none → S' a = none → H' a = some (.lst xs) → Dens K S' l xs → Q (.ref a) H') → t σ H Q
noncomputable def ST (K : PySem.W.Frag) (t : TT) (c : XT) : Prop := ∀ ρ σ S H (Q : Bool → Hp → Prop) b, Rl K ρ σ S H → c ρ = some b → (∀ S' H', Ext S H S' H' → Q b H') → t σ H Q
noncomputable def SA (K : PySem.W.Frag) (t : TA) (e : XA) : Prop := ∀ ρ σ S H (Q : List V → Hp → Prop) ds, Rl K ρ σ S H → e ρ = some ds → (∀ vs S' H', Ext S H S' H' → Dens K S' ds vs → Q vs H') → t σ H Q
noncomputable def SAP (K : PySem.W.Frag) (t : TA) (e : XA) : Prop := ∀ ρ σ S H (Q : List V → Hp → Prop) ds, Rl K ρ σ S H → e ρ = some ds → (∀ vs S' H', Ext S H S' H' → DensP K S' H' ds vs → Q vs H') → t σ H Q
theorem SE.p {t : TE} {e : XE} (h : SE K t e) : SPk K t e := fun ρ σ S H Q d r x k => h ρ σ S H Q d r x fun v S' H' z dv => k v S' H' z (.inl dv)
@[simp] noncomputable def xL (e : XA) : XE := fun ρ => (e ρ).map D.lst
theorem SF.e {t : TE} {e : XA} (h : SF K t e) : SE K t (xL e) := fun ρ σ S H Q d r x k => by
  unfold xL at x
  cases q : e ρ with
  | none => rw [q] at x; cases x
  | some l =>
    rw [q] at x
    cases x
    refine h ρ σ S H Q l r q fun a xs S' H' z h1 h2 h3 h4 => ?_
    have s2 : Same S' (upd S' a (.lst xs)) := fun b u e => by rw [upd_ne (ne_of_none e h2)]; exact e
    refine k _ (upd S' a (.lst xs)) H' ⟨z.sh.trans s2, fun b u e => ?_, fun b o e n => ?_⟩ (den_lst.mpr ⟨a, xs, rfl, .inl upd_same, h4.mono s2⟩)
    · by_cases hb : b = a
      · subst hb; rw [upd_same] at e; cases e; exact h3
      · rw [upd_ne hb] at e; exact z.sub b u e
    · obtain ⟨y1, y2⟩ := z.al b o e n
      exact ⟨y1, by rw [upd_ne (ne_of_none e h1)]; exact y2⟩
@[simp] noncomputable def xVar (i : Nat) : XE := fun ρ => match ρ[i]? with | some (.sh d) => some d | _ => none
noncomputable def shs : List O → Option (List D)
  | [] => some []
  | .sh d :: l => (shs l).map fun r => d :: r
  | _ => none
theorem shs_map : ∀ l : List D, shs (l.map .sh) = some l
  | [] => rfl
  | d :: l => by rw [List.map_cons, shs, shs_map l]; rfl
theorem of_shs : ∀ {os : List O} {l : List D}, shs os = some l → os = l.map .sh
  | [], l, h => by cases h; rfl
  | o :: os, l, h => by
    cases o with
    | sh d =>
      have h' : (shs os).map (fun r => d :: r) = some l := h
      cases q : shs os with
      | none => rw [q] at h'; cases h'
      | some m => rw [q] at h'; cases h'; rw [of_shs q]; rfl
    | lst _ => cases h
    | tup _ => cases h
noncomputable def peek : Sl → Option D
  | .sh d => some d
  | .ow (.lst os) => (shs os).map D.lst
  | _ => none
@[simp] theorem peek_sh (d : D) : peek (.sh d) = some d := rfl
@[simp] theorem peek_ow (l : List D) : peek (.ow (.lst (l.map .sh))) = some (.lst l) := by show (shs _).map D.lst = _; rw [shs_map]; rfl
@[simp] noncomputable def xVarP (i : Nat) : XE := fun ρ => (ρ[i]?).bind peek
theorem s_var (i : Nat) : SE K (tVar i) (xVar i) := fun ρ σ S H Q d r x k => by
  unfold xVar at x
  split at x
  · rename_i d' e
    cases x
    obtain ⟨v, h1, h2⟩ := r.sh i _ e
    exact ⟨v, h1, k v S H (Ext.refl r.sub) h2⟩
  · cases x
theorem s_varP (i : Nat) : SPk K (tVar i) (xVarP i) := fun ρ σ S H Q d r x k => by
  unfold xVarP at x
  cases q : ρ[i]? with
  | none => rw [q] at x; cases x
  | some s =>
    rw [q] at x
    cases s with
    | un => cases x
    | lo => cases x
    | sh d' =>
      cases x
      obtain ⟨v, h1, h2⟩ := r.sh i _ q
      exact ⟨v, h1, k v S H (Ext.refl r.sub) (.inl h2)⟩
    | ow o =>
      cases o with
      | sh d' => cases x
      | tup l => cases x
      | lst os =>
        have x' : (shs os).map D.lst = some d := x
        cases qs : shs os with
        | none => rw [qs] at x'; cases x'
        | some l =>
          rw [qs] at x'
          cases x'
          have e := of_shs qs
          subst e
          obtain ⟨v, fp, h1, h2, h3, h4⟩ := r.ow i _ q
          obtain ⟨a, xs, f, rfl, rfl, h5, h6⟩ := own_lst.mp h2
          exact ⟨_, h1, k _ S H (Ext.refl r.sub) (.inr ⟨l, a, xs, rfl, rfl, h5, (of_owns_sh h6).1⟩)⟩
noncomputable def SQ (K : PySem.W.Frag) (t : TE) (e : XE) : Prop := ∀ ρ σ S H (Q : VK) d, Rl K ρ σ S H → e ρ = some d → (∀ v S' H', Ext S H S' H' → Den K H' d v → Q v H') → t σ H Q
theorem denP_H {d : D} {v : V} (s : Same S H) (h : DenP K S H d v) : Den K H d v := by
  rcases h with h | ⟨l, p, xs, rfl, rfl, h1, h2⟩
  · exact h.mono s
  · exact den_lst.mpr ⟨p, xs, rfl, .inl h1, h2.mono s⟩
theorem SPk.q {t : TE} {e : XE} (h : SPk K t e) : SQ K t e := fun ρ σ S H Q d r x k => h ρ σ S H Q d r x fun v S' H' z dv => k v S' H' z (denP_H z.sub dv)
noncomputable def peekQ : Sl → Option D
  | .sh d => some d
  | .ow o => some o.d
  | _ => none
@[simp] theorem peekQ_sh (d : D) : peekQ (.sh d) = some d := rfl
@[simp] theorem peekQ_ow (o : O) : peekQ (.ow o) = some o.d := rfl
@[simp] noncomputable def xVarQ (i : Nat) : XE := fun ρ => (ρ[i]?).bind peekQ
@[simp] noncomputable def xC (d : D) : XE := fun _ => some d
noncomputable def flat : D → Option V
  | .non => some .non | .bl b => some (.bl b) | .int i => some (.int i) | .str x => some (.str x) | .ty x => some (.ty x) | _ => none
theorem den_flat {d : D} {v : V} (h : flat d = some v) : Den K S d v := by
  cases d <;> simp [flat] at h <;> subst h <;> unfold Den <;> rfl
theorem s_c {v : V} {d : D} (h : flat d = some v) : SE K (tC v) (xC d) := fun ρ σ S H Q e r x k => by
  cases x
  exact k v S H (Ext.refl r.sub) (den_flat h)
@[simp] noncomputable def xFl (e : XE) : XE := fun ρ => (e ρ).bind fun d => if (flat d).isSome then some d else none
@[simp] noncomputable def xOp (f : D → D → Option D) (a b : XE) : XE := fun ρ => (a ρ).bind fun x => (b ρ).bind fun y => f x y
noncomputable def SR2 (K : PySem.W.Frag) (r : R2) (f : D → D → Option D) : Prop := ∀ S H x y d e g (Q : VK), Same S H → DenP K S H d x → DenP K S H e y → f d e = some g → (∀ v S' H', Ext S H S' H' → Den K S' g v → Q v H') → r x y H Q
theorem s_op {r : R2} {f : D → D → Option D} {ta tb : TE} {a b : XE} (hr : SR2 K r f) (ha : SPk K ta a) (hb : SPk K tb b) : SE K (tOp r ta tb) (xOp f a b) := fun ρ σ S H Q d r x k => by
  unfold xOp at x
  cases qa : a ρ with
  | none => rw [qa] at x; cases x
  | some da =>
    rw [qa] at x
    dsimp only [Option.bind] at x
    cases qb : b ρ with
    | none => rw [qb] at x; cases x
    | some db =>
      rw [qb] at x
      refine ha ρ σ S H _ da r qa fun v S1 H1 z1 d1 => ?_
      have r1 := r.ext z1
      refine hb ρ σ S1 H1 _ db r1 qb fun w S2 H2 z2 d2 => ?_
      exact hr S2 H2 v w da db d Q z2.sub (d1.mono z2 r1.sub) d2 x fun u S3 H3 z3 d3 => k u S3 H3 ((z1.trans z2).trans z3) d3
@[simp] noncomputable def xUn (f : D → Option D) (a : XE) : XE := fun ρ => (a ρ).bind f
@[simp] noncomputable def xNil : XA := fun _ => some []
@[simp] noncomputable def xCons (a : XE) (b : XA) : XA := fun ρ => (a ρ).bind fun x => (b ρ).bind fun y => some (x :: y)
theorem sa_nil : SA K tNil xNil := fun ρ σ S H Q ds r x k => by cases x; exact k [] S H (Ext.refl r.sub) .nil
theorem sp_nil : SAP K tNil xNil := fun ρ σ S H Q ds r x k => by cases x; exact k [] S H (Ext.refl r.sub) .nil
theorem xCons_of {a : XE} {b : XA} {ρ : Env} {ds : List D} (x : xCons a b ρ = some ds) : ∃ d r, a ρ = some d ∧ b ρ = some r ∧ ds = d :: r := by
  unfold xCons at x
  cases qa : a ρ with
  | none => rw [qa] at x; cases x
  | some da =>
    rw [qa] at x
    dsimp only [Option.bind] at x
    cases qb : b ρ with
    | none => rw [qb] at x; cases x
    | some db => rw [qb] at x; cases x; exact ⟨_, _, rfl, rfl, rfl⟩
theorem sa_cons {ta : TE} {tr : TA} {a : XE} {b : XA} (ha : SE K ta a) (hb : SA K tr b) : SA K (tCons ta tr) (xCons a b) := fun ρ σ S H Q ds r x k => by
  obtain ⟨da, db, qa, qb, rfl⟩ := xCons_of x
  refine ha ρ σ S H _ da r qa fun v S1 H1 z1 d1 => hb ρ σ S1 H1 _ db (r.ext z1) qb fun vs S2 H2 z2 d2 => k _ S2 H2 (z1.trans z2) (.cons (d1.mono z2.sh) d2)
theorem sp_cons {ta : TE} {tr : TA} {a : XE} {b : XA} (ha : SPk K ta a) (hb : SAP K tr b) : SAP K (tCons ta tr) (xCons a b) := fun ρ σ S H Q ds r x k => by
  obtain ⟨da, db, qa, qb, rfl⟩ := xCons_of x
  refine ha ρ σ S H _ da r qa fun v S1 H1 z1 d1 => hb ρ σ S1 H1 _ db (r.ext z1) qb fun vs S2 H2 z2 d2 => k _ S2 H2 (z1.trans z2) (.cons (d1.mono z2 (r.ext z1).sub) d2)
@[irreducible] noncomputable def LIM : Nat := 1000000
theorem lim_lt : LIM < sizeLine := by rw [sizeLine_eq]; unfold LIM; decide
@[simp] noncomputable def xTup (a : XA) : XE := fun ρ => (a ρ).bind fun l => if l.length ≤ LIM then some (.tup l) else none
theorem s_tup {t : TA} {a : XA} (h : SA K t a) : SE K (tTup t) (xTup a) := fun ρ σ S H Q d r x k => by
  unfold xTup at x
  cases q : a ρ with
  | none => rw [q] at x; cases x
  | some l =>
    rw [q] at x
    dsimp only [Option.bind] at x
    split at x
    · rename_i hl
      cases x
      refine h ρ σ S H _ l r q fun vs S1 H1 z1 d1 => ⟨?_, fun p hp => ?_⟩
      · rw [← d1.length]; exact Nat.le_of_lt (Nat.lt_of_le_of_lt hl lim_lt)
      · have z2 := Ext.new (o := .tup vs) z1.sub hp
        exact k _ _ _ (z1.trans z2) (den_tup.mpr ⟨p, vs, rfl, SqT.of upd_same, d1.mono z2.sh⟩)
    · cases x
@[simp] noncomputable def xLst (a : XA) : XA := fun ρ => (a ρ).bind fun l => if l.length ≤ LIM then some l else none
theorem s_lst {t : TA} {a : XA} (h : SA K t a) : SF K (tLst t) (xLst a) := fun ρ σ S H Q l r x k => by
  unfold xLst at x
  cases q : a ρ with
  | none => rw [q] at x; cases x
  | some l =>
    rw [q] at x
    dsimp only [Option.bind] at x
    split at x
    · rename_i hl
      cases x
      refine h ρ σ S H _ l r q fun vs S1 H1 z1 d1 => ⟨?_, fun p hp => ?_⟩
      · rw [← d1.length]; exact Nat.le_of_lt (Nat.lt_of_le_of_lt hl lim_lt)
      · have hp0 : H p = none := (z1.same r.sub).free hp
        exact k p vs S1 _ (z1.trans (Ext.own z1.sub hp)) hp0 (z1.sub.free hp) upd_same d1
    · cases x
@[simp] noncomputable def xCB (f : List D → Option D) (a : XA) : XE := fun ρ => (a ρ).bind f
noncomputable def SRB (K : PySem.W.Frag) (r : List V → Hp → VK → Prop) (f : List D → Option D) : Prop := ∀ S H vs ds g (Q : VK), Same S H → DensP K S H ds vs → f ds = some g → (∀ v S' H', Ext S H S' H' → Den K S' g v → Q v H') → r vs H Q
theorem s_cb {r : List V → Hp → VK → Prop} {f : List D → Option D} {t : TA} {a : XA} (hr : SRB K r f) (h : SAP K t a) : SE K (tCB r t) (xCB f a) := fun ρ σ S H Q d rl x k => by
  unfold xCB at x
  cases q : a ρ with
  | none => rw [q] at x; cases x
  | some ds =>
    rw [q] at x
    refine h ρ σ S H _ ds rl q fun vs S1 H1 z1 d1 => ?_
    exact hr S1 H1 vs ds d Q z1.sub d1 x fun v S2 H2 z2 d2 => k v S2 H2 (z1.trans z2) d2
@[simp] noncomputable def xCBF (f : List D → Option (List D)) (a : XA) : XA := fun ρ => (a ρ).bind f
noncomputable def STr (K : PySem.W.Frag) (t : TE) (e : Env → Option O) : Prop := ∀ ρ σ S H (Q : VK) o, Rl K ρ σ S H → e ρ = some o → (∀ v fp S' H', Ext S H S' H' → Own K S' H' o v fp → fp.Nodup → (∀ b ∈ fp, H b = none ∧ S' b = none) → Q v H') → t σ H Q
@[simp] noncomputable def xLT (e : XA) : Env → Option O := fun ρ => (e ρ).map fun l => .lst (l.map .sh)
@[simp] noncomputable def xSh (e : XE) : Env → Option O := fun ρ => (e ρ).map .sh
noncomputable def frzS (S H : Hp) (fp : List Addr) : Hp := fun b => if b ∈ fp then H b else S b
theorem frzS_in {fp : List Addr} {b : Addr} (h : b ∈ fp) : frzS S H fp b = H b := by unfold frzS; rw [if_pos h]
theorem frzS_out {fp : List Addr} {b : Addr} (h : b ∉ fp) : frzS S H fp b = S b := by unfold frzS; rw [if_neg h]
theorem frzS_same {fp : List Addr} (n : ∀ b ∈ fp, S b = none) : Same S (frzS S H fp) := fun b o e => by
  rw [frzS_out fun hb => by rw [n b hb] at e; cases e]
  exact e
theorem frzS_sub {fp : List Addr} (s : Same S H) : Same (frzS S H fp) H := fun b o e => by
  by_cases hb : b ∈ fp
  · rw [frzS_in hb] at e; exact e
  · rw [frzS_out hb] at e; exact s b o e
theorem frzS_ext {fp : List Addr} (z : Ext S H S' H') (n : ∀ b ∈ fp, H b = none ∧ S' b = none) : Ext S H (frzS S' H' fp) H' :=
  ⟨z.sh.trans (frzS_same fun b hb => (n b hb).2), frzS_sub z.sub, fun b o h hn => ⟨(z.al b o h hn).1, by rw [frzS_out fun hb => by rw [(n b hb).1] at h; cases h]; exact (z.al b o h hn).2⟩⟩
@[simp] noncomputable def xOD (e : Env → Option O) : XE := fun ρ => (e ρ).map O.d
theorem STr.e {t : TE} {e : Env → Option O} (h : STr K t e) : SE K t (xOD e) := fun ρ σ S H Q d r x k => by
  unfold xOD at x
  cases q : e ρ with
  | none => rw [q] at x; cases x
  | some o =>
    rw [q] at x
    cases x
    exact h ρ σ S H Q o r q fun v fp S' H' z ow nd n => k v _ H' (frzS_ext z n) (ow.den (frzS_same fun b hb => (n b hb).2) fun b hb => frzS_in hb)
noncomputable def spOf (K : PySem.W.Frag) (n : Nat) (m : List D → Option O) : Sp := fun vs H Q _ => vs.length = n ∧ ∃ S ds o, Same S H ∧ Dens K S ds vs ∧ m ds = some o ∧ ∀ v fp S' H', Ext S H S' H' → Own K S' H' o v fp → fp.Nodup → (∀ b ∈ fp, H b = none ∧ S' b = none) → Q v H'
@[simp] noncomputable def xCallT (m : List D → Option O) (a : XA) : Env → Option O := fun ρ => (a ρ).bind m
theorem s_callT {n : Nat} {m : List D → Option O} {E : XK} {t : TA} {a : XA} (h : SA K t a) (hn : ∀ ρ ds, a ρ = some ds → ds.length = n) : STr K (tCall (spOf K n m) [] E t) (xCallT m a) := fun ρ σ S H Q o rl x k => by
  unfold xCallT at x
  cases q : a ρ with
  | none => rw [q] at x; cases x
  | some ds =>
    rw [q] at x
    refine h ρ σ S H _ ds rl q fun vs S1 H1 z1 d1 => ?_
    rw [List.append_nil]
    refine ⟨by rw [← d1.length]; exact hn ρ ds q, S1, ds, o, z1.sub, d1, x, fun v fp S2 H2 z2 ow nd n => k v fp S2 H2 (z1.trans z2) ow nd fun b hb => ⟨(z1.same rl.sub).free (n b hb).1, (n b hb).2⟩⟩
@[simp] noncomputable def xCall (m : List D → Option D) (a : XA) : XE := fun ρ => (a ρ).bind m
theorem s_call {n : Nat} {m : List D → Option O} {E : XK} {t : TA} {a : XA} (h : SA K t a) (hn : ∀ ρ ds, a ρ = some ds → ds.length = n) : SE K (tCall (spOf K n m) [] E t) (xCall (fun ds => (m ds).map O.d) a) := by
  have := (s_callT (m := m) (E := E) h hn).e
  have e : xOD (xCallT m a) = xCall (fun ds => (m ds).map O.d) a := by
    funext ρ
    show ((a ρ).bind m).map O.d = (a ρ).bind fun ds => (m ds).map O.d
    cases a ρ <;> rfl
  rw [e] at this
  exact this
@[simp] noncomputable def xCallB (m : List D → Option D) (a : XA) : XE := fun ρ => ((a ρ).bind m).bind fun d => if (flat d).isSome then some d else none
@[simp] noncomputable def xNilT : Env → Option (List O) := fun _ => some []
@[simp] noncomputable def xConsT (a : Env → Option O) (b : Env → Option (List O)) : Env → Option (List O) := fun ρ => (a ρ).bind fun x => (b ρ).bind fun y => some (x :: y)
@[simp] noncomputable def xTupT (a : Env → Option (List O)) : Env → Option O := fun ρ => (a ρ).bind fun l => if l.length ≤ LIM then some (.tup l) else none
@[simp] noncomputable def xLstT (a : Env → Option (List O)) : Env → Option O := fun ρ => (a ρ).bind fun l => if l.length ≤ LIM then some (.lst l) else none
theorem len_nil {ρ : Env} {ds : List D} (h : xNil ρ = some ds) : ds.length = 0 := by cases h; rfl
theorem len_cons {a : XE} {b : XA} {n : Nat} (h : ∀ ρ ds, b ρ = some ds → ds.length = n) (ρ : Env) (ds : List D) (x : xCons a b ρ = some ds) : ds.length = n + 1 := by
  obtain ⟨da, db, qa, qb, rfl⟩ := xCons_of x
  rw [List.length_cons, h ρ db qb]
@[simp] noncomputable def xAndV (a b : XE) : XE := fun ρ => (a ρ).bind fun x => match x with | .bl true => b ρ | .bl false => some (.bl false) | _ => none
@[simp] noncomputable def xOrV (a b : XE) : XE := fun ρ => (a ρ).bind fun x => match x with | .bl true => some (.bl true) | .bl false => b ρ | _ => none
@[simp] noncomputable def xNotV (a : XE) : XE := fun ρ => (a ρ).bind fun x => match x with | .bl c => some (.bl (!c)) | _ => none
theorem s_andV {ta tb : TE} {a b : XE} (ha : SPk K ta a) (hb : SE K tb b) : SE K (tAndV ta tb) (xAndV a b) := fun ρ σ S H Q d r x k => by
  unfold xAndV at x
  cases qa : a ρ with
  | none => rw [qa] at x; cases x
  | some da =>
    rw [qa] at x
    dsimp only [Option.bind] at x
    refine ha ρ σ S H _ da r qa fun v S1 H1 z1 d1 => ?_
    split at x
    · exact ⟨true, d1.bl, iteT (hb ρ σ S1 H1 Q d (r.ext z1) x fun w S2 H2 z2 d2 => k w S2 H2 (z1.trans z2) d2)⟩
    · cases x
      exact ⟨false, d1.bl, iteF (k _ S1 H1 z1 (den_bl.mpr rfl))⟩
    · cases x
theorem s_notV {ta : TE} {a : XE} (ha : SPk K ta a) : SE K (tNotV ta) (xNotV a) := fun ρ σ S H Q d r x k => by
  unfold xNotV at x
  cases qa : a ρ with
  | none => rw [qa] at x; cases x
  | some da =>
    rw [qa] at x
    dsimp only [Option.bind] at x
    refine ha ρ σ S H _ da r qa fun v S1 H1 z1 d1 => ?_
    split at x
    · cases x
      exact ⟨_, d1.bl, k _ S1 H1 z1 (den_bl.mpr rfl)⟩
    · cases x
@[simp] noncomputable def xIfE (c : XT) (a b : XE) : XE := fun ρ => (c ρ).bind fun q => if q = true then a ρ else b ρ
theorem s_ifE {tc : TT} {ta tb : TE} {c : XT} {a b : XE} (hc : ST K tc c) (ha : SE K ta a) (hb : SE K tb b) : SE K (tIf tc ta tb) (xIfE c a b) := fun ρ σ S H Q d r x k => by
  unfold xIfE at x
  cases qc : c ρ with
  | none => rw [qc] at x; cases x
  | some q =>
    rw [qc] at x
    dsimp only [Option.bind] at x
    refine hc ρ σ S H _ q r qc fun S1 H1 z1 => ?_
    cases q with
    | true => exact iteT (ha ρ σ S1 H1 Q d (r.ext z1) (by simpa using x) fun w S2 H2 z2 d2 => k w S2 H2 (z1.trans z2) d2)
    | false => exact iteF (hb ρ σ S1 H1 Q d (r.ext z1) (by simpa using x) fun w S2 H2 z2 d2 => k w S2 H2 (z1.trans z2) d2)
@[simp] noncomputable def xB (a : XE) : XT := fun ρ => (a ρ).bind fun x => match x with | .bl c => some c | _ => none
theorem s_b {ta : TE} {a : XE} (ha : SPk K ta a) : ST K (tB ta) (xB a) := fun ρ σ S H Q b r x k => by
  unfold xB at x
  cases qa : a ρ with
  | none => rw [qa] at x; cases x
  | some da =>
    rw [qa] at x
    dsimp only [Option.bind] at x
    refine ha ρ σ S H _ da r qa fun v S1 H1 z1 d1 => ?_
    split at x
    · cases x
      exact ⟨_, d1.bl, k S1 H1 z1⟩
    · cases x
theorem s_test {ta : TE} {a : XE} (ha : SPk K ta a) : ST K (tTest ta) (xB a) := s_b ha
noncomputable def truD : D → Option Bool
  | .non => some false
  | .bl b => some b
  | .int i => some (i != 0)
  | .str y => if y.length ≤ LIM then some ((y.length : Int) != 0) else none
  | .lst l => some (!l.isEmpty)
  | .tup l => some (!l.isEmpty)
  | .scr l => some (!l.isEmpty)
  | _ => none
theorem dens_empty {ds : List D} {xs : List V} (h : Dens K S ds xs) : (!ds.isEmpty) = !xs.isEmpty := by
  have := h.length
  cases ds <;> cases xs <;> simp_all
@[simp] noncomputable def xTru (a : XE) : XT := fun ρ => (a ρ).bind truD
theorem tru_of {d : D} {v : V} {b : Bool} (s : Same S H) (h : DenP K S H d v) (x : truD d = some b) : TruV K v H b := by
  cases d with
  | non => rw [h.non]; cases x; rfl
  | bl c => rw [h.bl]; cases x; rfl
  | int i => rw [h.int]; cases x; rfl
  | str y =>
    rw [h.str]
    have x' : (if y.length ≤ LIM then some ((y.length : Int) != 0) else none) = some b := x
    split at x'
    · rename_i hl; cases x'; exact ⟨Nat.le_of_lt (Nat.lt_of_le_of_lt hl lim_lt), rfl⟩
    · cases x'
  | lst l =>
    obtain ⟨p, xs, rfl, h1, h2⟩ := h.lst s
    cases x
    exact .inl ⟨xs, .inl h1, dens_empty h2⟩
  | tup l =>
    obtain ⟨p, xs, rfl, h1, h2⟩ := h.tup s
    cases x
    exact .inr (.inl ⟨xs, h1, dens_empty h2⟩)
  | scr l =>
    obtain ⟨p, xs, rfl, h1, h2⟩ := h.scr s
    cases x
    exact .inl ⟨xs, h1, dens_empty h2⟩
  | _ => cases x
end
end M
namespace M
open PySem L2
section
variable {K : PySem.W.Frag} {S S' H H' : Hp}
theorem s_tru {ta : TE} {a : XE} (ha : SPk K ta a) : ST K (fun σ H Q => ta σ H fun x H' => ∃ k, TruV K x H' k ∧ Q k H') (xTru a) := fun ρ σ S H Q b r x k => by
  unfold xTru at x
  cases qa : a ρ with
  | none => rw [qa] at x; cases x
  | some da =>
    rw [qa] at x
    exact ha ρ σ S H _ da r qa fun v S1 H1 z1 d1 => ⟨b, tru_of z1.sub d1 x, k S1 H1 z1⟩
@[simp] noncomputable def xAnd (a b : XT) : XT := fun ρ => (a ρ).bind fun x => if x = true then b ρ else some false
@[simp] noncomputable def xOr (a b : XT) : XT := fun ρ => (a ρ).bind fun x => if x = true then some true else b ρ
@[simp] noncomputable def xNot (a : XT) : XT := fun ρ => (a ρ).map fun x => !x
theorem s_or {ta tb : TT} {a b : XT} (ha : ST K ta a) (hb : ST K tb b) : ST K (tOr ta tb) (xOr a b) := fun ρ σ S H Q d r x k => by
  unfold xOr at x
  cases qa : a ρ with
  | none => rw [qa] at x; cases x
  | some q =>
    rw [qa] at x
    dsimp only [Option.bind] at x
    refine ha ρ σ S H _ q r qa fun S1 H1 z1 => ?_
    cases q with
    | false => exact iteF (hb ρ σ S1 H1 Q d (r.ext z1) (by simpa using x) fun S2 H2 z2 => k S2 H2 (z1.trans z2))
    | true =>
      have : d = true := by simpa using x.symm
      subst this
      exact iteT (k S1 H1 z1)
theorem s_not {ta : TT} {a : XT} (ha : ST K ta a) : ST K (tNot ta) (xNot a) := fun ρ σ S H Q d r x k => by
  unfold xNot at x
  cases qa : a ρ with
  | none => rw [qa] at x; cases x
  | some q =>
    rw [qa] at x
    cases x
    exact ha ρ σ S H _ q r qa k
inductive Out where
  | nx (ρ : Env) | rt (d : D) | ro (o : O) | bk (ρ : Env) | ct (ρ : Env)
noncomputable abbrev XS := Env → Option Out
noncomputable def Done (K : PySem.W.Frag) (A : Hp) (Λ : Nat → Option Addr) (S : Hp) (E : Ends) : Out → Prop
  | .nx ρ => ∀ σ' S' H', RlA K A Λ ρ σ' S' H' → Same S S' → E.nx σ' H'
  | .bk ρ => ∀ σ' S' H', RlA K A Λ ρ σ' S' H' → Same S S' → E.bk σ' H'
  | .ct ρ => ∀ σ' S' H', RlA K A Λ ρ σ' S' H' → Same S S' → E.ct σ' H'
  | .rt d => ∀ v S' H', Same S S' → Same S' H' → Same A H' → (∀ b, S' b = none ∨ A b = none) → Den K S' d v → E.rt v H'
  | .ro o => ∀ v fp S' H', Same S S' → Same S' H' → Same A H' → (∀ b, S' b = none ∨ A b = none) → Own K S' H' o v fp → fp.Nodup → (∀ b ∈ fp, S' b = none ∧ A b = none) → E.rt v H'
theorem Done.mono {A : Hp} {Λ : Nat → Option Addr} {E : Ends} {o : Out} (s : Same S S') (h : Done K A Λ S E o) : Done K A Λ S' E o := by
  cases o with
  | nx ρ => exact fun σ1 S1 H1 r z => h σ1 S1 H1 r (s.trans z)
  | bk ρ => exact fun σ1 S1 H1 r z => h σ1 S1 H1 r (s.trans z)
  | ct ρ => exact fun σ1 S1 H1 r z => h σ1 S1 H1 r (s.trans z)
  | rt d => exact fun v S1 H1 z => h v S1 H1 (s.trans z)
  | ro d => exact fun v fp S1 H1 z => h v fp S1 H1 (s.trans z)
noncomputable def SS (K : PySem.W.Frag) (t : TS) (m : XS) : Prop := ∀ A Λ ρ σ S H (E : Ends) o, RlA K A Λ ρ σ S H → m ρ = some o → Done K A Λ S E o → t E σ H
@[simp] noncomputable def xNext : XS := fun ρ => some (.nx ρ)
theorem s_next : SS K tNext xNext := fun A Λ ρ σ S H E o r x k => by cases x; exact k σ S H r (Same.refl _)
@[simp] noncomputable def xBreak : XS := fun ρ => some (.bk ρ)
@[simp] noncomputable def xCont : XS := fun ρ => some (.ct ρ)
@[simp] noncomputable def xNever : XS := fun _ => none
theorem s_never {t : TS} : SS K t xNever := fun A Λ ρ σ S H E o r x k => by cases x
@[simp] noncomputable def xSeq (m n : XS) : XS := fun ρ => match m ρ with | some (.nx ρ') => n ρ' | o => o
theorem s_seq {t u : TS} {m n : XS} (ht : SS K t m) (hu : SS K u n) : SS K (tSeq t u) (xSeq m n) := fun A Λ ρ σ S H E o r x k => by
  unfold xSeq at x
  cases q : m ρ with
  | none => rw [q] at x; cases x
  | some om =>
    rw [q] at x
    refine ht A Λ ρ σ S H _ om r q ?_
    cases om with
    | nx ρ' => exact fun σ' S' H' r' z => hu A Λ ρ' σ' S' H' E o r' x (k.mono z)
    | rt d => cases x; exact k
    | ro d => cases x; exact k
    | bk d => cases x; exact k
    | ct d => cases x; exact k
@[simp] noncomputable def xRet (e : XE) : XS := fun ρ => (e ρ).map .rt
theorem s_ret {te : TE} {e : XE} (h : SE K te e) : SS K (tRet te) (xRet e) := fun A Λ ρ σ S H E o r x k => by
  unfold xRet at x
  cases q : e ρ with
  | none => rw [q] at x; cases x
  | some d =>
    rw [q] at x
    cases x
    refine h ρ σ S H _ d r.toRl q fun v S1 H1 z1 d1 => ?_
    have r1 := r.ext z1
    exact k v S1 H1 z1.sh z1.sub r1.asub r1.adis d1
@[simp] noncomputable def xRetT (e : Env → Option O) : XS := fun ρ => (e ρ).map .ro
@[simp] noncomputable def xRetV (i : Nat) : XS := fun ρ => match ρ[i]? with | some (.sh d) => some (.rt d) | some (.ow o) => some (.ro o) | _ => none
@[simp] noncomputable def xRetN : XS := fun _ => some (.rt .non)
@[simp] noncomputable def xIf (c : XT) (m n : XS) : XS := fun ρ => (c ρ).bind fun b => if b = true then m ρ else n ρ
theorem s_if {tc : TT} {t u : TS} {c : XT} {m n : XS} (hc : ST K tc c) (ht : SS K t m) (hu : SS K u n) : SS K (tIfS tc t u) (xIf c m n) := fun A Λ ρ σ S H E o r x k => by
  unfold xIf at x
  cases qc : c ρ with
  | none => rw [qc] at x; cases x
  | some q =>
    rw [qc] at x
    dsimp only [Option.bind] at x
    refine hc ρ σ S H _ q r.toRl qc fun S1 H1 z1 => ?_
    cases q with
    | true => exact iteT (ht A Λ ρ σ S1 H1 E o (r.ext z1) (by simpa using x) (k.mono z1.sh))
    | false => exact iteF (hu A Λ ρ σ S1 H1 E o (r.ext z1) (by simpa using x) (k.mono z1.sh))
theorem set_inv {α : Type} {l : List α} {i j : Nat} {x y : α} (h : (l.set i x)[j]? = some y) : (i = j ∧ y = x ∧ i < l.length) ∨ (i ≠ j ∧ l[j]? = some y) := by
  by_cases hij : i = j
  · subst hij
    have hl := (List.getElem?_eq_some_iff.mp h).1
    rw [List.length_set] at hl
    rw [List.getElem?_set_self hl] at h
    exact .inl ⟨rfl, (Option.some.inj h).symm, hl⟩
  · rw [List.getElem?_set_ne hij] at h
    exact .inr ⟨hij, h⟩
theorem RlF.set {A : Hp} {Λ : Nat → Option Addr} {Φ : Nat → List Addr} {ρ : Env} {σ : St} {d : D} {v : V} (r : RlF K A Λ Φ ρ σ S H) (i : Nat) (h : Den K S d v) : RlF K A Λ Φ (ρ.set i (.sh d)) (σ.set i (some v)) S H where
  len := by rw [List.length_set, List.length_set]; exact r.len
  sub := r.sub
  sh := fun j e hj => by
    rcases set_inv hj with ⟨rfl, e, hl⟩ | ⟨hij, hj⟩
    · cases e
      exact ⟨v, List.getElem?_set_self (by rw [r.len]; exact hl), h⟩
    · rw [List.getElem?_set_ne hij]
      exact r.sh j e hj
  ow := fun j o hj => by
    rcases set_inv hj with ⟨rfl, e, hl⟩ | ⟨hij, hj⟩
    · cases e
    · rw [List.getElem?_set_ne hij]
      exact r.ow j o hj
  dj := fun j k o o' hjk h1 h2 => by
    rcases set_inv h1 with ⟨rfl, e, hl⟩ | ⟨hij, h1⟩
    · cases e
    · rcases set_inv h2 with ⟨rfl, e, hl⟩ | ⟨hik, h2⟩
      · cases e
      · exact r.dj j k o o' hjk h1 h2
  lo := fun j hj => by
    rcases set_inv hj with ⟨rfl, e, hl⟩ | ⟨hij, hj⟩
    · cases e
    · rw [List.getElem?_set_ne hij]
      exact r.lo j hj
  asub := r.asub
  adis := r.adis
theorem RlA.set {A : Hp} {Λ : Nat → Option Addr} {ρ : Env} {σ : St} {d : D} {v : V} (r : RlA K A Λ ρ σ S H) (i : Nat) (h : Den K S d v) : RlA K A Λ (ρ.set i (.sh d)) (σ.set i (some v)) S H := let ⟨Φ, f⟩ := r; ⟨Φ, f.set i h⟩
noncomputable def frz (i : Nat) (ρ : Env) : Env := match ρ[i]? with | some (.ow o) => ρ.set i (.sh o.d) | _ => ρ
@[simp] noncomputable def xFrz (i : Nat) (m : XS) : XS := fun ρ => m (frz i ρ)
noncomputable abbrev XG := D → Env → Option Env
noncomputable abbrev XGs := List D → Env → Option Env
noncomputable def SG (K : PySem.W.Frag) (g : TG) (x : XG) : Prop := ∀ A Λ ρ σ S H v d (Q : St → Hp → Prop) ρ', RlA K A Λ ρ σ S H → Den K S d v → x d ρ = some ρ' → (∀ σ', RlA K A Λ ρ' σ' S H → Q σ' H) → g v σ H Q
@[simp] noncomputable def xgName (i : Nat) : XG := fun d ρ => some (ρ.set i (.sh d))
noncomputable def xgNil : XGs := fun ds ρ => match ds with | [] => some ρ | _ => none
noncomputable def xgCons (x : XG) (y : XGs) : XGs := fun ds ρ => match ds with | d :: r => (x d ρ).bind (y r) | [] => none
noncomputable def xgTup (y : XGs) : XG := fun d ρ => match d with | .tup l => y l ρ | _ => none
theorem g_name (i : Nat) : SG K (gName i) (xgName i) := fun A Λ ρ σ S H v d Q ρ' r dv x k => by cases x; exact k _ (r.set i dv)
@[simp] noncomputable def xAsg (e : XE) (g : XG) : XS := fun ρ => (e ρ).bind fun d => (g d ρ).map .nx
theorem s_asg {te : TE} {g : TG} {e : XE} {x : XG} (h : SE K te e) (hg : SG K g x) : SS K (tAsg te g) (xAsg e x) := fun A Λ ρ σ S H E o r y k => by
  unfold xAsg at y
  cases q : e ρ with
  | none => rw [q] at y; cases y
  | some d =>
    rw [q] at y
    dsimp only [Option.bind] at y
    cases q2 : x d ρ with
    | none => rw [q2] at y; cases y
    | some ρ' =>
      rw [q2] at y
      cases y
      exact h ρ σ S H _ d r.toRl q fun v S1 H1 z1 d1 => hg A Λ ρ σ S1 H1 v d _ ρ' (r.ext z1) d1 q2 fun σ' r' => k σ' S1 H1 r' z1.sh
@[simp] noncomputable def xAsgT (e : Env → Option O) (i : Nat) : XS := fun ρ => (e ρ).map fun o => .nx (ρ.set i (.ow o))
@[simp] noncomputable def xAsgF (e : XA) (i : Nat) : XS := xAsgT (xLT e) i
noncomputable def subO : O → List Int → Option O
  | o, [] => some o
  | .lst l, k :: r => (atI l k).bind fun o => subO o r
  | .tup l, k :: r => (atI l k).bind fun o => subO o r
  | .sh _, _ :: _ => none
noncomputable def putL (l : List O) (k : Int) (f : O → O) : List O := match ixN l.length k with
  | some j => (match l[j]? with | some o => l.set j (f o) | none => l)
  | none => l
noncomputable def putO : O → List Int → O → O
  | _, [], q => q
  | .lst l, k :: r, q => .lst (putL l k fun o => putO o r q)
  | .tup l, k :: r, q => .tup (putL l k fun o => putO o r q)
  | .sh d, _ :: _, _ => .sh d
noncomputable def WalkV (H : Hp) : V → List Int → V → Prop
  | v, [], w => v = w
  | v, k :: r, w => ∃ a xs u, v = .ref a ∧ (H a = some (.lst xs) ∨ H a = some (.tup xs)) ∧ atI xs k = some u ∧ WalkV H u r w
noncomputable abbrev XP := Env → Option (List Int)
@[simp] noncomputable def xPv : XP := fun _ => some []
@[simp] noncomputable def xPi (p : XP) (ix : XE) : XP := fun ρ => (p ρ).bind fun is => (ix ρ).bind fun d => match d with | .int k => some (is ++ [k]) | _ => none
@[simp] noncomputable def xAppP (i : Nat) (p : XP) (e : Env → Option O) : XS := fun ρ => match ρ[i]? with
  | some (.ow o) => (p ρ).bind fun is => (e ρ).bind fun x => match subO o is with
    | some (.lst l) => if l.length < LIM then some (.nx (ρ.set i (.ow (putO o is (.lst (l ++ [x])))))) else none
    | _ => none
  | _ => none
@[simp] noncomputable def xPopP (i : Nat) (p : XP) (j : Nat) : XS := fun ρ => match ρ[i]? with
  | some (.ow o) => (p ρ).bind fun is => match subO o is with
    | some (.lst l) => (match l.getLast? with
      | some (.sh d) => some (.nx ((ρ.set i (.ow (putO o is (.lst l.dropLast)))).set j (.sh d)))
      | _ => none)
    | _ => none
  | _ => none
@[simp] noncomputable def xRevP (i : Nat) (p : XP) : XS := fun ρ => match ρ[i]? with
  | some (.ow o) => (p ρ).bind fun is => match subO o is with
    | some (.lst l) => (match shs l with | some ds => some (.nx (ρ.set i (.ow (putO o is (.lst (ds.reverse.map .sh)))))) | none => none)
    | _ => none
  | _ => none
@[simp] noncomputable def xExtP (i : Nat) (p : XP) (e : XE) : XS := fun ρ => match ρ[i]? with
  | some (.ow o) => (p ρ).bind fun is => (e ρ).bind fun d => match subO o is, d with
    | some (.lst l), .lst ds => if l.length + ds.length ≤ LIM then some (.nx (ρ.set i (.ow (putO o is (.lst (l ++ ds.map .sh)))))) else none
    | _, _ => none
  | _ => none
@[simp] noncomputable def xSetP (i : Nat) (p : XP) (ix e : XE) : XS := fun ρ => (e ρ).bind fun d => match ρ[i]? with
  | some (.ow o) => (p ρ).bind fun is => (ix ρ).bind fun k => match subO o is, k with
    | some (.lst l), .int k => (match shs l with | some ds => (ixN ds.length k).map fun j => .nx (ρ.set i (.ow (putO o is (.lst ((ds.set j d).map .sh))))) | none => none)
    | _, _ => none
  | _ => none
@[simp] noncomputable def xAug (i : Nat) (e : XE) (f : D → D → Option D) : XS := fun ρ => match ρ[i]? with
  | some (.sh x) => (e ρ).bind fun y => (f x y).map fun z => .nx (ρ.set i (.sh z))
  | _ => none
@[simp] noncomputable def xDrop (e : XE) : XS := fun ρ => (e ρ).map fun _ => .nx ρ
end
end M
namespace M
open PySem L2
section
variable {K : PySem.W.Frag} {S S' H H' : Hp}
noncomputable def Walks (K : PySem.W.Frag) (J : It) (S : Hp) (l : List D) : Prop := ∀ S' H', Same S S' → Same S' H' →
  (∀ i d, l[i]? = some d → J.go i H' ∧ ∀ x H'', J.yld i H' x H'' → H'' = H' ∧ Den K S' d x) ∧ J.stop l.length H'
noncomputable def SI (K : PySem.W.Frag) (wi : TI) (e : XA) : Prop := ∀ ρ σ S H (R : It → Hp → Prop) l, Rl K ρ σ S H → e ρ = some l → (∀ J S' H', Ext S H S' H' → Walks K J S' l → R J H') → wi σ H R
noncomputable def seqD : D → Option (List D)
  | .lst l => some l | .tup l => some l | .scr l => some l | _ => none
noncomputable def WalksE (K : PySem.W.Frag) (J : It) (S H : Hp) (l : List D) : Prop := ∀ S' H', Ext S H S' H' →
  (∀ i d, l[i]? = some d → J.go i H' ∧ ∀ x H'', J.yld i H' x H'' → H'' = H' ∧ Den K S' d x) ∧ J.stop l.length H'
noncomputable def SIP (K : PySem.W.Frag) (wi : TI) (e : XA) : Prop := ∀ ρ σ S H (R : It → Hp → Prop) l, Rl K ρ σ S H → e ρ = some l → (∀ J S' H', Ext S H S' H' → WalksE K J S' H' l → R J H') → wi σ H R
theorem SI.p {wi : TI} {e : XA} (h : SI K wi e) : SIP K wi e := fun ρ σ S H R l r x k => h ρ σ S H R l r x fun J S' H' z w => k J S' H' z fun S2 H2 z2 => w S2 H2 z2.sh z2.sub
@[simp] noncomputable def xIt (e : XE) : XA := fun ρ => (e ρ).bind seqD
theorem i_seq {tl : TE} {e : XE} (h : SE K tl e) : SI K (iSeq K tl) (xIt e) := fun ρ σ S H R l r x k => by
  unfold xIt at x
  cases q : e ρ with
  | none => rw [q] at x; cases x
  | some d =>
    rw [q] at x
    dsimp only [Option.bind] at x
    refine h ρ σ S H _ d r q fun v S1 H1 z1 d1 => ?_
    cases d with
    | lst l' =>
      cases x
      obtain ⟨p, xs, rfl, h1, h2⟩ := den_lst.mp d1
      refine ⟨p, rfl, .inl ⟨⟨xs, .inl (rd_mono z1.sub h1)⟩, k _ S1 H1 z1 fun S' H' s1 s2 => ⟨fun i d hd => ?_, xs, .inl (rd_mono (s1.trans s2) h1), Nat.le_of_eq h2.length.symm⟩⟩⟩
      obtain ⟨y, e1, e2⟩ := h2.get hd
      refine ⟨⟨xs, y, .inl (rd_mono (s1.trans s2) h1), e1⟩, fun x H'' hy => ⟨hy.1, ?_⟩⟩
      have := hy.2 xs (.inl (rd_mono (s1.trans s2) h1))
      rw [e1] at this
      cases this
      exact e2.mono s1
    | tup l' =>
      cases x
      obtain ⟨p, xs, rfl, h1, h2⟩ := den_tup.mp d1
      refine ⟨p, rfl, .inr ⟨⟨xs, sqT_mono z1.sub h1⟩, k _ S1 H1 z1 fun S' H' s1 s2 => ⟨fun i d hd => ?_, xs, sqT_mono (s1.trans s2) h1, Nat.le_of_eq h2.length.symm⟩⟩⟩
      obtain ⟨y, e1, e2⟩ := h2.get hd
      refine ⟨⟨xs, y, sqT_mono (s1.trans s2) h1, e1⟩, fun x H'' hy => ⟨hy.1, ?_⟩⟩
      have := hy.2 xs (sqT_mono (s1.trans s2) h1)
      rw [e1] at this
      cases this
      exact e2.mono s1
    | scr l' =>
      cases x
      obtain ⟨p, xs, rfl, h1, h2⟩ := den_scr.mp d1
      refine ⟨p, rfl, .inl ⟨⟨xs, sqL_mono z1.sub h1⟩, k _ S1 H1 z1 fun S' H' s1 s2 => ⟨fun i d hd => ?_, xs, sqL_mono (s1.trans s2) h1, Nat.le_of_eq h2.length.symm⟩⟩⟩
      obtain ⟨y, e1, e2⟩ := h2.get hd
      refine ⟨⟨xs, y, sqL_mono (s1.trans s2) h1, e1⟩, fun x H'' hy => ⟨hy.1, ?_⟩⟩
      have := hy.2 xs (sqL_mono (s1.trans s2) h1)
      rw [e1] at this
      cases this
      exact e2.mono s1
    | _ => cases x
noncomputable def ifC {α : Type} (p : Prop) (a b : α) : α := @ite α p (Classical.propDecidable p) a b
theorem ifC_pos {α : Type} {p : Prop} {a b : α} (h : p) : ifC p a b = a := by unfold ifC; exact if_pos h
theorem ifC_some {α : Type} {p : Prop} {a x : α} (h : ifC p (some a) none = some x) : p ∧ a = x := by
  unfold ifC at h
  by_cases c : p
  · rw [if_pos c] at h; exact ⟨c, Option.some.inj h⟩
  · rw [if_neg c] at h; cases h
noncomputable def intsD (lo : Int) : Nat → List D
  | 0 => []
  | n + 1 => .int lo :: intsD (lo + 1) n
noncomputable def rngD : List D → Option (List D)
  | [.int j] => ifC (j < 1000000 ∧ -1000000 < j) (some (intsD 0 j.toNat)) none
  | [.int i, .int j] => ifC (j < 4000000000000000000 ∧ -4000000000000000000 < i ∧ i < 4000000000000000000 ∧ -4000000000000000000 < j) (some (intsD i (j - i).toNat)) none
  | _ => none
@[simp] noncomputable def xRng (a : XA) : XA := fun ρ => (a ρ).bind rngD
noncomputable def evensD : Nat → Nat → List D
  | _, 0 => []
  | k, n + 1 => .int (2 * k) :: evensD (k + 1) n
noncomputable def rng3D : List D → Option (List D)
  | [.int a, .int j, .int b] => ifC (a = 0 ∧ b = 2 ∧ 0 ≤ j ∧ j < 1000000) (some (evensD 0 ((j + 1) / 2).toNat)) none
  | _ => none
@[simp] noncomputable def xRng3 (a : XA) : XA := fun ρ => (a ρ).bind rng3D
noncomputable def loopF (g : XG) (m : XS) : List D → Env → Option Out
  | [], ρ => some (.nx ρ)
  | d :: l, ρ => (g d ρ).bind fun ρ1 => match m ρ1 with
    | some (.nx ρ2) => loopF g m l ρ2
    | some (.ct ρ2) => loopF g m l ρ2
    | some (.bk ρ2) => some (.nx ρ2)
    | some (.rt d) => some (.rt d)
    | some (.ro d) => some (.ro d)
    | none => none
@[simp] noncomputable def xFor (e : XA) (g : XG) (m : XS) : XS := fun ρ => (e ρ).bind fun l => loopF g m l ρ
theorem drop_get {l : List D} {i : Nat} {d : D} (h : l[i]? = some d) : l.drop i = d :: l.drop (i + 1) := by
  obtain ⟨h1, rfl⟩ := List.getElem?_eq_some_iff.mp h
  exact List.drop_eq_getElem_cons h1
theorem s_for {wi : TI} {g : TG} {tb : TS} {e : XA} {x : XG} {m : XS} (hi : SI K wi e) (hg : SG K g x) (hb : SS K tb m) : SS K (tFor wi g tb) (xFor e x m) := fun A Λ ρ σ S H E o r y k => by
  unfold xFor at y
  cases q : e ρ with
  | none => rw [q] at y; cases y
  | some l =>
    rw [q] at y
    dsimp only [Option.bind] at y
    refine hi ρ σ S H _ l r.toRl q fun J S1 H1 z1 wk => ?_
    have r1 := r.ext z1
    refine ⟨fun i n σ' H' => n = l.length - i ∧ i ≤ l.length ∧ ∃ ρ' S', RlA K A Λ ρ' σ' S' H' ∧ Same S1 S' ∧ loopF x m (l.drop i) ρ' = some o, ⟨_, rfl, Nat.zero_le _, ρ, S1, r1, Same.refl _, y⟩, ?_⟩
    rintro i n σ2 H2 ⟨rfl, hil, ρ2, S2, r2, s2, y2⟩
    obtain ⟨w1, w2⟩ := wk S2 H2 s2 r2.sub
    cases qd : l[i]? with
    | none =>
      have : l.length = i := by have := List.getElem?_eq_none_iff.mp qd; omega
      subst this
      rw [List.drop_of_length_le (Nat.le_refl _)] at y2
      cases y2
      exact .inl ⟨w2, k σ2 S2 H2 r2 (z1.sh.trans s2)⟩
    | some d =>
      obtain ⟨g1, g2⟩ := w1 i d qd
      have hlt := (List.getElem?_eq_some_iff.mp qd).1
      rw [drop_get qd] at y2
      unfold loopF at y2
      cases qx : x d ρ2 with
      | none => rw [qx] at y2; cases y2
      | some ρ3 =>
        rw [qx] at y2
        dsimp only [Option.bind] at y2
        refine .inr ⟨g1, fun σ' H' => ∃ ρ' S', RlA K A Λ ρ' σ' S' H' ∧ Same S1 S' ∧ loopF x m (l.drop (i + 1)) ρ' = some o, fun σ' H' ⟨ρ', S', a1, a2, a3⟩ => ⟨_, by omega, rfl, hlt, ρ', S', a1, a2, a3⟩, fun xv H3 hy => ?_⟩
        obtain ⟨rfl, dx⟩ := g2 xv H3 hy
        refine hg A Λ ρ2 σ2 S2 H3 xv d _ ρ3 r2 dx qx fun σ3 r3 => ?_
        cases qm : m ρ3 with
        | none => rw [qm] at y2; cases y2
        | some om =>
          rw [qm] at y2
          refine hb A Λ ρ3 σ3 S2 H3 _ om r3 qm ?_
          cases om with
          | nx ρ4 => exact fun σ4 S4 H4 r4 s4 => ⟨ρ4, S4, r4, s2.trans s4, y2⟩
          | ct ρ4 => exact fun σ4 S4 H4 r4 s4 => ⟨ρ4, S4, r4, s2.trans s4, y2⟩
          | bk ρ4 => cases y2; exact fun σ4 S4 H4 r4 s4 => k σ4 S4 H4 r4 ((z1.sh.trans s2).trans s4)
          | rt d4 => cases y2; exact fun v S4 H4 s4 => k v S4 H4 ((z1.sh.trans s2).trans s4)
          | ro d4 => cases y2; exact fun v fp S4 H4 s4 => k v fp S4 H4 ((z1.sh.trans s2).trans s4)
@[simp] noncomputable def innX (js : List (Option Nat)) (ρ : Env) : Env := js.map fun o => match o with | none => .un | some j => match ρ[j]? with | some (.sh d) => .sh d | _ => .un
noncomputable def compF (g : XG) (c : XT) (e : XE) (ρ0 : Env) : List D → Option (List D)
  | [] => some []
  | d :: l => (g d ρ0).bind fun ρ1 => (c ρ1).bind fun b => if b = true then (e ρ1).bind fun y => (compF g c e ρ0 l).map fun r => y :: r else compF g c e ρ0 l
@[simp] noncomputable def xComp (js : List (Option Nat)) (w : XA) (g : XG) (c : XT) (e : XE) : XA := fun ρ => (w ρ).bind fun l => if l.length ≤ LIM then compF g c e (innX js ρ) l else none
@[simp] noncomputable def xYes : XT := fun _ => some true
theorem s_yes : ST K fNone xYes := fun ρ σ S H Q b r x k => by cases x; exact k S H (Ext.refl r.sub)
theorem innX_get {js : List (Option Nat)} {ρ : Env} {i : Nat} {s : Sl} (h : (innX js ρ)[i]? = some s) : s = .un ∨ ∃ d j, s = .sh d ∧ js[i]? = some (some j) ∧ ρ[j]? = some (.sh d) := by
  unfold innX at h
  rw [List.getElem?_map] at h
  cases q : js[i]? with
  | none => rw [q] at h; cases h
  | some o =>
    rw [q] at h
    cases o with
    | none => cases h; exact .inl rfl
    | some j =>
      simp only [Option.map_some] at h
      cases q2 : ρ[j]? with
      | none => rw [q2] at h; cases h; exact .inl rfl
      | some s2 =>
        rw [q2] at h
        cases s2 with
        | un => cases h; exact .inl rfl
        | lo => cases h; exact .inl rfl
        | ow l => cases h; exact .inl rfl
        | sh d => cases h; exact .inr ⟨d, j, rfl, rfl, q2⟩
noncomputable def alien (S H : Hp) : Hp := fun b => match S b with | none => H b | some _ => none
theorem alien_sub {S H : Hp} : Same (alien S H) H := fun b o h => by
  unfold alien at h
  cases q : S b with
  | none => rw [q] at h; exact h
  | some _ => rw [q] at h; cases h
theorem alien_dis {S H : Hp} (b : Addr) : S b = none ∨ alien S H b = none := by
  unfold alien
  cases q : S b with
  | none => exact .inl rfl
  | some _ => exact .inr rfl
theorem alien_of {S H : Hp} {b : Addr} {o : HO} (h : H b = some o) (n : S b = none) : alien S H b = some o := by
  unfold alien
  rw [n]
  exact h
theorem rl_inn {ρ : Env} {σ : St} (r : Rl K ρ σ S H) (js : List (Option Nat)) : RlA K (alien S H) (fun _ => none) (innX js ρ) (inn js σ) S H := by
  refine ⟨fun _ => [], ?_⟩
  exact {
    len := by unfold innX inn; rw [List.length_map, List.length_map]
    sub := r.sub
    sh := fun i d h => by
      rcases innX_get h with e | ⟨d', j, e, h1, h2⟩
      · cases e
      · cases e
        obtain ⟨v, k1, k2⟩ := r.sh j d h2
        refine ⟨v, ?_, k2⟩
        unfold inn
        rw [List.getElem?_map, h1]
        show some ((σ[j]?).join) = some (some v)
        rw [k1]
        rfl
    ow := fun i o h => by
      rcases innX_get h with e | ⟨d', j, e, h1, h2⟩
      · cases e
      · cases e
    dj := fun i j o o' _ h => by
      rcases innX_get h with e | ⟨d', j, e, h1, h2⟩
      · cases e
      · cases e
    lo := fun i h => by
      rcases innX_get h with e | ⟨d', j, e, h1, h2⟩
      · cases e
      · cases e
    asub := alien_sub
    adis := alien_dis }
theorem s_comp {js : List (Option Nat)} {wi : TI} {g : TG} {tt : TIf} {te : TE} {w : XA} {x : XG} {c : XT} {e : XE} (hi : SIP K wi w) (hg : SG K g x) (hc : ST K tt c) (he : SE K te e) : SF K (tComp js wi g tt te) (xComp js w x c e) := fun ρ σ S H Q l r y k => by
  unfold xComp at y
  cases q : w ρ with
  | none => rw [q] at y; cases y
  | some ds =>
    rw [q] at y
    dsimp only [Option.bind] at y
    split at y
    · rename_i hlim
      refine hi ρ σ S H _ ds r q fun J S1 H1 z1 wk D hD => ?_
      have r1 := r.ext z1
      have hD0 : H D = none := (z1.same r.sub).free hD
      -- the word: what is told so far, what is still to be told
      refine ⟨fun i n H' => n = ds.length - i ∧ i ≤ ds.length ∧ ∃ S' done ys rest, Ext S1 H1 S' H' ∧ Same S1 S' ∧ H' D = some (.lst ys) ∧ S' D = none ∧ Dens K S' done ys ∧ done.length ≤ i ∧ compF x c e (innX js ρ) (ds.drop i) = some rest ∧ l = done ++ rest,
        ⟨_, rfl, Nat.zero_le _, S1, [], [], l, Ext.own z1.sub hD, Same.refl _, upd_same, z1.sub.free hD, .nil, Nat.zero_le _, y, rfl⟩, ?_⟩
      rintro i n H2 ⟨rfl, hil, S2, done, ys, rest, z2, s2, hy, hSD, dy, hdl, y2, rfl⟩
      obtain ⟨w1, w2⟩ := wk S2 H2 z2
      cases qd : ds[i]? with
      | none =>
        have : ds.length = i := by have := List.getElem?_eq_none_iff.mp qd; omega
        subst this
        rw [List.drop_of_length_le (Nat.le_refl _)] at y2
        cases y2
        rw [List.append_nil] at k
        exact .inl ⟨w2, k D ys S2 H2 (z1.trans z2) hD0 hSD hy dy⟩
      | some d =>
        obtain ⟨g1, g2⟩ := w1 i d qd
        have hlt := (List.getElem?_eq_some_iff.mp qd).1
        rw [drop_get qd] at y2
        unfold compF at y2
        cases qx : x d (innX js ρ) with
        | none => rw [qx] at y2; cases y2
        | some ρ3 =>
          rw [qx] at y2
          dsimp only [Option.bind] at y2
          refine .inr ⟨g1, fun xv H3 hyl => ?_⟩
          obtain ⟨rfl, dx⟩ := g2 xv H3 hyl
          have ri := rl_inn (r1.ext z2) js
          refine hg _ _ _ _ S2 H3 xv d _ ρ3 ri dx qx fun σ3 r3 => ?_
          cases qc : c ρ3 with
          | none => rw [qc] at y2; cases y2
          | some b =>
            rw [qc] at y2
            dsimp only at y2
            refine hc ρ3 σ3 S2 H3 _ b r3.toRl qc fun S4 H4 z4 => ?_
            obtain ⟨al1, al2⟩ := z4.al D _ hy hSD
            cases b with
            | false =>
              rw [if_neg (by decide)] at y2
              exact iteF ⟨_, by omega, rfl, hlt, S4, done, ys, rest, z2.trans z4, s2.trans z4.sh, al1, al2, dy.mono z4.sh, by omega, y2, rfl⟩
            | true =>
              rw [if_pos rfl] at y2
              cases qe : e ρ3 with
              | none => rw [qe] at y2; cases y2
              | some dv =>
                rw [qe] at y2
                dsimp only at y2
                cases qr : compF x c e (innX js ρ) (ds.drop (i + 1)) with
                | none => rw [qr] at y2; cases y2
                | some rest2 =>
                  rw [qr] at y2
                  cases y2
                  refine iteT (he ρ3 σ3 S4 H4 _ dv (r3.toRl.ext z4) qe fun v S5 H5 z5 d5 => ?_)
                  obtain ⟨b1, b2⟩ := z5.al D _ al1 al2
                  refine ⟨ys, b1, ?_, _, by omega, rfl, hlt, S5, done ++ [dv], ys ++ [v], rest2, ?_, (s2.trans z4.sh).trans z5.sh, upd_same, b2, ((dy.mono z4.sh).mono z5.sh).append (.cons d5 .nil), by rw [List.length_append, List.length_singleton]; omega, qr, by rw [List.append_assoc]; rfl⟩
                  · rw [← dy.length]
                    exact Nat.lt_of_lt_of_le (Nat.lt_of_le_of_lt hdl hlt) (Nat.le_trans hlim (Nat.le_of_lt lim_lt))
                  · have z6 := (z2.trans z4).trans z5
                    exact ⟨z6.sh, fun b u hb => by rw [upd_ne fun z => by subst z; rw [b2] at hb; cases hb]; exact z6.sub b u hb, fun b o hb hn => by
                      obtain ⟨c1, c2⟩ := z6.al b o hb hn
                      exact ⟨by rw [upd_ne fun z => by subst z; rw [hD] at hb; cases hb]; exact c1, c2⟩⟩
    · cases y
@[simp] noncomputable def xForO (i : Nat) (g : XG) (m : XS) : XS := fun ρ => match ρ[i]? with
  | some (.ow (.lst os)) => (match shs os with
    | some l => (match loopF g m l (ρ.set i .lo) with
      | some (.nx ρ') => (match ρ'[i]? with | some .lo => some (.nx (ρ'.set i (.ow (.lst os)))) | _ => none)
      | some (.rt d) => some (.rt d)
      | _ => none)
    | none => none)
  | _ => none
noncomputable def fnO (n : Nat) (x : XS) (ds : List D) : Option O := match x (ds.map .sh ++ List.replicate (n - ds.length) .un) with
  | some (.rt d) => some (.sh d)
  | some (.ro o) => some o
  | some (.nx _) => some (.sh .non)
  | _ => none
theorem rl_start {N : List Str} {ds : List D} {vs : List V} (s : Same S H) (h : Dens K S ds vs) : RlA K (alien S H) (fun _ => none) (ds.map .sh ++ List.replicate (N.length - ds.length) .un) (L2.start N vs) S H := by
  have hl := h.length
  have key : ∀ (i : Nat) t, (ds.map Sl.sh ++ List.replicate (N.length - ds.length) .un)[i]? = some t → t = .un ∨ ∃ d v, t = .sh d ∧ (L2.start N vs)[i]? = some (some v) ∧ Den K S d v := fun i t ht => by
    by_cases hi : i < ds.length
    · rw [List.getElem?_append_left (by rw [List.length_map]; exact hi), List.getElem?_map] at ht
      cases q : ds[i]? with
      | none => rw [q] at ht; cases ht
      | some d =>
        rw [q] at ht
        cases ht
        obtain ⟨v, e1, e2⟩ := h.get q
        refine .inr ⟨d, v, rfl, ?_, e2⟩
        unfold L2.start
        rw [List.getElem?_append_left (by rw [List.length_map]; omega), List.getElem?_map, e1]
        rfl
    · rw [List.getElem?_append_right (by rw [List.length_map]; omega), List.getElem?_replicate] at ht
      split at ht
      · cases ht; exact .inl rfl
      · cases ht
  refine ⟨fun _ => [], ?_⟩
  exact {
    len := by unfold L2.start; rw [List.length_append, List.length_append, List.length_map, List.length_map, List.length_replicate, List.length_replicate, hl]
    sub := s
    sh := fun i d hi => by
      rcases key i _ hi with e | ⟨d', v, e, h1, h2⟩
      · cases e
      · cases e; exact ⟨v, h1, h2⟩
    ow := fun i o hi => by
      rcases key i _ hi with e | ⟨d', v, e, h1, h2⟩
      · cases e
      · cases e
    dj := fun i j o o' _ hi => by
      rcases key i _ hi with e | ⟨d', v, e, h1, h2⟩
      · cases e
      · cases e
    lo := fun i hi => by
      rcases key i _ hi with e | ⟨d', v, e, h1, h2⟩
      · cases e
      · cases e
    asub := alien_sub
    adis := alien_dis }
theorem rd_of {t : TS} {x : XS} {N : List Str} {n k : Nat} {vs : List V} {H : Hp} {Q : VK} {E : XK} (hs : SS K t x) (hN : N.length = n) (h : spOf K k (fnO n x) vs H Q E) :
    t { nx := fun _ H' => Q .non H', rt := Q } (L2.start N vs) H := by
  obtain ⟨_, S, ds, d, s, dd, y, q⟩ := h
  subst hN
  unfold fnO at y
  have r := rl_start (N := N) s dd
  have ex : ∀ {S' H' : Hp}, Same S S' → Same S' H' → Same (alien S H) H' → (∀ b, S' b = none ∨ alien S H b = none) → Ext S H S' H' := fun s1 s2 s3 s4 => ⟨s1, s2, fun b o hb hn => by
    have ha := alien_of hb hn
    refine ⟨s3 b o ha, ?_⟩
    rcases s4 b with z | z
    · exact z
    · rw [ha] at z; cases z⟩
  cases qx : x (ds.map .sh ++ List.replicate (N.length - ds.length) .un) with
  | none => rw [qx] at y; cases y
  | some o =>
    rw [qx] at y
    refine hs _ _ _ _ S H _ o r qx ?_
    cases o with
    | rt d' =>
      cases y
      exact fun v S' H' s1 s2 s3 s4 dv => q v [] S' H' (ex s1 s2 s3 s4) (own_sh.mpr ⟨rfl, dv⟩) .nil fun b hb => by cases hb
    | ro o' =>
      cases y
      refine fun v fp S' H' s1 s2 s3 s4 ow nd n => q v fp S' H' (ex s1 s2 s3 s4) ow nd fun b hb => ⟨?_, (n b hb).1⟩
      cases qb : H b with
      | none => rfl
      | some u =>
        have := alien_of qb (s1.free (n b hb).1)
        rw [(n b hb).2] at this; cases this
    | nx ρ' =>
      cases y
      exact fun σ' S' H' r' s1 => q .non [] S' H' (ex s1 r'.sub r'.asub r'.adis) (own_sh.mpr ⟨rfl, den_non.mpr rfl⟩) .nil fun b hb => by cases hb
    | bk ρ' => cases y
    | ct ρ' => cases y
end
end M
namespace M
open PySem L2
noncomputable def dI (f : Int → Int → Option D) : D → D → Option D
  | .int i, .int j => f i j
  | _, _ => none
noncomputable def dMul : D → D → Option D := dI fun i j => ifC ((-18446744073709551616 < i ∧ i < 18446744073709551616) ∨ (-18446744073709551616 < j ∧ j < 18446744073709551616)) (some (.int (i * j))) none
noncomputable def dDiv : D → D → Option D := dI fun i j => ifC (0 < j ∧ j < 1073741824) (some (.int (i / j))) none
noncomputable def dMod : D → D → Option D := dI fun i j => ifC (0 < j) (some (.int (i % j))) none
noncomputable def dPow : D → D → Option D := dI fun i j => ifC (0 ≤ j ∧ j ≤ 1000000 ∧ i.natAbs < 18446744073709551616) (some (.int (i ^ j.toNat))) none
noncomputable def dSub : D → D → Option D := dI fun i j => some (.int (i - j))
noncomputable def dLt : D → D → Option D := dI fun i j => some (.bl (decide (i < j)))
noncomputable def dLe : D → D → Option D := dI fun i j => some (.bl (decide (i ≤ j)))
noncomputable def dGt : D → D → Option D := dI fun i j => some (.bl (decide (j < i)))
noncomputable def dGe : D → D → Option D := dI fun i j => some (.bl (decide (j ≤ i)))
noncomputable def dNeg : D → Option D
  | .int i => some (.int (-i))
  | _ => none
section
variable {K : PySem.W.Frag}
theorem r_i {C : Int → Int → Prop} {g : Int → Int → V} {f : Int → Int → Option D} (h : ∀ i j d, f i j = some d → C i j ∧ flat d = some (g i j)) : SR2 K (rI C g) (dI f) := fun S H x y d e z Q s dx dy q k => by
  cases d <;> cases e <;> try cases q
  rename_i i j
  obtain ⟨h1, h2⟩ := h i j z q
  exact ⟨i, j, dx.int, dy.int, h1, k _ S H (Ext.refl s) (den_flat h2)⟩
theorem r_i0 {g : Int → Int → V} {f : Int → Int → Option D} (h : ∀ i j d, f i j = some d → flat d = some (g i j)) : SR2 K (rI0 g) (dI f) := fun S H x y d e z Q s dx dy q k => by
  cases d <;> cases e <;> try cases q
  rename_i i j
  exact ⟨i, j, dx.int, dy.int, k _ S H (Ext.refl s) (den_flat (h i j z q))⟩
theorem r_mul : SR2 K (rI CMul fun i j => .int (i * j)) dMul := r_i fun i j d h => by
  obtain ⟨c, rfl⟩ := ifC_some h
  refine ⟨?_, rfl⟩
  unfold CMul
  have : (2 : Int) ^ 64 = 18446744073709551616 := by decide
  rw [this]
  exact c
theorem r_div : SR2 K (rI CDiv fun i j => .int (i / j)) dDiv := r_i fun i j d h => by
  obtain ⟨c, rfl⟩ := ifC_some h
  exact ⟨c, rfl⟩
theorem r_mod : SR2 K (rI (fun _ j => 0 < j) fun i j => .int (i % j)) dMod := r_i fun i j d h => by
  obtain ⟨c, rfl⟩ := ifC_some h
  exact ⟨c, rfl⟩
theorem r_pow : SR2 K (rI CPow fun i j => .int (i ^ j.toNat)) dPow := r_i fun i j d h => by
  obtain ⟨c, rfl⟩ := ifC_some h
  refine ⟨?_, rfl⟩
  unfold CPow
  have : (2 : Nat) ^ 64 = 18446744073709551616 := by decide
  rw [this]
  exact c
theorem r_sub : SR2 K (rI0 fun i j => .int (i - j)) dSub := r_i0 fun i j d h => by cases h; rfl
theorem r_lt : SR2 K (rI0 fun i j => .bl (decide (i < j))) dLt := r_i0 fun i j d h => by cases h; rfl
theorem r_gt : SR2 K (rI0 fun i j => .bl (decide (j < i))) dGt := r_i0 fun i j d h => by cases h; rfl
end
noncomputable def rCatM : R2 := fun x y H Q => ∃ l b xs zs, x = .ref l ∧ y = .ref b ∧ Rd H l (.lst xs) ∧ Rd H b (.lst zs) ∧ xs.length + zs.length ≤ sizeLine ∧ ∀ p, H p = none → Q (.ref p) (upd H p (.lst (xs ++ zs)))
noncomputable def rTupM (K : PySem.W.Frag) : R2 := fun x y H Q => ∃ a b xs ys, x = .ref a ∧ y = .ref b ∧ SqT K H a xs ∧ SqT K H b ys ∧ xs.length + ys.length ≤ sizeLine ∧
  (ys = [] → Q (.ref a) H) ∧ (xs = [] → Q (.ref b) H) ∧ ∀ p, H p = none → Q (.ref p) (upd H p (.tup (xs ++ ys)))
noncomputable def rStrM : R2 := fun x y H Q => ∃ i j, x = .str i ∧ y = .str j ∧ i.length + j.length ≤ sizeLine ∧ Q (.str (i ++ j)) H
noncomputable def rAddM (K : PySem.W.Frag) : R2 := fun x y H Q => (∃ i j, x = .int i ∧ y = .int j ∧ Q (.int (i + j)) H) ∨ rCatM x y H Q ∨ rTupM K x y H Q ∨ rStrM x y H Q
noncomputable def dAdd : D → D → Option D
  | .int i, .int j => some (.int (i + j))
  | .lst a, .lst b => if a.length + b.length ≤ LIM then some (.lst (a ++ b)) else none
  | .tup a, .tup b => if a.length + b.length ≤ LIM then some (.tup (a ++ b)) else none
  | .str a, .str b => if a.length + b.length ≤ LIM then some (.str (a ++ b)) else none
  | _, _ => none
section
variable {K : PySem.W.Frag}
theorem Dens.nil_iff {S : Hp} {ds : List D} {xs : List V} (h : Dens K S ds xs) : xs = [] ↔ ds = [] := by
  have := h.length
  cases ds <;> cases xs <;> simp_all
theorem lim_le {n : Nat} (h : n ≤ LIM) : n ≤ sizeLine := Nat.le_of_lt (Nat.lt_of_le_of_lt h lim_lt)
theorem r_add : SR2 K (rAddM K) dAdd := fun S H x y d e z Q s dx dy q k => by
  cases d <;> cases e <;> try (cases q; done)
  · rename_i i j
    cases q
    exact .inl ⟨i, j, dx.int, dy.int, k _ S H (Ext.refl s) (den_int.mpr rfl)⟩
  · rename_i i j
    have q' : (if i.length + j.length ≤ LIM then some (D.str (i ++ j)) else none) = some z := q
    split at q'
    · rename_i hl
      cases q'
      exact .inr (.inr (.inr ⟨i, j, dx.str, dy.str, lim_le hl, k _ S H (Ext.refl s) (den_str.mpr rfl)⟩))
    · cases q'
  · rename_i a b
    have q' : (if a.length + b.length ≤ LIM then some (D.lst (a ++ b)) else none) = some z := q
    split at q'
    · rename_i hl
      cases q'
      obtain ⟨p, xs, rfl, h1, h2⟩ := dx.lst s
      obtain ⟨p', ys, rfl, h3, h4⟩ := dy.lst s
      refine .inr (.inl ⟨p, p', xs, ys, rfl, rfl, h1, h3, by rw [← h2.length, ← h4.length]; exact lim_le hl, fun q hq => ?_⟩)
      have z := Ext.new (o := .lst (xs ++ ys)) s hq
      exact k _ _ _ z (den_lst.mpr ⟨q, _, rfl, .inl upd_same, (h2.append h4).mono z.sh⟩)
    · cases q'
  · rename_i a b
    have q' : (if a.length + b.length ≤ LIM then some (D.tup (a ++ b)) else none) = some z := q
    split at q'
    · rename_i hl
      cases q'
      obtain ⟨p, xs, e1, h1, h2⟩ := dx.tup s
      obtain ⟨p', ys, e2, h3, h4⟩ := dy.tup s
      have dx' : Den K S (.tup a) x := dx.elim id fun ⟨_, _, _, e, _⟩ => by cases e
      have dy' : Den K S (.tup b) y := dy.elim id fun ⟨_, _, _, e, _⟩ => by cases e
      subst e1 e2
      refine .inr (.inr (.inl ⟨p, p', xs, ys, rfl, rfl, h1, h3, by rw [← h2.length, ← h4.length]; exact lim_le hl, fun e => ?_, fun e => ?_, fun q hq => ?_⟩))
      · have := h4.nil_iff.mp e
        subst this
        exact k _ S H (Ext.refl s) (by rw [List.append_nil]; exact dx')
      · have := h2.nil_iff.mp e
        subst this
        exact k _ S H (Ext.refl s) (by rw [List.nil_append]; exact dy')
      · have z := Ext.new (o := .tup (xs ++ ys)) s hq
        exact k _ _ _ z (den_tup.mpr ⟨q, _, rfl, SqT.of upd_same, (h2.append h4).mono z.sh⟩)
    · cases q'
end
mutual
noncomputable def eqD : D → D → Bool
  | .non, .non => true
  | .bl a, .bl b => a == b
  | .bl a, .int j => (if a then 1 else 0) == j
  | .int i, .bl b => i == (if b then 1 else 0)
  | .int i, .int j => i == j
  | .str x, .str y => x == y
  | .lst a, .lst b => eqDs a b
  | .tup a, .tup b => eqDs a b
  | _, _ => false
noncomputable def eqDs : List D → List D → Bool
  | [], [] => true
  | x :: xs, y :: ys => eqD x y && eqDs xs ys
  | _, _ => false
end
mutual
noncomputable def okD : Nat → D → Bool
  | _, .non => true
  | _, .bl _ => true
  | _, .int _ => true
  | _, .str x => PyData.strOk x
  | n + 1, .lst l => okDs n l
  | n + 1, .tup l => okDs n l
  | _, _ => false
noncomputable def okDs : Nat → List D → Bool
  | _, [] => true
  | n, d :: l => okD n d && okDs n l
end
noncomputable def rEqM (K : PySem.W.Frag) (neg : Bool) : R2 := fun x y H Q => ∃ S d e, Same S H ∧ DenP K S H d x ∧ DenP K S H e y ∧ okD 50 d = true ∧ okD 50 e = true ∧ Q (.bl (if neg then !eqD d e else eqD d e)) H
noncomputable def dEq (neg : Bool) (d e : D) : Option D := if okD 50 d = true ∧ okD 50 e = true then some (.bl (if neg then !eqD d e else eqD d e)) else none
section
variable {K : PySem.W.Frag}
theorem r_eq (neg : Bool) : SR2 K (rEqM K neg) (dEq neg) := fun S H x y d e z Q s dx dy q k => by
  unfold dEq at q
  split at q
  · rename_i c
    cases q
    exact ⟨S, d, e, s, dx, dy, c.1, c.2, k _ S H (Ext.refl s) (den_bl.mpr rfl)⟩
  · cases q
end
noncomputable def isNon : D → Bool
  | .non => true | _ => false
noncomputable def dIsN (neg : Bool) (d e : D) : Option D := match e with | .non => some (.bl (if neg then !isNon d else isNon d)) | _ => none
section
variable {K : PySem.W.Frag}
end
noncomputable def dIx : D → D → Option D
  | .lst l, .int i => atI l i
  | .tup l, .int i => atI l i
  | .scr l, .int i => atI l i
  | .str x, .int i => if x.length ≤ LIM then (atI x.cps.toList i).map fun c => .str ⟨#[c]⟩ else none
  | _, _ => none
section
variable {K : PySem.W.Frag}
theorem atI_dens {S : Hp} {ds : List D} {xs : List V} {i : Int} {d : D} (h : Dens K S ds xs) (e : atI ds i = some d) : ∃ v, atI xs i = some v ∧ Den K S d v := by
  unfold atI at e ⊢
  rw [← h.length]
  cases q : ixN ds.length i with
  | none => rw [q] at e; cases e
  | some j =>
    rw [q] at e
    exact h.get e
theorem r_ix : SR2 K (rIx K) dIx := fun S H x y d e z Q s dx dy q k => by
  cases d <;> cases e <;> try (cases q; done)
  · rename_i x' i
    have q' : (if x'.length ≤ LIM then (atI x'.cps.toList i).map fun c => D.str ⟨#[c]⟩ else none) = some z := q
    split at q'
    · rename_i hl
      cases qc : atI x'.cps.toList i with
      | none => rw [qc] at q'; cases q'
      | some c =>
        rw [qc] at q'
        cases q'
        exact .inr (.inr ⟨x', i, c, dx.str, dy.int, lim_le hl, qc, k _ S H (Ext.refl s) (den_str.mpr rfl)⟩)
    · cases q'
  · rename_i l i
    obtain ⟨p, xs, rfl, h1, h2⟩ := dx.lst s
    obtain ⟨v, h3, h4⟩ := atI_dens h2 q
    exact .inl ⟨p, xs, i, v, rfl, dy.int, .inl h1, h3, k v S H (Ext.refl s) h4⟩
  · rename_i l i
    obtain ⟨p, xs, rfl, h1, h2⟩ := dx.tup s
    obtain ⟨v, h3, h4⟩ := atI_dens h2 q
    exact .inr (.inl ⟨p, xs, i, v, rfl, dy.int, h1, h3, k v S H (Ext.refl s) h4⟩)
  · rename_i l i
    obtain ⟨p, xs, rfl, h1, h2⟩ := dx.scr s
    obtain ⟨v, h3, h4⟩ := atI_dens h2 q
    exact .inl ⟨p, xs, i, v, rfl, dy.int, h1, h3, k v S H (Ext.refl s) h4⟩
end
noncomputable def cutD {α : Type} (xs : List α) (lo hi : Option Int) : List α := (xs.drop (HT.sIx xs.length 0 lo)).take (HT.sIx xs.length xs.length hi - HT.sIx xs.length 0 lo)
noncomputable def rSlM (K : PySem.W.Frag) : V → Option Int → Option Int → Hp → VK → Prop := fun x lo hi H Q => rSlL K x lo hi H Q ∨
  ∃ a xs, x = .ref a ∧ SqT K H a xs ∧ (cutV xs lo hi = xs → Q (.ref a) H) ∧ ∀ p, H p = none → Q (.ref p) (upd H p (.tup (cutV xs lo hi)))
noncomputable abbrev XO := Env → Option (Option Int)
noncomputable def SO (K : PySem.W.Frag) (t : TO) (o : XO) : Prop := ∀ ρ σ S H (Q : Option Int → Hp → Prop) i, Rl K ρ σ S H → o ρ = some i → (∀ S' H', Ext S H S' H' → Q i H') → t σ H Q
@[simp] noncomputable def xNoPart : XO := fun _ => some none
@[simp] noncomputable def xPart (a : XE) : XO := fun ρ => (a ρ).bind fun d => match d with | .int i => some (some i) | _ => none
section
variable {K : PySem.W.Frag}
theorem s_noPart : SO K tNoPart xNoPart := fun ρ σ S H Q i r x k => by cases x; exact k S H (Ext.refl r.sub)
theorem s_part {ta : TE} {a : XE} (h : SPk K ta a) : SO K (tPart ta) (xPart a) := fun ρ σ S H Q i r x k => by
  unfold xPart at x
  cases q : a ρ with
  | none => rw [q] at x; cases x
  | some d =>
    rw [q] at x
    dsimp only [Option.bind] at x
    cases d <;> try (cases x; done)
    rename_i j
    cases x
    exact h ρ σ S H _ _ r q fun v S1 H1 z1 d1 => ⟨j, d1.int, k S1 H1 z1⟩
theorem cut_dens {S : Hp} {ds : List D} {xs : List V} (h : Dens K S ds xs) (lo hi : Option Int) : Dens K S (cutD ds lo hi) (cutV xs lo hi) := by
  unfold cutD cutV
  rw [h.length]
  exact (h.drop _).take _
noncomputable def dSl (d : D) (lo hi : Option Int) : Option D := match d with
  | .lst l => some (.lst (cutD l lo hi))
  | .tup l => some (.tup (cutD l lo hi))
  | .scr l => some (.lst (cutD l lo hi))
  | _ => none
@[simp] noncomputable def xSl (a : XE) (lo hi : XO) : XE := fun ρ => (a ρ).bind fun d => (lo ρ).bind fun l => (hi ρ).bind fun h => dSl d l h
theorem s_sl {te : TE} {tl th : TO} {a : XE} {lo hi : XO} (ha : SPk K te a) (hl : SO K tl lo) (hh : SO K th hi) : SE K (tSl (rSlM K) te tl th) (xSl a lo hi) := fun ρ σ S H Q g r x k => by
  unfold xSl at x
  cases q : a ρ with
  | none => rw [q] at x; cases x
  | some d =>
    rw [q] at x
    dsimp only [Option.bind] at x
    cases ql : lo ρ with
    | none => rw [ql] at x; cases x
    | some l =>
      rw [ql] at x
      dsimp only at x
      cases qh : hi ρ with
      | none => rw [qh] at x; cases x
      | some h =>
        rw [qh] at x
        dsimp only at x
        refine ha ρ σ S H _ d r q fun v S1 H1 z1 d1 => ?_
        have r1 := r.ext z1
        refine hl ρ σ S1 H1 _ l r1 ql fun S2 H2 z2 => ?_
        have r2 := r1.ext z2
        refine hh ρ σ S2 H2 _ h r2 qh fun S3 H3 z3 => ?_
        have z23 := z2.trans z3
        have d3 := d1.mono z23 r1.sub
        have s3 := (r2.ext z3).sub
        have z := z1.trans z23
        cases d <;> try (cases x; done)
        · cases x
          obtain ⟨p, xs, rfl, h1, h2⟩ := d3.lst s3
          refine .inl ⟨p, xs, rfl, .inl h1, fun p' hp => ?_⟩
          have z4 := Ext.new (o := .lst (cutV xs l h)) s3 hp
          exact k _ _ _ (z.trans z4) (den_lst.mpr ⟨p', _, rfl, .inl upd_same, (cut_dens h2 l h).mono z4.sh⟩)
        · rename_i ds
          cases x
          have d3' : Den K S3 (.tup ds) v := d3.elim id fun ⟨_, _, _, e, _⟩ => by cases e
          obtain ⟨p, xs, e, h1, h2⟩ := d3.tup s3
          subst e
          refine .inr ⟨p, xs, rfl, h1, fun e => k _ S3 H3 z ?_, fun p' hp => ?_⟩
          · obtain ⟨p2, xs2, e2, h3, h4⟩ := den_tup.mp d3'
            cases e2
            have c := cut_dens h2 l h
            rw [e] at c
            refine den_tup.mpr ⟨p, xs2, rfl, h3, ?_⟩
            have hlen := c.length
            have : cutD ds l h = ds := by
              have hl2 : (cutD ds l h).length = ds.length := by rw [c.length, h2.length]
              unfold cutD at hl2 ⊢
              rw [List.length_take, List.length_drop] at hl2
              have a0 : HT.sIx ds.length 0 l = 0 ∨ ds.length = 0 := by omega
              rcases a0 with a0 | a0
              · rw [a0, List.drop_zero] at *
                exact List.take_of_length_le (by omega)
              · have : ds = [] := List.length_eq_zero_iff.mp a0
                subst this
                simp
            rw [this]
            exact h4
          · have z4 := Ext.new (o := .tup (cutV xs l h)) s3 hp
            exact k _ _ _ (z.trans z4) (den_tup.mpr ⟨p', _, rfl, SqT.of upd_same, (cut_dens h2 l h).mono z4.sh⟩)
        · cases x
          obtain ⟨p, xs, rfl, h1, h2⟩ := d3.scr s3
          refine .inl ⟨p, xs, rfl, h1, fun p' hp => ?_⟩
          have z4 := Ext.new (o := .lst (cutV xs l h)) s3 hp
          exact k _ _ _ (z.trans z4) (den_lst.mpr ⟨p', _, rfl, .inl upd_same, (cut_dens h2 l h).mono z4.sh⟩)
noncomputable def rLenM (K : PySem.W.Frag) : List V → Hp → VK → Prop := fun xs H Q => ∃ x n, xs = [x] ∧ LenV K x H n ∧ Q (.int n) H
noncomputable def bLen : List D → Option D
  | [.lst l] => some (.int l.length)
  | [.tup l] => some (.int l.length)
  | [.scr l] => some (.int l.length)
  | [.str x] => if x.length ≤ LIM then some (.int x.length) else none
  | _ => none
theorem one_of {S H : Hp} {d : D} {vs : List V} (h : DensP K S H [d] vs) : ∃ v, vs = [v] ∧ DenP K S H d v := by
  cases h with
  | cons a b => cases b; exact ⟨_, rfl, a⟩
theorem two_of {S H : Hp} {d e : D} {vs : List V} (h : DensP K S H [d, e] vs) : ∃ v w, vs = [v, w] ∧ DenP K S H d v ∧ DenP K S H e w := by
  cases h with
  | cons a b => cases b with
    | cons c b => cases b; exact ⟨_, _, rfl, a, c⟩
theorem b_len : SRB K (rLenM K) bLen := fun S H vs ds g Q s d q k => by
  unfold bLen at q
  split at q
  · rename_i l
    cases q
    obtain ⟨v, rfl, d1⟩ := one_of d
    obtain ⟨p, xs, rfl, h1, h2⟩ := d1.lst s
    exact ⟨_, xs.length, rfl, .inl ⟨xs, .inl h1, rfl⟩, k _ S H (Ext.refl s) (den_int.mpr (by rw [h2.length]))⟩
  · rename_i l
    cases q
    obtain ⟨v, rfl, d1⟩ := one_of d
    obtain ⟨p, xs, rfl, h1, h2⟩ := d1.tup s
    exact ⟨_, xs.length, rfl, .inr ⟨xs, h1, rfl⟩, k _ S H (Ext.refl s) (den_int.mpr (by rw [h2.length]))⟩
  · rename_i l
    cases q
    obtain ⟨v, rfl, d1⟩ := one_of d
    obtain ⟨p, xs, rfl, h1, h2⟩ := d1.scr s
    exact ⟨_, xs.length, rfl, .inl ⟨xs, h1, rfl⟩, k _ S H (Ext.refl s) (den_int.mpr (by rw [h2.length]))⟩
  · rename_i x
    split at q
    · rename_i hl
      cases q
      obtain ⟨v, rfl, d1⟩ := one_of d
      exact ⟨_, x.length, rfl, by rw [d1.str]; exact ⟨lim_le hl, rfl⟩, k _ S H (Ext.refl s) (den_int.mpr rfl)⟩
    · cases q
  · cases q
noncomputable def bTuple : List D → Option D
  | [.lst l] => some (.tup l)
  | [.tup l] => some (.tup l)
  | [.scr l] => some (.tup l)
  | _ => none
noncomputable def bList : List D → Option (List D)
  | [.lst l] => some l
  | [.tup l] => some l
  | [.scr l] => some l
  | _ => none
noncomputable def bMax2 : List D → Option D
  | [.int i, .int j] => some (.int (if j > i then j else i))
  | _ => none
noncomputable def bMin2 : List D → Option D
  | [.int i, .int j] => some (.int (if j < i then j else i))
  | _ => none
noncomputable def intsOf : List D → Option (List Int)
  | [] => some []
  | .int i :: l => (intsOf l).map fun r => i :: r
  | _ => none
noncomputable def bInt : List D → Option D
  | [.int i] => some (.int i)
  | [.bl b] => some (.int (if b then 1 else 0))
  | _ => none
@[simp] noncomputable def xRevL (a : XE) : XA := fun ρ => (a ρ).bind fun d => match d with | .lst l => some l.reverse | _ => none
noncomputable def tyD : D → Option String
  | .non => some "NoneType" | .bl _ => some "bool" | .int _ => some "int" | .str _ => some "str" | .lst _ => some "list" | .tup _ => some "tuple" | _ => none
noncomputable def subM (t T : String) : Bool := t == T || (t == "bool" && T == "int")
noncomputable def tyM (K : PySem.W.Frag) (H : Hp) (x : V) (t : String) : Prop := match x with
  | .non => t = "NoneType" | .bl _ => t = "bool" | .int _ => t = "int" | .str _ => t = "str"
  | .ref p => (t = "list" ∧ ∃ xs, Rd H p (.lst xs)) ∨ (t = "tuple" ∧ ∃ xs, SqT K H p xs)
  | _ => False
noncomputable def isiM : List String := ["bool", "int", "str", "list", "tuple"]
noncomputable def rIsiM (K : PySem.W.Frag) : List V → Hp → VK → Prop := fun xs H Q => ∃ x T t, xs = [x, .ty T] ∧ tyM K H x t ∧ T ∈ isiM ∧ Q (.bl (subM t T)) H
noncomputable def bIsi : List D → Option D
  | [d, .ty T] => if T ∈ isiM then (tyD d).map fun t => .bl (subM t T) else none
  | _ => none
theorem ty_of {S H : Hp} {d : D} {v : V} {t : String} (s : Same S H) (h : DenP K S H d v) (e : tyD d = some t) : tyM K H v t := by
  cases d with
  | non => rw [h.non]; cases e; rfl
  | bl b => rw [h.bl]; cases e; rfl
  | int b => rw [h.int]; cases e; rfl
  | str b => rw [h.str]; cases e; rfl
  | lst l =>
    cases e
    obtain ⟨p, xs, rfl, h1, h2⟩ := h.lst s
    exact .inl ⟨rfl, xs, h1⟩
  | tup l =>
    cases e
    obtain ⟨p, xs, rfl, h1, h2⟩ := h.tup s
    exact .inr ⟨rfl, xs, h1⟩
  | _ => cases e
theorem b_isi : SRB K (rIsiM K) bIsi := fun S H vs ds g Q s d q k => by
  unfold bIsi at q
  split at q
  · rename_i d0 T
    split at q
    · rename_i hT
      cases qt : tyD d0 with
      | none => rw [qt] at q; cases q
      | some t =>
        rw [qt] at q
        cases q
        obtain ⟨v, w, rfl, d1, d2⟩ := two_of d
        exact ⟨v, T, t, by rw [d2.ty], ty_of s d1 qt, hT, k _ S H (Ext.refl s) (den_bl.mpr rfl)⟩
    · cases q
  · cases q
end
end M
namespace M
open PySem L2
section
variable {K : PySem.W.Frag}
theorem s_truK {ta : TE} {a : XE} (ha : SPk K ta a) : ST K (tTru K ta) (xTru a) := s_tru ha
end
end M
namespace M
open PySem L2
noncomputable def dAddI : D → D → Option D := dI fun i j => some (.int (i + j))
section
variable {K : PySem.W.Frag}
end
end M
namespace M
open PySem L2
end M
namespace M
open PySem L2
theorem loopF_cons (g : XG) (m : XS) (d : D) (l : List D) (ρ : Env) : loopF g m (d :: l) ρ = (g d ρ).bind fun ρ1 => match m ρ1 with
    | some (.nx ρ2) => loopF g m l ρ2
    | some (.ct ρ2) => loopF g m l ρ2
    | some (.bk ρ2) => some (.nx ρ2)
    | some (.rt d) => some (.rt d)
    | some (.ro d) => some (.ro d)
    | none => none := rfl
noncomputable def oneF (g : XG) (c : XT) (e : XE) (ρ0 : Env) (d : D) : Option (Option D) := (g d ρ0).bind fun ρ1 => (c ρ1).bind fun b => if b = true then (e ρ1).map some else some none
theorem compF_fm {α : Type} {g : XG} {c : XT} {e : XE} {ρ0 : Env} (enc : α → D) (f : α → Option D) : ∀ (l : List α), (∀ a ∈ l, oneF g c e ρ0 (enc a) = some (f a)) → compF g c e ρ0 (l.map enc) = some (l.filterMap f)
  | [], _ => rfl
  | a :: l, h => by
    have ih := compF_fm (g := g) (c := c) (e := e) (ρ0 := ρ0) enc f l fun b hb => h b (List.mem_cons_of_mem _ hb)
    have h1 := h a List.mem_cons_self
    unfold oneF at h1
    rw [List.map_cons, compF]
    cases q1 : g (enc a) ρ0 with
    | none => rw [q1] at h1; cases h1
    | some ρ1 =>
      rw [q1] at h1
      dsimp only [Option.bind] at h1 ⊢
      cases q2 : c ρ1 with
      | none => rw [q2] at h1; cases h1
      | some b =>
        rw [q2] at h1
        dsimp only at h1 ⊢
        cases b with
        | false =>
          rw [if_neg (by decide)] at h1 ⊢
          rw [ih, List.filterMap_cons]
          have : f a = none := (Option.some.inj h1).symm
          rw [this]
        | true =>
          rw [if_pos rfl] at h1 ⊢
          cases q3 : e ρ1 with
          | none => rw [q3] at h1; cases h1
          | some y =>
            rw [q3] at h1
            have : f a = some y := (Option.some.inj h1).symm
            rw [ih, List.filterMap_cons, this]
            rfl
theorem compF_map {α : Type} {g : XG} {e : XE} {ρ0 : Env} (enc : α → D) (f : α → D) (l : List α) (h : ∀ a ∈ l, oneF g xYes e ρ0 (enc a) = some (some (f a))) : compF g xYes e ρ0 (l.map enc) = some (l.map f) := by
  rw [compF_fm enc (fun a => some (f a)) l h]
  exact congrArg some (congrFun List.filterMap_eq_map' l)
@[simp] theorem atI_neg1 {α : Type} (l : List α) (x : α) : atI (l ++ [x]) (-1) = some x := by
  unfold atI ixN
  rw [if_neg (by decide), List.length_append, List.length_singleton, if_pos (by omega)]
  have : ((-1 : Int) + ((l.length + 1 : Nat) : Int)).toNat = l.length := by omega
  dsimp only [Option.bind]
  rw [this]
  simp
theorem atI_of {α : Type} {l : List α} {j : Nat} {x : α} (h : l[j]? = some x) : atI l (j : Int) = some x := by
  have := (List.getElem?_eq_some_iff.mp h).1
  unfold atI ixN
  rw [if_pos (by omega), if_pos (by omega)]
  dsimp only [Option.bind]
  rw [Int.toNat_natCast]
  exact h
@[simp] theorem putL_last (l : List O) (x : O) (f : O → O) : putL (l ++ [x]) (-1) f = l ++ [f x] := by
  unfold putL ixN
  rw [if_neg (by decide), List.length_append, List.length_singleton, if_pos (by omega)]
  have : ((-1 : Int) + ((l.length + 1 : Nat) : Int)).toNat = l.length := by omega
  dsimp only
  rw [this]
  simp
@[simp] theorem atI_last2 {α : Type} (l : List α) (a b : α) : atI (l ++ [a, b]) (-1) = some b := by
  have := atI_neg1 (l ++ [a]) b
  rw [List.append_assoc] at this
  exact this
@[simp] theorem atI_one {α : Type} (a : α) : atI [a] (-1) = some a := atI_neg1 [] a
@[simp] theorem putL_last2 (l : List O) (a b : O) (f : O → O) : putL (l ++ [a, b]) (-1) f = l ++ [a, f b] := by
  have := putL_last (l ++ [a]) b f
  rw [List.append_assoc, List.append_assoc] at this
  exact this
@[simp] theorem putL_one (a : O) (f : O → O) : putL [a] (-1) f = [f a] := putL_last [] a f
@[simp] theorem flat_int (i : Int) : flat (.int i) = some (.int i) := rfl
@[simp] theorem flat_bl (i : Bool) : flat (.bl i) = some (.bl i) := rfl
@[simp] theorem flat_str (i : Str) : flat (.str i) = some (.str i) := rfl
@[simp] theorem flat_non : flat .non = some .non := rfl
@[simp] theorem putL2_1 (a b : O) (f : O → O) : putL [a, b] 1 f = [a, f b] := rfl
section
variable (i j : Int) (a b : List D) (neg : Bool) (ρ : Env)
@[simp] theorem v_sub : dSub (.int i) (.int j) = some (.int (i - j)) := rfl
@[simp] theorem v_add : dAdd (.int i) (.int j) = some (.int (i + j)) := rfl
@[simp] theorem v_addI : dAddI (.int i) (.int j) = some (.int (i + j)) := rfl
@[simp] theorem v_lt : dLt (.int i) (.int j) = some (.bl (decide (i < j))) := rfl
@[simp] theorem v_le : dLe (.int i) (.int j) = some (.bl (decide (i ≤ j))) := rfl
@[simp] theorem v_gt : dGt (.int i) (.int j) = some (.bl (decide (j < i))) := rfl
@[simp] theorem v_ge : dGe (.int i) (.int j) = some (.bl (decide (j ≤ i))) := rfl
@[simp] theorem v_neg : dNeg (.int i) = some (.int (-i)) := rfl
@[simp] theorem v_mulR {i j : Int} (h : -18446744073709551616 < j ∧ j < 18446744073709551616) : dMul (.int i) (.int j) = some (.int (i * j)) := ifC_pos (.inr h)
@[simp] theorem v_mulL {i j : Int} (h : -18446744073709551616 < i ∧ i < 18446744073709551616) : dMul (.int i) (.int j) = some (.int (i * j)) := ifC_pos (.inl h)
@[simp] theorem v_div {i j : Int} (h : 0 < j ∧ j < 1073741824) : dDiv (.int i) (.int j) = some (.int (i / j)) := ifC_pos h
@[simp] theorem v_mod {i j : Int} (h : 0 < j) : dMod (.int i) (.int j) = some (.int (i % j)) := ifC_pos h
@[simp] theorem v_pow {i j : Int} (h : 0 ≤ j ∧ j ≤ 1000000 ∧ i.natAbs < 18446744073709551616) : dPow (.int i) (.int j) = some (.int (i ^ j.toNat)) := ifC_pos h
@[simp] theorem v_isN (d : D) : dIsN neg d .non = some (.bl (if neg then !isNon d else isNon d)) := rfl
@[simp] theorem v_isNon1 : isNon .non = true := rfl
@[simp] theorem v_isNon2 : isNon (.int i) = false := rfl
@[simp] theorem v_isNon3 : isNon (.tup a) = false := rfl
@[simp] theorem v_ixL : dIx (.lst a) (.int i) = atI a i := rfl
@[simp] theorem v_ixT : dIx (.tup a) (.int i) = atI a i := rfl
@[simp] theorem v_ixS : dIx (.scr a) (.int i) = atI a i := rfl
@[simp] theorem v_truL : truD (.lst a) = some (!a.isEmpty) := rfl
@[simp] theorem v_truT : truD (.tup a) = some (!a.isEmpty) := rfl
@[simp] theorem v_truS : truD (.scr a) = some (!a.isEmpty) := rfl
@[simp] theorem v_truB (x : Bool) : truD (.bl x) = some x := rfl
@[simp] theorem v_truI : truD (.int i) = some (i != 0) := rfl
@[simp] theorem v_truN : truD .non = some false := rfl
@[simp] theorem v_lenL : bLen [.lst a] = some (.int a.length) := rfl
@[simp] theorem v_lenT : bLen [.tup a] = some (.int a.length) := rfl
@[simp] theorem v_lenS : bLen [.scr a] = some (.int a.length) := rfl
@[simp] theorem v_tupL : bTuple [.lst a] = some (.tup a) := rfl
@[simp] theorem v_tupT : bTuple [.tup a] = some (.tup a) := rfl
@[simp] theorem v_lstL : bList [.lst a] = some a := rfl
@[simp] theorem v_lstT : bList [.tup a] = some a := rfl
@[simp] theorem v_lstS : bList [.scr a] = some a := rfl
@[simp] theorem v_max : bMax2 [.int i, .int j] = some (.int (if j > i then j else i)) := rfl
@[simp] theorem v_min : bMin2 [.int i, .int j] = some (.int (if j < i then j else i)) := rfl
@[simp] theorem v_int : bInt [.int i] = some (.int i) := rfl
@[simp] theorem v_intB (x : Bool) : bInt [.bl x] = some (.int (if x then 1 else 0)) := rfl
@[simp] theorem v_seqL : seqD (.lst a) = some a := rfl
@[simp] theorem v_seqT : seqD (.tup a) = some a := rfl
@[simp] theorem v_seqS : seqD (.scr a) = some a := rfl
@[simp] theorem v_slL (lo hi : Option Int) : dSl (.lst a) lo hi = some (.lst (cutD a lo hi)) := rfl
@[simp] theorem v_slT (lo hi : Option Int) : dSl (.tup a) lo hi = some (.tup (cutD a lo hi)) := rfl
@[simp] theorem v_slS (lo hi : Option Int) : dSl (.scr a) lo hi = some (.lst (cutD a lo hi)) := rfl
@[simp] theorem v_gT (y : XGs) : xgTup y (.tup a) ρ = y a ρ := rfl
@[simp] theorem v_gC (x : XG) (y : XGs) (d : D) : xgCons x y (d :: a) ρ = (x d ρ).bind (y a) := rfl
@[simp] theorem v_gN : xgNil [] ρ = some ρ := rfl
@[simp] theorem v_isiI : bIsi [.int i, .ty "int"] = some (.bl true) := rfl
@[simp] theorem v_isiB : bIsi [.int i, .ty "bool"] = some (.bl false) := rfl
@[simp] theorem v_isiT : bIsi [.tup a, .ty "tuple"] = some (.bl true) := rfl
@[simp] theorem v_isiL : bIsi [.lst a, .ty "list"] = some (.bl true) := rfl
@[simp] theorem v_isiBB (x : Bool) : bIsi [.bl x, .ty "bool"] = some (.bl true) := rfl
end
@[simp] theorem peek_lst (os : List O) : peek (.ow (.lst os)) = (shs os).map D.lst := rfl
@[simp] theorem shs_nil : shs [] = some [] := rfl
@[simp] theorem shs_cons (d : D) (l : List O) : shs (.sh d :: l) = (shs l).map fun r => d :: r := rfl
@[simp] theorem shs_map' (l : List D) : shs (l.map O.sh) = some l := shs_map l
@[simp] theorem shs_mapc {α : Type} (f : α → D) (l : List α) : shs (l.map (O.sh ∘ f)) = some (l.map f) := by rw [← List.map_map]; exact shs_map _
@[simp] theorem shs_mapf {α : Type} (f : α → D) (l : List α) : shs (l.map fun a => O.sh (f a)) = some (l.map f) := shs_mapc f l
@[simp] theorem shs_app : ∀ (a b : List O), shs (a ++ b) = (shs a).bind fun x => (shs b).map fun y => x ++ y
  | [], b => by cases h : shs b <;> simp [h]
  | .sh d :: a, b => by
    rw [List.cons_append, shs_cons, shs_cons, shs_app a b]
    cases shs a with
    | none => rfl
    | some x => cases shs b <;> rfl
  | .lst _ :: a, b => rfl
  | .tup _ :: a, b => rfl
@[simp] theorem subO_nil (o : O) : subO o [] = some o := by unfold subO; rfl
@[simp] theorem subO_lst (l : List O) (k : Int) (r : List Int) : subO (.lst l) (k :: r) = (atI l k).bind fun o => subO o r := rfl
@[simp] theorem subO_tup (l : List O) (k : Int) (r : List Int) : subO (.tup l) (k :: r) = (atI l k).bind fun o => subO o r := rfl
@[simp] theorem putO_nil (o q : O) : putO o [] q = q := by unfold putO; rfl
@[simp] theorem putO_lst (l : List O) (k : Int) (r : List Int) (q : O) : putO (.lst l) (k :: r) q = .lst (putL l k fun o => putO o r q) := rfl
@[simp] theorem putO_tup (l : List O) (k : Int) (r : List Int) (q : O) : putO (.tup l) (k :: r) q = .tup (putL l k fun o => putO o r q) := rfl
@[simp] theorem O_d_sh (d : D) : O.d (.sh d) = d := by unfold O.d; rfl
@[simp] theorem O_d_lst (l : List O) : O.d (.lst l) = .lst (O.ds l) := by rw [O.d]
@[simp] theorem O_d_tup (l : List O) : O.d (.tup l) = .tup (O.ds l) := by rw [O.d]
@[simp] theorem O_ds_nil : O.ds [] = [] := by rw [O.ds]
@[simp] theorem O_ds_cons (o : O) (l : List O) : O.ds (o :: l) = o.d :: O.ds l := by rw [O.ds]
@[simp] theorem O_ds_app : ∀ (a b : List O), O.ds (a ++ b) = O.ds a ++ O.ds b
  | [], b => by simp
  | o :: a, b => by simp [O_ds_app a b]
@[simp] theorem O_ds_map : ∀ l : List D, O.ds (l.map O.sh) = l
  | [] => by simp
  | d :: l => by simp [O_ds_map l]
@[simp] theorem O_ds_mapc {α : Type} (f : α → D) (l : List α) : O.ds (l.map (O.sh ∘ f)) = l.map f := by rw [← List.map_map]; exact O_ds_map _
@[simp] theorem at2_0 {α : Type} (a b : α) : atI [a, b] 0 = some a := rfl
@[simp] theorem at2_1 {α : Type} (a b : α) : atI [a, b] 1 = some b := rfl
@[simp] theorem at3_0 {α : Type} (a b c : α) : atI [a, b, c] 0 = some a := rfl
@[simp] theorem at3_1 {α : Type} (a b c : α) : atI [a, b, c] 1 = some b := rfl
@[simp] theorem at3_2 {α : Type} (a b c : α) : atI [a, b, c] 2 = some c := rfl
theorem lim_is : LIM = 1000000 := by unfold LIM; rfl
@[simp] theorem lim0 : (0 : Nat) ≤ LIM := Nat.zero_le _
@[simp] theorem lim1 : (1 : Nat) ≤ LIM := by rw [lim_is]; decide
@[simp] theorem lim2 : (2 : Nat) ≤ LIM := by rw [lim_is]; decide
@[simp] theorem lim3 : (3 : Nat) ≤ LIM := by rw [lim_is]; decide
@[simp] theorem lim4 : (4 : Nat) ≤ LIM := by rw [lim_is]; decide
@[simp] theorem lim5 : (5 : Nat) ≤ LIM := by rw [lim_is]; decide
@[simp] theorem lim6 : (6 : Nat) ≤ LIM := by rw [lim_is]; decide
@[simp] theorem lim7 : (7 : Nat) ≤ LIM := by rw [lim_is]; decide
@[simp] theorem lim8 : (8 : Nat) ≤ LIM := by rw [lim_is]; decide
@[simp] theorem lim9 : (9 : Nat) ≤ LIM := by rw [lim_is]; decide
@[simp] theorem lim10 : (10 : Nat) ≤ LIM := by rw [lim_is]; decide
@[simp] theorem lim0' : (0 : Nat) < LIM := by rw [lim_is]; decide
@[simp] theorem dEq_int (neg : Bool) (i j : Int) : dEq neg (.int i) (.int j) = some (.bl (if neg then !decide (i = j) else decide (i = j))) := by
  unfold dEq
  rw [if_pos ⟨by simp [okD], by simp [okD]⟩]
  have : eqD (.int i) (.int j) = decide (i = j) := by simp [eqD]; by_cases h : i = j <;> simp [h]
  rw [this]
@[simp] theorem dEq_bl (neg : Bool) (i j : Bool) : dEq neg (.bl i) (.bl j) = some (.bl (if neg then !decide (i = j) else decide (i = j))) := by
  unfold dEq
  rw [if_pos ⟨by simp [okD], by simp [okD]⟩]
  have : eqD (.bl i) (.bl j) = decide (i = j) := by simp [eqD]; by_cases h : i = j <;> simp [h]
  rw [this]
end M
namespace M
open PySem L2
theorem dens_ints {K : PySem.W.Frag} {S : Hp} : ∀ ns : List Int, Dens K S (ns.map D.int) (ns.map V.int)
  | [] => .nil
  | n :: ns => .cons (den_int.mpr rfl) (dens_ints ns)
theorem sp_script {K : PySem.W.Frag} {H : Hp} {a : Addr} {ns : List Int} {m : List D → Option O} {E : XK} (hS : SqL K H a (ns.map V.int)) (h : (m [.scr (ns.map D.int)]).map O.d = some (.bl true)) : spOf K 1 m [.ref a] H (fun v _ => v = .bl true) E := by
  cases q : m [.scr (ns.map D.int)] with
  | none => rw [q] at h; cases h
  | some o =>
    rw [q] at h
    have e : o.d = .bl true := Option.some.inj h
    exact ⟨rfl, H, [.scr (ns.map D.int)], o, Same.refl _, .cons (den_scr.mpr ⟨a, _, rfl, hS, dens_ints ns⟩) .nil, q, fun v fp S' H' z ow _ _ => by
      have dv := ow.denH z.sub
      rw [e] at dv
      exact den_bl.mp dv⟩
end M
namespace L2
open PySem PySem.Spec PyProof.Rows
theorem bt_len : bootBuiltins "len" = some (.builtin "len") := by decide +kernel
theorem bt_isinstance : bootBuiltins "isinstance" = some (.builtin "isinstance") := by decide +kernel
theorem bt_int : bootBuiltins "int" = some (.type "int") := by decide +kernel
theorem bt_bool : bootBuiltins "bool" = some (.type "bool") := by decide +kernel
theorem bt_str : bootBuiltins "str" = some (.type "str") := by decide +kernel
section
variable {X : Cx}
theorem kit_sub {K : PySem.W.Frag} {t T : String} (ht : t ∈ ["NoneType", "bool", "int", "str", "list", "tuple"]) (hT : T ∈ ["bool", "int", "str", "list", "tuple"]) : PySem.W.kitOne K (.type t) (.type T) = some (M.subM t T) := by
  simp only [List.mem_cons, List.not_mem_nil, or_false] at ht hT
  rcases ht with rfl | rfl | rfl | rfl | rfl | rfl <;> rcases hT with rfl | rfl | rfl | rfl | rfl <;> kernel_rfl
end
end L2
namespace Rev
open PySem
section
variable {prog : Program} {w : World} {A : Around} {s : Shared} {R : Result → Shared → Prop} {I : Addr} {fp wr : List Addr} {G : Array GenState → Array GenState → Prop} {n : Nat} {P : Nat → Value → Prop} {St : Nat → Shared → Prop}
end
section
variable {prog : Program} {w : World} {A : Around} {E : Value → Shared → Prop} {s : Shared} {I : Addr} {fp wr : List Addr} {G : Array GenState → Array GenState → Prop} {n : Nat} {P : Nat → Value → Prop} {St : Nat → Shared → Prop}
end
end Rev
namespace L2
open PySem PySem.Spec PyProof.Rows
section
variable {X : Cx} {tg : Expr}
theorem pi_seq {l : Expr} {tl : TE} (hl : PE X l tl) : PI X tg l (iSeq X.K tl) := by
  intro pins s σ H R I h
  refine thn (hl pins s σ H _ I h) fun v s1 h1 => ?_
  obtain ⟨x, H1, I1, r1, a, e, q⟩ := h1
  subst e
  cases r1
  rcases q with ⟨⟨xs, hq⟩, q⟩ | ⟨⟨xs, hq⟩, q⟩
  · obtain ⟨its, rv, p, hz⟩ := I1.list hq
    refine wpAny_pyIter_list p.isList ⟨s1.heap.objs.size, [s1.heap.objs.size], _, _, H1, rfl, I1.kept (t' := s1.toks) fun b o e => Heap.get?_push_of_some _ e, turn_list a _, ⟨_, Heap.get?_push_size _ rfl, rfl, rfl⟩, fun b hb => ?_, q⟩
    rw [List.mem_singleton.mp hb]
    exact I1.fpOk (Nat.le_refl _) I1.fresh
  · obtain ⟨its, rv, p, hz⟩ := I1.tuple hq
    refine wpAny_pyIter_tuple (show s1.heap.IsTuple a its.toArray from p) ⟨s1.heap.objs.size, [s1.heap.objs.size], _, _, H1, rfl, I1.kept (t' := s1.toks) fun b o e => Heap.get?_push_of_some _ e, turn_tuple a _, ⟨_, Heap.get?_push_size _ rfl, rfl, rfl⟩, fun b hb => ?_, q⟩
    rw [List.mem_singleton.mp hb]
    exact I1.fpOk (Nat.le_refl _) I1.fresh
end
end L2
namespace L2
open PySem PySem.Spec PyProof.Rows
section
variable {X : Cx} {tg : Expr}
end
end L2
namespace HT
open PySem PySem.Spec PyProof.Rows
section
variable {prog : Program} {w : World} {A : Around} {E : Value → Shared → Prop} {s : Shared}
theorem getItem_tuple_whole {t sl : Addr} {items : Array Value} {vl vu : Value} {lo hi : Option Int} {Q : Value → Shared → Prop} (ht : IsTup s.heap t items) (hs : s.heap.IsSliceOf sl vl vu .none) (pl : IsPart vl lo) (pu : IsPart vu hi)
    (hw : sIx items.size 0 lo = 0 ∧ sIx items.size items.size hi = items.size) (h : Q (.ref t) s) : wpAny (model prog w) A (getItem (.ref t) (.ref sl)) Q E s := by
  obtain ⟨os, hos, hcs, hds⟩ := id hs
  have hTs : s.TypeIs (.ref sl) "slice" := ⟨os, hos, hcs⟩
  unfold getItem
  try with_reducible refine wpAny_holding ?_
  first | refine wpAny_bind (wpAny_pure ?_) | skip
  refine wpAny_bind (wpAny_sequenceKey ht.typeIs (by decide) ?_)
  refine wpAny_bind (wpAny_callSpecial?_slot (name := Str.ofString "__getitem__") ht.typeIs PyProof.Rows.slot_tuple_getitem
    (wpAny_call_entry PyProof.Rows.slot_tuple_getitem ht.typeIs entry_tuple_getitem ?_ (args_tuple_getitem _ _)))
  show wpAny _ _ (Builtin.Tuple.tupleItemsOf (.ref t) >>= _) _ _ s
  refine wpAny_bind (tupleItemsOf_ ht ?_)
  refine wpAny_bind (wpAny_typeOf hTs ?_)
  rw [if_pos (by decide)]
  refine wpAny_bind (sliceApplied_gen hs pl pu ?_)
  have hyes : ((((sIx items.size 0 lo : Nat) : Int) == 0 && (1 : Int) == 1 && (sIx items.size items.size hi - sIx items.size 0 lo) == items.size) = true) := by
    rw [hw.1, hw.2]
    simp
  show wpAny _ _ (if (((sIx items.size 0 lo : Nat) : Int) == 0 && (1 : Int) == 1 && (sIx items.size items.size hi - sIx items.size 0 lo) == items.size) = true then _ else _) _ _ s
  rw [if_pos hyes]
  refine wpAny_bind (m := Builtin.Tuple.tupleIsExact _) (wpAny_bind (wpAny_typeOf ht.typeIs (wpAny_pure ?_)))
  rw [if_pos (by decide)]
  exact wpAny_bind (wpAny_rule (wpAny_pure ⟨_, rfl, wpAny_pure h⟩))
end
end HT
namespace L2
open PySem PySem.Spec PyProof.Rows M
theorem Inv.rdl {X : Cx} {pins : List (Addr × Obj)} {σ : St} {H : Hp} {s : Shared} {l : Addr} {xs : List V} (I : Inv X pins σ H s) (h : Rd H l (.lst xs)) : xs.length ≤ sizeLine ∧ ∃ (its : List Value) (n : Nat), Vals xs its ∧ xs.length = its.length ∧ s.heap.get? l = some { cls := .type "list", data := .seq its.toArray n } := by
  obtain ⟨h1, its, n, r, e⟩ := (show ObjOk X.prog X.w H s.heap l (.lst xs) from h.ok I.hok)
  exact ⟨h1, its, n, r, r.length, e⟩
section
variable {X : Cx}
theorem op_catM : OpR X (binaryOp .Add) rCatM := by
  intro pins s σ H x y v u Q I rx ry h
  obtain ⟨l, b, xs, zs, rfl, rfl, hH, hB, hz, q⟩ := h
  cases rx
  cases ry
  obtain ⟨z, its, n, r, hl, e⟩ := I.rdl hH
  obtain ⟨z2, its2, n2, r2, hl2, e2⟩ := I.rdl hB
  refine PySem.P.add_list e e2 ?_ (by rw [List.size_toArray, List.size_toArray]; omega)
  have ea : its.toArray ++ its2.toArray = (its ++ its2).toArray := by simp
  rw [ea]
  exact ⟨.ref _, _, I.lnew (t' := s.toks) (r.append r2) (by rw [List.length_append]; omega), rfl, q _ I.fresh⟩
theorem op_tupM : OpR X (binaryOp .Add) (rTupM X.K) := by
  intro pins s σ H x y v u Q I rx ry h
  obtain ⟨a, b, xs, ys, rfl, rfl, ha, hb, hz, q1, q2, q⟩ := h
  cases rx
  cases ry
  obtain ⟨its, r1, p1, _⟩ := I.tuple ha
  obtain ⟨its2, r2, p2, _⟩ := I.tuple hb
  have hz2 : its.length + its2.length ≤ sizeLine := by rw [← r1.length, ← r2.length]; exact hz
  by_cases hv : its = []
  · have hx : xs = [] := r1.nil_iff.mp hv
    obtain ⟨⟨cls, dd, data, sl⟩, ho, hc, n, hd⟩ := id p1
    obtain ⟨⟨cls2, dd2, data2, sl2⟩, ho2, hc2, n2, hd2⟩ := id p2
    simp only at hc hd hc2 hd2; subst hc hd hc2 hd2
    exact concat_meets ⟨_, ho, rfl⟩ ⟨_, ho2, rfl⟩ noFill_tuple_add seq_tuple_add PySem.F.slot_tuple_add PySem.F.entry_tuple_add (PySem.F.args_tuple_add_2 (.ref a) (.ref b)) (tuple_addW0 a b its.toArray its2.toArray n n2 dd dd2 sl sl2 (by simp [hv])) ⟨ho, ho2, ⟨.ref b, H, I, rfl, q2 hx⟩⟩
  · refine HT.cat_tup p1 p2 hv (fun z => ⟨.ref a, H, I, rfl, q1 (r2.nil_iff.mp z)⟩) (fun z => ?_) hz2
    refine ⟨.ref s.heap.objs.size, _, I.laid (t' := s.toks) (o := .tup (xs ++ ys)) (fun b ob e => Heap.get?_push_of_some _ e) (Nat.le_refl _) ?_, rfl, q _ (I.hok.fresh (Nat.le_refl _))⟩
    exact ⟨by rw [List.length_append]; exact hz, _, r1.append r2, IsTup.new _ _⟩
theorem op_strM : OpR X (binaryOp .Add) rStrM := op_add_str
theorem op_addM : OpR X (binaryOp .Add) (rAddM X.K) := op_add.or (op_catM.or (op_tupM.or op_strM))
mutual
noncomputable def pyD : D → PyData
  | .non => .none
  | .bl b => .bool b
  | .int i => .int i
  | .str x => .str x
  | .lst l => .list (pyDs l)
  | .tup l => .tuple (pyDs l)
  | _ => .none
noncomputable def pyDs : List D → List PyData
  | [] => []
  | d :: l => pyD d :: pyDs l
end
mutual
theorem ok_can : ∀ (n : Nat) (d : D), okD n d = true → (pyD d).canLay0 = true ∧ (pyD d).depth ≤ n
  | _, .non, _ => by simp [pyD, PyData.canLay0, PyData.depth]
  | _, .bl _, _ => by simp [pyD, PyData.canLay0, PyData.depth]
  | _, .int _, _ => by simp [pyD, PyData.canLay0, PyData.depth]
  | n, .str x, h => by
    have h' : PyData.strOk x = true := by cases n <;> simpa [okD] using h
    simp [pyD, PyData.canLay0, PyData.depth, h']
  | 0, .lst l, h => by simp [okD] at h
  | n + 1, .lst l, h => by
    obtain ⟨a, b⟩ := oks_can n l (by simpa [okD] using h)
    simp only [pyD, PyData.canLay0, PyData.depth]
    exact ⟨a, by omega⟩
  | 0, .tup l, h => by simp [okD] at h
  | n + 1, .tup l, h => by
    obtain ⟨a, b⟩ := oks_can n l (by simpa [okD] using h)
    simp only [pyD, PyData.canLay0, PyData.depth]
    exact ⟨a, by omega⟩
  | n, .ty _, h => by cases n <;> simp [okD] at h
  | n, .scr _, h => by cases n <;> simp [okD] at h
  | n, .ins _ _ _, h => by cases n <;> simp [okD] at h
theorem oks_can : ∀ (n : Nat) (l : List D), okDs n l = true → PyData.canLayAll0 (pyDs l) = true ∧ PyData.depthAll (pyDs l) ≤ n
  | _, [], _ => by simp [pyDs, PyData.canLayAll0, PyData.depthAll]
  | n, d :: l, h => by
    rw [okDs, Bool.and_eq_true] at h
    obtain ⟨a, b⟩ := ok_can n d h.1
    obtain ⟨c, e⟩ := oks_can n l h.2
    simp only [pyDs, PyData.canLayAll0, PyData.depthAll, a, c]
    exact ⟨rfl, by omega⟩
end
mutual
theorem eqv_is : ∀ (n m : Nat) (d e : D), okD n d = true → okD m e = true → PyData.eqv (pyD d) (pyD e) = eqD d e
  | n, m, .non, e, _, he => by cases e <;> first | (simp [pyD, PyData.eqv, eqD]; done) | (cases m <;> simp [okD] at he)
  | n, m, .bl _, e, _, he => by cases e <;> first | (simp [pyD, PyData.eqv, eqD]; done) | (cases m <;> simp [okD] at he)
  | n, m, .int _, e, _, he => by cases e <;> first | (simp [pyD, PyData.eqv, eqD]; done) | (cases m <;> simp [okD] at he)
  | n, m, .str _, e, _, he => by cases e <;> first | (simp [pyD, PyData.eqv, eqD]; done) | (cases m <;> simp [okD] at he)
  | 0, m, .lst _, e, hd, he => by simp [okD] at hd
  | n + 1, m, .lst l, e, hd, he => by
    cases e with
    | lst l' =>
      cases m with
      | zero => simp [okD] at he
      | succ m =>
        simp only [pyD, PyData.eqv, eqD]
        exact eqvs_is n m l l' (by simpa [okD] using hd) (by simpa [okD] using he)
    | _ => first | (simp [pyD, PyData.eqv, eqD]; done) | (cases m <;> simp [okD] at he)
  | 0, m, .tup _, e, hd, he => by simp [okD] at hd
  | n + 1, m, .tup l, e, hd, he => by
    cases e with
    | tup l' =>
      cases m with
      | zero => simp [okD] at he
      | succ m =>
        simp only [pyD, PyData.eqv, eqD]
        exact eqvs_is n m l l' (by simpa [okD] using hd) (by simpa [okD] using he)
    | _ => first | (simp [pyD, PyData.eqv, eqD]; done) | (cases m <;> simp [okD] at he)
  | n, _, .ty _, _, h, _ => by cases n <;> simp [okD] at h
  | n, _, .scr _, _, h, _ => by cases n <;> simp [okD] at h
  | n, _, .ins _ _ _, _, h, _ => by cases n <;> simp [okD] at h
theorem eqvs_is : ∀ (n m : Nat) (l l' : List D), okDs n l = true → okDs m l' = true → PyData.eqvAll (pyDs l) (pyDs l') = eqDs l l'
  | _, _, [], [], _, _ => by simp [pyDs, PyData.eqvAll, eqDs]
  | _, _, [], _ :: _, _, _ => by simp [pyDs, PyData.eqvAll, eqDs]
  | _, _, _ :: _, [], _, _ => by simp [pyDs, PyData.eqvAll, eqDs]
  | n, m, d :: l, e :: l', hd, he => by
    rw [okDs, Bool.and_eq_true] at hd he
    rw [pyDs, pyDs, PyData.eqvAll, eqDs, eqv_is n m d e hd.1 he.1, eqvs_is n m l l' hd.2 he.2]
end
mutual
theorem den_reads {pins : List (Addr × Obj)} {σ : St} {H : Hp} {s : Shared} (I : Inv X pins σ H s) : ∀ (n : Nat) {d : D} {x : V} {v : Value}, okD n d = true → Den X.K H d x → RelV x v → ∃ as, Reads s.heap v (pyD d) as
  | _, .non, x, v, _, dx, r => by rw [den_non.mp dx] at r; cases r; exact ⟨_, .none⟩
  | _, .bl b, x, v, _, dx, r => by rw [den_bl.mp dx] at r; cases r; exact ⟨_, .bool b⟩
  | _, .int i, x, v, _, dx, r => by rw [den_int.mp dx] at r; obtain ⟨t, rfl⟩ := r; exact ⟨_, .int i t⟩
  | _, .str y, x, v, _, dx, r => by rw [den_str.mp dx] at r; obtain ⟨t, rfl⟩ := r; exact ⟨_, .str y t⟩
  | 0, .lst _, x, v, h, dx, r => by simp [okD] at h
  | n + 1, .lst l, x, v, h, dx, r => by
    obtain ⟨p, xs, rfl, hp, ds⟩ := den_lst.mp dx
    cases r
    obtain ⟨_, its, k, rv, _, e⟩ := I.rdl hp
    obtain ⟨as, ra⟩ := dens_reads I n (by simpa [okD] using h) ds rv
    exact ⟨_, .list e rfl rfl (by simpa using ra)⟩
  | 0, .tup _, x, v, h, dx, r => by simp [okD] at h
  | n + 1, .tup l, x, v, h, dx, r => by
    obtain ⟨p, xs, rfl, hp, ds⟩ := den_tup.mp dx
    cases r
    obtain ⟨its, rv, ⟨o, e, c, k, d⟩, _⟩ := I.tuple hp
    obtain ⟨as, ra⟩ := dens_reads I n (by simpa [okD] using h) ds rv
    exact ⟨_, .tuple e c d (by simpa using ra)⟩
  | n, .ty _, _, _, h, _, _ => by cases n <;> simp [okD] at h
  | n, .scr _, _, _, h, _, _ => by cases n <;> simp [okD] at h
  | n, .ins _ _ _, _, _, h, _, _ => by cases n <;> simp [okD] at h
theorem dens_reads {pins : List (Addr × Obj)} {σ : St} {H : Hp} {s : Shared} (I : Inv X pins σ H s) : ∀ (n : Nat) {ds : List D} {xs : List V} {vs : List Value}, okDs n ds = true → Dens X.K H ds xs → Vals xs vs → ∃ as, ReadsAll s.heap vs (pyDs ds) as
  | _, [], xs, vs, _, d, r => by
    rw [d.nil_of] at r
    cases r
    exact ⟨_, .nil⟩
  | n, d :: ds, xs, vs, h, dd, r => by
    rw [okDs, Bool.and_eq_true] at h
    obtain ⟨y, ys, rfl, a, b⟩ := dd.cons_of
    cases r with
    | cons r rr =>
      obtain ⟨as, ra⟩ := den_reads I n h.1 a r
      obtain ⟨bs, rb⟩ := dens_reads I n h.2 b rr
      exact ⟨_, .cons ra rb⟩
end
theorem op_eqM (hu : X.A.units + 64 < cLine) : OpR X (compareOp .Eq) (rEqM X.K false) := by
  intro pins s σ H x y v u Q I rx ry h
  obtain ⟨S, d, e, sm, dx, dy, cd, ce, q⟩ := h
  obtain ⟨as, ra⟩ := den_reads I 50 cd (denP_H sm dx) rx
  obtain ⟨bs, rb⟩ := den_reads I 50 ce (denP_H sm dy) ry
  obtain ⟨a1, a2⟩ := ok_can 50 d cd
  obtain ⟨b1, b2⟩ := ok_can 50 e ce
  have hm := Nat.min_le_left (pyD d).depth (pyD e).depth
  refine SeqAt.compareEq_reads ra rb a1 b1 (by omega) ⟨.bl _, H, I, rfl, ?_⟩
  rw [eqv_is 50 50 d e cd ce]
  exact q
theorem call_lenM : CallR X (.builtin "len") (rLenM X.K) := call_len
theorem call_isiM : CallR X (.builtin "isinstance") (rIsiM X.K) := by
  intro pins s σ H xs us Q I r h
  obtain ⟨x, T, t, rfl, ht, hm, q⟩ := h
  obtain ⟨u, w', rfl, ru, rw'⟩ := r.two
  cases rw'
  have fin : ∀ tk : Nat, EP X pins σ Q (.bool (subM t T)) { s with toks := tk } := fun tk => ⟨.bl _, H, I.tok tk, rfl, q⟩
  cases x with
  | non => cases ht; exact isinst_ok I ru .non (kit_sub (by decide) hm) fin
  | bl b => cases ht; exact isinst_ok I ru (.bl b) (kit_sub (by decide) hm) fin
  | int i => cases ht; exact isinst_ok I ru (.int i) (kit_sub (by decide) hm) fin
  | str y => cases ht; exact isinst_ok I ru (.str y) (kit_sub (by decide) hm) fin
  | ref p =>
    cases ru
    rcases ht with ⟨rfl, xs, h⟩ | ⟨rfl, xs, h⟩
    · obtain ⟨_, its, n, rv, _, e⟩ := I.rdl h
      exact PySem.W.kia_one PySem.W.kitx_list I.kIn ⟨_, e, rfl⟩ (kit_sub (by decide) hm) (fun z => nomatch z) fin
    · obtain ⟨its, rv, ⟨o, e, c, _⟩, _⟩ := I.tuple h
      exact PySem.W.kia_one PySem.W.kitx_tuple I.kIn ⟨o, e, c⟩ (kit_sub (by decide) hm) (fun z => nomatch z) fin
  | _ => exact (show False from ht).elim
theorem sl_M : SlR X (rSlM X.K) := by
  refine SlR.or sl_list ?_
  intro pins s σ H x v vl vu lo hi sl Q I rx hs pl pu h
  obtain ⟨a, xs, rfl, hx, q1, q2⟩ := h
  cases rx
  by_cases hw : HT.sIx xs.length 0 lo = 0 ∧ HT.sIx xs.length xs.length hi = xs.length
  · obtain ⟨its, r, ht, hz⟩ := I.tuple hx
    have hlen : its.toArray.size = xs.length := by rw [List.size_toArray]; exact r.length.symm
    have hcut : cutV xs lo hi = xs := by
      unfold cutV
      rw [hw.1, hw.2, List.drop_zero, Nat.sub_zero, List.take_of_length_le (Nat.le_refl _)]
    refine ⟨"tuple", _, PyProof.Rows.slot_tuple_getitem.lookup, ht.typeIs, ?_⟩
    exact HT.getItem_tuple_whole ht hs pl pu (by rw [hlen]; exact hw) ⟨.ref a, H, I, rfl, q1 hcut⟩
  · exact sl_tup pins s σ H (.ref a) (.ref a) vl vu lo hi sl Q I rfl hs pl pu ⟨a, xs, rfl, hx, hw, q2⟩
end
end L2
namespace M
noncomputable def dStep (a : List Int) (k : Int) : List Int := if a.any (· == k) then a else a ++ [k]
noncomputable def dist (ns : List Int) : List Int := ns.foldl dStep []
end M
namespace L2
open PySem
section
variable {X : Cx}
end
end L2
namespace M
open PySem L2
section
variable {K : PySem.W.Frag}
end
end M
namespace L2
open PySem M
end L2
namespace M
open PySem L2
end M
namespace M
open PySem L2
@[simp] noncomputable def xLenSet (a : XE) : XE := fun ρ => (a ρ).bind fun d => match d with | .lst l => (intsOf l).bind fun ns => if ns.length < 4000 then some (.int ((dist ns).length : Nat)) else none | _ => none
end M
namespace L2
open PySem
section
variable {X : Cx} {o e : Expr} {es : List Expr} {f m : Str} {pos apos p : Pos} {ta : TE} {t : TA} {Ns : List Str} {k : Nat} {g C : Addr} {fd : FuncData} {ps : List Str} {sp : Sp}
structure ClsFn (K : PySem.W.Frag) (C : Addr) (m : Str) (f : Addr) : Prop where
  sp : PySem.W.specialIn K (.ref C) "__getattribute__" = some (some (.builtin "type.__getattribute__"))
  rd : PySem.W.readsIn K C (.type "type") = true
  fn : PySem.W.findCls K (.ref C) (.type "type") m = some (.val (.ref f))
  kp : PySem.W.keepIn K (.ref f) = true
end
end L2
namespace M
open PySem L2
section
variable {K : PySem.W.Frag} {S S' H H' : Hp}
noncomputable def fldD : List Str → List D → Str → Option D
  | n :: ns, d :: l, f => if f = n then some d else fldD ns l f
  | _, _, _ => none
@[simp] noncomputable def xFld (Ns : List Str) (f : Str) (e : XE) : XE := fun ρ => (e ρ).bind fun d => match d with | .ins N ns l => if Ns.contains N then fldD ns l f else none | _ => none
@[simp] noncomputable def xMeth (Ns : List Str) (m : Str) (g : List D → Option D) (e : XE) (a : XA) : XE := fun ρ => (e ρ).bind fun d => match d with | .ins N ns l => if Ns.contains N && !ns.contains m then (a ρ).bind fun ds => g (.ins N ns l :: ds) else none | _ => none
@[simp] noncomputable def xMake (N f : Str) (mi : List D → Option D) (a : XA) : XE := fun ρ => ((a ρ).bind mi).map fun d => .ins N [f] [d]
end
end M
namespace M
end M
namespace L2
open PySem PySem.Spec PyProof.Rows
section
variable {prog : Program} {w : World} {A : Around} {E : Value → Shared → Prop} {s : Shared}
end
section
variable {X : Cx}
end
end L2
namespace M
open PySem L2
section
variable {K : PySem.W.Frag}
end
end M
namespace L2
open PySem
theorem cmpok {XN : List Str} {sc scope : Scope} {N : List Str} {js : List (Option Nat)} (h1 : scope.kind = .function := by rfl) (h2 : ∀ y ∈ scope.names, y.2 ≠ .cell := by decide +kernel) (h3 : ∀ y ∈ scope.names, y.2 = .free → sc.names.lookup y.1 = some .cell ∨ sc.names.lookup y.1 = some .free := by decide +kernel)
    (h4 : ∀ y ∈ scope.names, y.2 = .local → scope.names.lookup y.1 = some .local := by decide +kernel) (h5 : js.length = N.length := by rfl) (h6 : ((N.zip js).all fun p => match p.2 with | none => true | some j => decide (XN[j]? = some p.1) && decide (scope.names.lookup p.1 = some .free)) = true := by decide +kernel) : CmpOk XN sc scope N js := ⟨h1, h2, h3, h4, h5, h6⟩
end L2
namespace M
open PySem L2
@[simp] noncomputable def xCallD (m : List D → Option D) (e : D) (a : XA) : XE := fun ρ => (a ρ).bind fun ds => m (ds ++ [e])
section
variable {K : PySem.W.Frag}
end
end M
namespace L2
open PySem
structure FunD (K : PySem.W.Frag) (x qual : Str) (st : Stmt) (T : Addr) (f : Addr) (fd : FuncData) : Prop where
  ex : ∃ (oc : Value) (od : Option Addr) (kV doc pm : Value) (an : Option Addr) (cdv ct : Value) (osl : Array (Option Value)), fd = PySem.W.fnOf x qual (defArgs st) (defBody st) (defScope st) (.ref T) kV doc pm an cdv ct ∧ K.lookup f = some ⟨oc, od, .func fd, osl⟩ ∧ PySem.W.codeIn K cdv qual = true
section
variable {P : Program} {w : World} {K : PySem.W.Frag} {mg : Str → Option Value} {base : Heap}
theorem FunD.ok {x qual : Str} {st : Stmt} {T f : Addr} {fd : FuncData} {N ps : List Str} {k : Nat} {sp : Sp} (F : FunD K x qual st T f fd) (S : FnScope N ps (defScope st)) (len : ∀ vs H Q E, sp vs H Q E → vs.length = ps.length)
    (hb : ∀ (cdv : Value) (A : Around) (outer : List Env) (s : Shared) (H : Hp) (vs : List V) (Q : VK) (E : XK), Room k (A.deeper (PyProof.Rows.envOfC qual (defScope st) s.heap.objs.size f cdv)) → sp vs H Q E → ∃ t, PSs (cxOf CX0 P w K mg base N qual (defScope st) f cdv A outer s H E).nox (defBody st) t ∧ t { nx := fun _ H' => Q .non H', rt := Q } (start N vs) H) : FnOk P w K mg base CX0 (k + 1) f fd ps sp := by
  obtain ⟨oc, od, kV, doc, pm, an, cdv, ct, osl, rfl, lk, hcd⟩ := F.ex
  exact fn_of lk hcd S len fun A outer s H vs Q E hr hsp => by obtain ⟨t, h, q⟩ := hb cdv A outer s H vs Q E hr hsp; exact ⟨t, h.nox, q⟩
end
end L2
namespace L2
open PySem PySem.Spec PyProof.Rows
structure CmpOkC (XN : List Str) (sc scope : Scope) (N : List Str) (js : List (Option Nat)) (t : Str) : Prop where
  kind : scope.kind = .function
  free : ∀ y ∈ scope.names, y.2 = .free → sc.names.lookup y.1 = some .cell ∨ sc.names.lookup y.1 = some .free
  loc : ∀ y ∈ scope.names, y.2 = .local → scope.names.lookup y.1 = some .local
  len : js.length = N.length
  ix : ((N.zip js).all fun p => match p.2 with | none => true | some j => decide (XN[j]? = some p.1) && decide (scope.names.lookup p.1 = some .free)) = true
  cell1 : ∀ y ∈ scope.names, y.2 = .cell → y.1 = t
  tl : scope.names.lookup t = some .cell
  laid : ∀ n acc, cellsFrom n scope.names acc = (t, n) :: acc
  pushed : ∀ h, pushCells h scope.names = h.push { cls := .type "cell", data := .cell none }
section
variable {X : Cx} {pins : List (Addr × Obj)} {σ : St} {H : Hp} {s : Shared} {XN N : List Str} {sc scope : Scope} {js : List (Option Nat)}
variable {tg iter elt : Expr} {ifs : List Expr} {pos : Pos} {wi : TI} {g : TG} {tt : TIf} {te : TE}
end
end L2
namespace RevT
open PySem PySem.Calls PyProof.Rows
section
variable {prog : Program} {w : World} {A : Around} {E : Value → Shared → Prop} {s : Shared}
end
end RevT
namespace L2
open PySem PySem.Spec PyProof.Rows
section
variable {X : Cx} {tg : Expr}
end
end L2
namespace M
open PySem L2
section
variable {K : PySem.W.Frag} {S S' H H' : Hp}
noncomputable def revD : List D → Option (List D)
  | [.tup l] => some l.reverse | _ => none
@[simp] noncomputable def xRevI (a : XA) : XA := fun ρ => (a ρ).bind revD
end
end M
namespace L2
open PySem
structure IsC (K : PySem.W.Frag) (C : Addr) : Prop where
  cl : Cls K C
  ha : PySem.W.findIn K (.ref C) "__class__" = some (some (.builtin "object.__class__"))
  hn : PySem.W.specialIn K (.builtin "object.__class__") "__get__" = some (some (.builtin "getset_descriptor.__get__"))
  htk : PySem.W.takesIn K (.builtin "object.__class__") = some true
  hm : PySem.W.mroIn K C (.type "object") = some true
section
variable {X : Cx} {e : Expr} {pos p p' : Pos} {ta : TE} {T : Addr} {N : Str} {ans : List (Str × Bool)}
end
end L2
namespace M
open PySem L2
section
variable {K : PySem.W.Frag} {S S' H H' : Hp}
@[simp] noncomputable def xIsiN (ans : List (Str × Bool)) (e : XE) : XE := fun ρ => (e ρ).bind fun d => match d with | .ins N _ _ => (ans.lookup N).map .bl | _ => none
end
end M
namespace L2
open PySem PySem.Spec PyProof.Rows Builtin Builtin.ObjectAttr Builtin.Getset_descriptor
noncomputable def XAt (C a : Addr) (h : Heap) : Prop := ∃ o vs, h.get? a = some o ∧ o.cls = .ref C ∧ o.data = .fields vs
noncomputable abbrev excO (C a : Addr) : HO := .ext (XAt C a)
structure XCls (K : PySem.W.Frag) (C : Addr) : Prop where
  cl : PySem.W.hasDictIn K C = true
  ga : PySem.W.findIn K (.ref C) "__getattribute__" = some (some (.builtin "BaseException.__getattribute__"))
  gx : PySem.W.findIn K (.ref C) "__getattr__" = some none
  ca : PySem.W.findIn K (.ref C) "__class__" = some (some (.builtin "object.__class__"))
  hn : PySem.W.specialIn K (.builtin "object.__class__") "__get__" = some (some (.builtin "getset_descriptor.__get__"))
  tk : PySem.W.takesIn K (.builtin "object.__class__") = some true
  ob : PySem.W.mroIn K C (.type "object") = some true
  be : PySem.W.mroIn K C (.type "BaseException") = some true
section
variable {prog : Program} {w : World} {A : Around} {E : Value → Shared → Prop} {s : Shared} {K : PySem.W.Frag} {C a : Addr}
theorem XAt.type {M : Model} {h : Heap} (x : XAt C a h) : PySem.W.Looks M h (typeOf (.ref a)) (.ref C) := by
  obtain ⟨o, vs, e, c, d⟩ := x
  exact c ▸ (PySem.W.Looks.ld e).andThen .now
theorem exc_find {M : Model} {h : Heap} (X : K.In h) (c : XCls K C) : PySem.W.Looks M h (find (.ref a) (.ref C) "__class__") (.bind (.builtin "getset_descriptor.__get__") (.builtin "object.__class__")) := by
  refine (PySem.W.looks_findIn (M := M) X c.ca).andThen ((show PySem.W.Looks M h (getOf (some (.builtin "object.__class__"))) (some (.builtin "getset_descriptor.__get__")) from PySem.W.looks_specialIn X c.hn).andThen ?_)
  exact (show PySem.W.Looks M h (dataDescriptor? (some (.builtin "object.__class__")) (some (.builtin "getset_descriptor.__get__"))) (some (.builtin "getset_descriptor.__get__", .builtin "object.__class__")) from (PySem.W.looks_takesIn (M := M) X c.tk).andThen .now).andThen (PySem.W.Looks.tag .now)
theorem exc_class_get {tp : Value} {R : Result → Shared → Prop} (X : K.In s.heap) (c : XCls K C) (x : XAt C a s.heap) (h : R (.ok (.ret (.ref C))) s) :
    codeAny (model prog w) A (.call (.builtin "getset_descriptor.__get__") ⟨[.builtin "object.__class__", .ref a, tp], []⟩) R s := by
  obtain ⟨hp, gn, dr, tt, oss⟩ := s
  have T0 := x.type (M := model prog w)
  have T1 := PySem.W.looks_mroIn (M := model prog w) X c.ob
  refine codeAny_call_builtin PySem.W.KF.slot_gs.plain PySem.W.KF.entry_gs (PySem.W.KF.slot_gs.check _ _ _ _ _ _ _ _ PySem.W.KF.type_class (PySem.W.KF.args_gs _ _ _) ?_)
  unfold Builtin.«getset_descriptor.__get__» descrGet
  rw [PySem.W.dga_obj]
  refine wpAny_bind (wpAny_pure ?_)
  unfold descrGetter descrCheckInstance descrNameAndClass isInstance
  simp only [PySem.W.KF.owner_class]
  repeat lk
  refine ⟨Code.quiet_builtin _ (by decide +kernel), codeAny_builtin PySem.W.KF.entry_class ?_⟩
  unfold Builtin.«object.__class__» shownTypeOf
  repeat lk
  exact h
theorem exc_ga_check {nv : Value} {Q : Unit → Shared → Prop} {M : Model} (X : K.In s.heap) (c : XCls K C) (x : XAt C a s.heap) (h : Q () s) : wpAny M A (checkBuiltinCall "BaseException.__getattribute__" ⟨[.ref a, nv], []⟩) Q E s := by
  obtain ⟨hp, gn, dr, tt, oss⟩ := s
  have T0 := x.type (M := M)
  have T1 := PySem.W.looks_mroIn (M := M) X c.be
  have kk : builtinKind "BaseException.__getattribute__" = some .slot := by decide +kernel
  have sp : splitId "BaseException.__getattribute__" = some ("BaseException", "__getattribute__") := by decide +kernel
  have ar := F.args_bexc_ga (.ref a) nv
  simp only [checkBuiltinCall, kk, sp]
  refine wpAny_bind ?_
  unfold isInstance
  repeat (first | lk | wp_step)
  exact h
theorem exc_class {Q : Option Value → Shared → Prop} (X : K.In s.heap) (c : XCls K C) (x : XAt C a s.heap) (h : Q (some (.ref C)) { s with toks := s.toks + 1 }) : wpAny (model prog w) A (getAttr? (.ref a) "__class__") Q E s := by
  obtain ⟨hp, gn, dr, tt, oss⟩ := s
  have T0 := x.type (M := model prog w)
  have T1 := PySem.W.looks_findIn (M := model prog w) X c.ga
  have T2 := PySem.W.looks_findIn (M := model prog w) X c.gx
  have T3 := exc_find (M := model prog w) (a := a) X c
  unfold getAttr? getAttrBy? getAttrBy
  refine wpAny_bind (wpAny_mkText (wpAny_bind (wpAny_attempt (wpAny_holding (wpAny_bind (T0.at (wpAny_bind (T1.at ?_))))))))
  show wpAny _ _ (getAttrByItsOwn _ _ _ _ _ _) _ _ _
  unfold getAttrByItsOwn hookBefore
  refine wpAny_bind (T2.at ?_)
  refine wpAny_bind (wpAny_attempt (wpAny_holding ?_))
  show wpAny _ _ (boundAndCalled _ _ _) _ _ _
  have hbd := PySem.F.attr_ValueError.ga.bind (.ref a)
  unfold boundAndCalled
  rw [hbd]
  refine wpAny_bind (wpAny_pure ?_)
  refine wpAny_call (codeAny_call_builtin PySem.F.attr_ValueError.ga.plain F.entry_bexc_ga (exc_ga_check X c x ?_))
  unfold Builtin.«object.__getattribute__»
  repeat (first | with_reducible refine wpAny_call ?_ | lk | wp_step)
  refine exc_class_get (s := ⟨hp, gn, dr, tt + 1, oss⟩) X c x ?_
  refine wpAny_pure (wpAny_pure ?_)
  exact wpAny_pure h
theorem kitx_exc (c : XCls K C) : PySem.W.KitX K (.ref a) (.ref C) (XAt C a) where
  ty := fun _ _ _ x => x.type
  it := fun M h X _ => by
    obtain ⟨cd, hc, _⟩ := PySem.W.any_some c.cl
    unfold PySem.W.clsIn at hc
    split at hc
    · rename_i ho
      intro A' Q' E' s' k q
      unfold isType loadHead
      exact wpAny_bind (wpAny_loadPart (k _ _ (X _ _ ho)) (wpAny_pure q))
    · cases hc
  ne := fun h tp dd its n sl X htp => by
    obtain ⟨cd, hc, _⟩ := PySem.W.any_some c.cl
    refine Bool.eq_false_iff.mpr fun q => ?_
    obtain rfl : C = tp := Value.ref.inj (beq_iff_eq.mp q)
    unfold PySem.W.clsIn at hc
    split at hc
    · rename_i ho
      have z := (X _ _ ho).symm.trans htp
      cases z
    · cases hc
  ca := fun X x k => exc_class X c x k
end
end L2
namespace L2
open PySem PySem.Spec PyProof.Rows
theorem ObjOk.at_ {P : Program} {w : World} {H : Hp} {h : Heap} {a : Addr} {o : HO} (x : ObjOk P w H h a o) : ∃ u, h.get? a = some u := by
  cases o with
  | lst xs => obtain ⟨_, _, _, _, e⟩ := x; exact ⟨_, e⟩
  | tup xs => obtain ⟨_, _, _, _, e, _⟩ := x; exact ⟨_, e⟩
  | dK kvs => obtain ⟨_, _, _, _, o, _, _, e, _⟩ := x; exact ⟨_, e⟩
  | dT kvs => obtain ⟨_, _, _, _, o, _, _, e, _⟩ := x; exact ⟨_, e⟩
  | set S n => obtain ⟨o, _, _, _, e, _⟩ := x; exact ⟨_, e⟩
  | ins C dx fs => obtain ⟨_, _, _, e, _⟩ := x; exact ⟨_, e⟩
  | own y => exact x
  | xd fs => obtain ⟨_, ⟨_, _, _, e, _⟩, _⟩ := x; exact ⟨_, e⟩
  | rng lo hi => obtain ⟨_, _, _, e⟩ := x; exact ⟨_, e⟩
  | frz ob u => exact ⟨_, x.1⟩
  | tbl ps => exact ⟨_, (show h.get? a = some _ from x)⟩
  | met f y => exact ⟨_, (show h.get? a = some _ from x)⟩
  | ext φ => exact x.2.1
noncomputable def CXe (P : Program) (w : World) : CXT := fun outer H s E v s' => ∃ (e : Addr) (cls a0 : Value) (H' : Hp) (B : Heap), v = .ref e ∧ s'.os = s.os ∧ AllBare s'.gens ∧ Un (frs outer) [] H H' s.heap s'.heap ∧ HOk P w H' s'.heap ∧ E cls none H' ∧
  Heap.FlyingW B outer e cls a0 s'.heap ∧ (∀ b u, H' b = some u → ∃ o, B.get? b = some o) ∧ ∀ b o, s.heap.get? b = some o → b ∉ frs outer → ∃ o', B.get? b = some o'
section
variable {H H' : Hp} {B h0 h h' : Heap} {fs : List Addr}
theorem hok_fly {P : Program} {w : World} (x : HOk P w H h) (hB : B.StaysIn h) (hB' : B.StaysIn h') (k : ∀ b u, H b = some u → ∃ o, B.get? b = some o) : HOk P w H h' := fun a o ha =>
  (x a o ha).stay (fun b u hb q => by
    obtain ⟨v, hv⟩ : ∃ v, H b = some v := by
      rcases hb with rfl | hb
      · exact ⟨o, ha⟩
      · exact ⟨_, hb⟩
    obtain ⟨ob, q1⟩ := k b v hv
    have q2 := hB b ob q1
    rw [q] at q2
    cases q2
    exact hB' b _ q1) (fun _ q => q) fun _ _ q => q
theorem fly_un (un : Un fs [] H H' h0 h) (k2 : ∀ b o, h0.get? b = some o → b ∉ fs → ∃ o', B.get? b = some o') (nf : ∀ b ∈ fs, ∀ o, h0.get? b = some o → ∀ vs, o.data ≠ .fields vs) (fr : ∀ b ∈ fs, H b = none)
    (hB : B.StaysIn h) (hB' : B.StaysIn h') (sm : h.UpToSlots h') : Un fs [] H H' h0 h' := by
  have no : ∀ b : Addr, b ∉ ([] : List Addr) := fun b z => by cases z
  have both : ∀ b o, h0.get? b = some o → b ∉ fs → ∃ o', h.get? b = some o' ∧ h'.get? b = some o' := fun b o q z => by
    obtain ⟨o', q'⟩ := k2 b o q z
    exact ⟨o', hB b o' q', hB' b o' q'⟩
  have slots : ∀ b o, h0.get? b = some o → b ∈ fs → ∃ sl, h'.get? b = some { o with slots := sl } := fun b o q z => by
    obtain ⟨sl, q2⟩ := un.slot b o q (fr b z) z (no b)
    obtain ⟨sl', q3⟩ := sm b _ q2 (nf b z o q)
    exact ⟨sl', q3⟩
  refine ⟨fun b o q n z _ => ?_, fun b o q _ z _ => slots b o q z, un.free, fun b o q _ => ?_, un.tups, un.frzs, un.tbls⟩
  · obtain ⟨o', q1, q2⟩ := both b o q z
    have q3 := un.keep b o q n z (no b)
    rw [q3] at q1
    cases q1
    exact q2
  · by_cases z : b ∈ fs
    · obtain ⟨sl, q1⟩ := slots b o q z
      exact ⟨_, q1⟩
    · obtain ⟨o', _, q2⟩ := both b o q z
      exact ⟨o', q2⟩
end
section
variable {X : Cx} {pins : List (Addr × Obj)} {σ : St} {H : Hp} {s : Shared} {E : XK} {B : Heap} {e : Addr} {cls a0 : Value}
theorem Inv.nf (I : Inv X pins σ H s) : ∀ b ∈ X.fs, ∀ o, X.s₀.heap.get? b = some o → ∀ vs, o.data ≠ .fields vs := fun b z o q => by
  obtain ⟨_, o1, q1, nf⟩ := I.ok.funs.mem z
  rw [q] at q1
  cases q1
  exact nf
theorem Inv.nfS (I : Inv X pins σ H s) : ∀ b ∈ frs X.stack, ∀ o, s.heap.get? b = some o → ∀ vs, o.data ≠ .fields vs := fun b z o q => by
  obtain ⟨_, o1, q1, nf⟩ := I.stack.mem z
  rw [q] at q1
  cases q1
  exact nf
theorem fly_out {h' : Heap} (I : Inv X pins σ H s) (hex : X.ex = []) (hE : E cls none H) (hB : B.StaysIn s.heap) (k1 : ∀ b u, H b = some u → ∃ o, B.get? b = some o)
    (k2 : ∀ b o, X.s₀.heap.get? b = some o → b ∉ X.fs → ∃ o', B.get? b = some o') (fl : Heap.FlyingW B X.outer e cls a0 h') (sm : s.heap.UpToSlots h') : CXe X.prog X.w X.outer X.H₀ X.s₀ E (.ref e) { s with heap := h' } :=
  ⟨e, cls, a0, H, B, rfl, I.os, I.bare, fly_un (by have := I.base; rw [hex] at this; exact this) k2 I.nf I.ok.frf hB fl.1 sm, hok_fly I.hok hB fl.1 k1, hE, fl, k1, k2⟩
theorem Inv.notStk (I : Inv X pins σ H s) {b : Addr} {o : Obj} (q : X.s₀.heap.get? b = some o) (z : b ∉ X.fs) : b ∉ frs X.stack := fun hb => by
  rcases List.mem_cons.mp (I.stkSub b hb) with r | r
  · exact absurd (Heap.lt_size q) (by rw [r]; exact Nat.not_lt.mpr I.ok.above)
  · exact z r
end
section
variable {P : Program} {w : World} {K : PySem.W.Frag} {mg : Str → Option Value} {base : Heap} {N : List Str} {qual : Str} {scope : Scope} {f : Addr} {cdv : Value} {A : Around} {outer : List Env} {s : Shared} {H : Hp} {E : XK}
noncomputable def Raises (X : Cx) (E : XK) : Prop := ∀ (pins : List (Addr × Obj)) (σ : St) (H : Hp) (s : Shared) (h' : Heap) (e C : Addr) (vs : List Value), Inv X pins σ H s → Heap.MadeExcOf s.heap h' e (.ref C) vs → E (.ref C) none H → X.xe (.ref e) { s with heap := h' }
theorem raise_e : Raises (cxOf (CXe P w) P w K mg base N qual scope f cdv A outer s H E) E := by
  intro pins σ H1 s1 h' e C vs I hx hE
  have hin : ∀ env ∈ (cxOf (CXe P w) P w K mg base N qual scope f cdv A outer s H E).stack, ∀ b, env.frame = some b → b ∈ frs (cxOf (CXe P w) P w K mg base N qual scope f cdv A outer s H E).stack := fun env he b hb => List.mem_filterMap.mpr ⟨env, he, hb⟩
  have I2 := I.kept (t' := s1.toks) hx.keeps
  refine wpAny_leaves_madeW (base := PySem.W.hideAll s1.heap (frs (cxOf (CXe P w) P w K mg base N qual scope f cdv A outer s H E).stack)) I.ok.frames rfl (fun b o q => PySem.W.of_hideAll _ q) (PySem.W.funFrames_hide I.stack hin) hx fun h2 t fl _ _ sm => ?_
  refine fly_out (X := cxOf (CXe P w) P w K mg base N qual scope f cdv A outer s H E) (s := { s1 with heap := h' }) I2 rfl hE (fun b o q => hx.keeps b o (PySem.W.of_hideAll _ q)) (fun b u q => ?_) (fun b o q z => ?_) fl sm
  · obtain ⟨o, q1⟩ := (I.hok b u q).at_
    exact ⟨o, PySem.W.hideAll_get _ q1 fun hb => by rw [I.stkFree b hb] at q; cases q⟩
  · obtain ⟨o1, q1⟩ := I.base.there b o q (by intro y; cases y)
    exact ⟨o1, PySem.W.hideAll_get _ q1 (I.notStk q z)⟩
end
theorem exc_obj {K : PySem.W.Frag} {h : Heap} {C : Addr} {bmB : List Value} {newId : String} (X : K.In h) (q : PySem.W.excIn K C bmB newId = true) : ∃ bm N nm qn bs hdct sn sub ab col dd k0 k1 k2 k3 k5 mN,
    h.get? C = some (excClassObj nm qn C N bs bm hdct sn sub ab col dd k0 k1 k2 k3 k5 newId) ∧ h.Ns N mN ∧ mN "__init__" = none ∧ OwnTail h bmB bm := by
  unfold PySem.W.excIn at q
  split at q <;> try (cases q; done)
  rename_i dd cd sl ho
  split at q <;> try (cases q; done)
  rename_i C' bm k0 k1 k2 k3 n k5 hm hs
  simp only [Bool.and_eq_true, beq_iff_eq, Bool.not_eq_true'] at q
  obtain ⟨⟨⟨⟨⟨rfl, rfl⟩, qd⟩, qt⟩, qo⟩, qi⟩ := q
  obtain ⟨nm, bs, mro, ns, qn, hd, sn, sub, ab, col, del⟩ := cd
  obtain ⟨l⟩ := sl
  dsimp only at hm hs qd qo qi
  subst hm hs qd
  exact ⟨bm, ns, nm, qn, bs, hd, sn, sub, ab, col, dd, k0, k1, k2, k3, k5, _, X _ _ ho, .of_isNs (PySem.W.isNs_of_in X qo), PySem.W.nsMap_none_of_in X qo qi, PySem.W.tail_of_in X qt⟩
abbrev bmV : List Value := [.type "ValueError", .type "Exception", .type "BaseException", .type "object"]
noncomputable def tRaise (K : PySem.W.Frag) (N : Str) (te : TE) (E : XK) : TS := fun _ σ H => ∀ C, PySem.W.nsIn K mainGlobals N = some (some (.ref C)) → tCons te tNil σ H fun vs H1 => vs.length = 1 ∧ E (.ref C) none H1
section
variable {X : Cx} {E : XK} {x : Str} {e : Expr} {te : TE} {np cpos pos : Pos}
theorem ps_raise (hz : Raises X E) (hE : ∃ C : Addr, PySem.W.nsIn X.K mainGlobals x = some (some (.ref C)) ∧ PySem.W.excIn X.K C bmV "ValueError.__new__" = true ∧ X.mg x = some (.ref C)) (hh : X.A.handled = none) (hg : Gl X x) (he : PE X e te)
    (hdb : (x == ("__debug__" : Str)) = false := by decide) (h1 : starEach [e] X.env = (false, eval e X.env) :: starEach [] X.env := by rfl) (h2 : (backTo cpos (starEach [] X.env)).any (·.1) = false := by rfl) :
    PS X (.Raise (some (.Call (.Name x np) [e] [] cpos)) none pos) (tRaise X.K x te E) := by
  intro pins s σ H D I h
  obtain ⟨C, hN, hq, hm⟩ := hE
  have h := h C hN
  obtain ⟨tl, N, nm, q, bs, hdct, sn, sub, ab, col, dd, k0, k1, k2, k3, k5, mN, hC, hNs, hni, T⟩ := exc_obj I.ok.mod.kin hq
  refine wpAny_Raise_call_subT (C := C) (nm := nm) (q := q) (N := N) (bs := bs) (bm := tl) (hdct := hdct) (sn := sn) (sub := sub) (ab := ab) (col := col) (dd := dd) (k0 := k0) (k1 := k1) (k2 := k2) (k3 := k3) (k5 := k5)
    PySem.F.excBase_ValueError (mN := mN) (T.hasType PySem.F.excBase_ValueError.hasBase) hh (by rw [h1]; show (false || (backTo cpos (starEach [] X.env)).any (·.1)) = false; rw [h2]; rfl) hni (ld_glob I hg hm ⟨rfl, ?_⟩ hdb)
  have hp := pa_cons (X := X) he pa_nil h1 cpos pins s σ H (fun vs H1 => vs.length = 1 ∧ E (.ref C) none H1) I h
  rw [h1] at hp ⊢
  exact Calls.evalArgs_plain (thn hp fun us s2 ⟨vs, H2, I2, r, ql, q2⟩ => ⟨rfl, by rw [← r.length, ql]; exact Nat.le_trans (show 1 ≤ 1000 by decide) (by rw [sizeLine_eq]; decide), I2.bk _ _ hC, hNs.keeps I2.bk, T.keeps I2.bk, fun h' e' hx => hz pins σ H2 s2 h' e' C us I2 hx q2⟩)
end
end L2
namespace L2
open PySem PySem.Spec PyProof.Rows
noncomputable abbrev Cx.hold (X : Cx) (e : Addr) : Cx := { X with A := X.A.mark (some (.ref e)), calm := false, xe := fun _ _ => False }
noncomputable abbrev Cx.pin (X : Cx) (ps : List (Addr × Obj)) : Cx := { X with pn := X.pn ++ ps }
section
variable {X : Cx} {pins : List (Addr × Obj)} {σ : St} {H H' : Hp} {s s' : Shared} {e : Addr}
theorem Cx.Ok.hold (ok : X.Ok) (e : Addr) : (X.hold e).Ok :=
  ⟨ok.mod, ok.kind, ok.glob, ok.blt, ok.above, ok.inj, ok.has, ok.cab, (fun z => by cases z), ok.frames, ok.stk, ok.exf, ok.bs, ok.bsz, ok.noex, ok.exfs, ok.funs, ok.frf⟩
theorem Inv.hold (I : Inv X pins σ H s) (e : Addr) : Inv (X.hold e) pins σ H s := ⟨I.ok.hold e, I.os, I.bare, I.base, I.loc, I.cell, I.free, I.freeC, I.pin, I.hok, I.len⟩
theorem Inv.unhold (ok : X.Ok) (I : Inv (X.hold e) pins σ H s) : Inv X pins σ H s := ⟨ok, I.os, I.bare, I.base, I.loc, I.cell, I.free, I.freeC, I.pin, I.hok, I.len⟩
theorem Inv.toPin (I : Inv X pins σ H s) : Inv (X.pin pins) [] σ H s :=
  ⟨⟨I.ok.mod, I.ok.kind, I.ok.glob, I.ok.blt, I.ok.above, I.ok.inj, I.ok.has, I.ok.cab, I.ok.hd, I.ok.frames, I.ok.stk, I.ok.exf, I.ok.bs, I.ok.bsz, I.ok.noex, I.ok.exfs, I.ok.funs, I.ok.frf⟩, I.os, I.bare, I.base, I.loc, I.cell, I.free, I.freeC, fun p hp => I.pin p (by rw [List.append_nil] at hp; exact hp), I.hok, I.len⟩
theorem Inv.ofPin {ps : List (Addr × Obj)} (ok : X.Ok) (I : Inv (X.pin pins) ps σ H s) : Inv X pins σ H s :=
  ⟨ok, I.os, I.bare, I.base, I.loc, I.cell, I.free, I.freeC, fun p hp => I.pin p (List.mem_append_left _ hp), I.hok, I.len⟩
theorem gone_ok {M : Model} {A : Around} {E : Value → Shared → Prop} {i : Nat} {n : Str} {pos : Pos} {Q : Unit → Shared → Prop} (I : Inv X pins σ H s) (hN : X.N.Nodup) (hi : X.N[i]? = some n) (hk : X.env.kindOf n = some .local)
    (h : ∀ s', Inv X pins (σ.set i none) H s' → Q () s') : wpAny M A (do bindName X.env n .none; unbindBehindTheSuite X.env n pos) Q E s := by
  have hcls : (X.env.scope.kind == .class || (X.env.scope.kind == .module && X.env.locals != X.env.globals)) = false := by rw [I.ok.kind]; rfl
  obtain ⟨m, hn, hl⟩ := id I.loc
  refine wpAny_bind (wpAny_bindName (wpAny_storeName_local hk hn (fun h1 hn1 hs1 => ?_) hcls))
  unfold unbindBehindTheSuite
  refine wpAny_onRaise ?_
  unfold unbindName
  refine wpAny_bind (wpAny_point (wpAny_bind ?_))
  unfold deleteName
  simp only [hk, hcls]
  rw [if_neg (by decide)]
  refine wpAny_bind (wpAny_nsDel_keeps hn1 fun h2 v hn2 hs2 => ?_)
  simp only [if_true, Option.isSome_some, Bool.not_true, Bool.false_eq_true, if_false]
  have hs := hs1.trans hs2
  have cne := I.cne
  obtain ⟨oL, _, _, hoL, _⟩ := id hn
  refine wpAny_pure (wpAny_point (h _ ⟨I.ok, I.os, I.bare, ⟨fun b o q z hb hx => ?_, fun b o q z hb hx => ?_, I.base.free, fun b o q hx => ?_, I.base.tups, I.base.frzs, I.base.tbls⟩, ⟨_, hn2, fun j y v' e1 e2 e3 => ?_⟩, fun y c q => ?_, I.free, I.freeC, fun p hp => ?_, fun b ob q => ?_, by rw [List.length_set]; exact I.len⟩))
  · exact (hs.2 b (Nat.ne_of_lt (Nat.lt_of_lt_of_le (Heap.lt_size q) I.ok.above))).trans (I.base.keep b o q z hb hx)
  · obtain ⟨sl, q1⟩ := I.base.slot b o q z hb hx
    exact ⟨sl, (hs.2 b (Nat.ne_of_lt (Nat.lt_of_lt_of_le (Heap.lt_size q) I.ok.above))).trans q1⟩
  · obtain ⟨o', q1⟩ := I.base.there b o q hx
    exact ⟨o', (hs.2 b (Nat.ne_of_lt (Nat.lt_of_lt_of_le (Heap.lt_size q) I.ok.above))).trans q1⟩
  · have hj : j ≠ i := fun z => by
      subst z
      by_cases hlt : j < σ.length
      · rw [List.getElem?_set_self hlt] at e2; cases e2
      · rw [List.getElem?_eq_none (by rw [List.length_set]; omega)] at e2; cases e2
    rw [List.getElem?_set_ne (Ne.symm hj)] at e2
    have hy : y ≠ n := fun z => hj (nodup_ix hN e1 (z ▸ hi))
    obtain ⟨u', r', q⟩ := hl j y v' e1 e2 e3
    refine ⟨u', r', ?_⟩
    rcases q with ⟨k, q⟩ | ⟨k, c, q, z⟩
    · exact .inl ⟨k, by simp [hy, q]⟩
    · exact .inr ⟨k, c, q, z.sameBut hs (cne y c q)⟩
  · obtain ⟨w', z⟩ := I.cell y c q
    exact ⟨w', z.sameBut hs (cne y c q)⟩
  · obtain ⟨q, z, ne, nf, d⟩ := I.pin p hp
    exact ⟨(hs.2 p.1 ne).trans q, z, ne, nf, d⟩
  · refine (I.hok b ob q).stay (fun c w' hc z => (hs.2 c ?_).trans z) (fun _ z => z) fun _ _ z => z
    rintro rfl
    rcases hc with rfl | hc
    · rw [I.free] at q; cases q
    · rw [I.free] at hc; cases hc
end
noncomputable def tTry (K : PySem.W.Frag) (L : List Str) (i : Nat) (tb : XK → TS) (ts : TS) : TS := fun D σ H =>
  tb (fun cls _ H' => ∃ N C, N ∈ L ∧ cls = .ref C ∧ PySem.W.nsIn K mainGlobals N = some (some (.ref C)) ∧ ∀ e, H' e = none →
    ts { nx := fun σ' H2 => D.nx (σ'.set i none) H2, rt := fun _ _ => False } ((List.replicate σ.length none).set i (some (.ref e))) (upd H' e (excO C e))) D σ H
section
variable {X : Cx} {body suite : List Stmt} {b0 : Stmt} {x n : Str} {i : Nat} {L : List Str} {tb : XK → TS} {ts : TS} {np hp pos : Pos}
theorem ps_try (hst : X.stack = X.env :: X.outer) (hfr : X.env.frame = some X.env.locals) (hN : X.N.Nodup) (hi : X.N[i]? = some n) (hl : X.env.kindOf n = some .local) (hm : ∃ T : Addr, X.mg x = some (.ref T) ∧ ∀ N ∈ L, ∀ C : Addr, PySem.W.nsIn X.K mainGlobals N = some (some (.ref C)) → PySem.W.exmOne X.K (.ref C) (.ref T) = some true) (hg : Gl X x)
    (hb : ∀ (ps : List (Addr × Obj)) (W : Value → Shared → Prop) (E : XK), Passes (CXe X.prog X.w) ((X.pin ps).wish W) E → PSs ((X.pin ps).wish W) body (tb E)) (hs : ∀ e, PSs (X.hold e) (b0 :: suite) ts) (hdb : (x == ("__debug__" : Str)) = false := by decide)
    (hf : X.fn n = true ∨ X.env.scope.names.lookup n = some .local := by first | exact .inl rfl | exact .inr rfl | assumption) :
    PS X (.Try body [.ExceptHandler (some (.Name x np)) (some n) (b0 :: suite) hp] [] [] pos) (tTry X.K L i tb ts) := by
  intro pins s σ H D I h
  have hlen : σ.length = X.N.length := I.len
  refine wpAny_Try_except ?_
  refine wpAny_mono (hb pins (fun v s1 => wpAny (model X.prog X.w) X.A (noteFrame v X.env) (fun _ s2 => wpAny (model X.prog X.w) X.A (setFlight v none) (fun _ s3 => wpAny (model X.prog X.w) X.A (handleBy v X.env [.ExceptHandler (some (.Name x np)) (some n) (b0 :: suite) hp]) (SP X pins D) X.xe s3) X.xe s2) X.xe s1) _ ?_ [] s σ H D (I.toPin.wish _) h) (fun f s1 q => ?_) fun _ _ z => z
  · intro ps σ1 H1 s1 v s' J hx
    obtain ⟨e, cls, a0, H', B, rfl, ho, hgn, un, hok, hE, fl, k1, k2⟩ := hx
    obtain ⟨M, C, hM, rfl, hC, hh⟩ := hE
    obtain ⟨T, hm, hmt⟩ := hm
    have hmt := hmt M hM C hC
    have J1 : Inv X pins σ1 H1 s1 := Inv.ofPin I.ok J.unwish
    have J1 : Inv X pins (List.replicate X.N.length none) H1 s1 := J1.weak (by rw [List.length_replicate, J1.len]) fun j v' q => by
      rw [List.getElem?_replicate] at q
      split at q <;> cases q
    have fl : Heap.FlyingW B (X.env :: X.outer) e (.ref C) a0 s'.heap := hst ▸ fl
    have hfrm : X.A.frames = some (X.env :: X.outer) := by rw [I.ok.frames, hst]
    refine wpAny_looks_onW hfrm hfr fl fun h4 held sm4 => ?_
    refine wpAny_landsW held fun h5 fl5 sm5 => ?_
    have sm5 := sm4.trans sm5
    -- the state ahead of the clause
    have J5 : Inv X pins (List.replicate X.N.length none) H' { s' with heap := h5 } := J1.call' ho (fly_un un k2 J1.nfS J1.stkFree fl.1 fl5.1 sm5) (hok_fly hok fl.1 fl5.1 k1) hgn (fun b z => by cases z)
    obtain ⟨oe, vs, he, hc, hd, _⟩ := fl5.first
    refine wpAny_handleBy_cons (codeAny_handlers_test (ld_glob (X := X.hold e) (J5.hold e) hg hm ?_ hdb)) (by intro z; cases z)
    have LT : PySem.W.Looks (model X.prog X.w) h5 (typeOf (.ref e)) (.ref C) := hc ▸ (PySem.W.Looks.ld he).andThen .now
    refine (PySem.W.exm_one (J5.kIn) LT hmt).here ?_
    refine codeAny_handlers_suite_as ?_
    refine lands_againW fl5 fun h6 fl6 sm6 => ?_
    have sm6 := sm5.trans sm6
    obtain ⟨oe, vs, he, hc, hd, _⟩ := fl6.first
    have heB : H' e = none := by
      cases q : H' e with
      | none => rfl
      | some u =>
        obtain ⟨o, q1⟩ := k1 e u q
        rw [fl6.2.1] at q1
        cases q1
    have un6 := fly_un un k2 J1.nfS J1.stkFree fl.1 fl6.1 sm6
    have hnew : ∀ b o, s1.heap.get? b = some o → b ≠ e := fun b o q z => by
      subst z
      by_cases hz : b ∈ frs X.stack
      · obtain ⟨sl, q2⟩ := un6.slot b o q (J1.stkFree b hz) hz (by intro y; cases y)
        rw [he] at q2
        cases q2
        exact J1.nfS b hz o q _ hd
      · obtain ⟨o', q1⟩ := k2 b o q hz
        rw [fl6.2.1] at q1
        cases q1
    have J6 : Inv X pins (List.replicate X.N.length none) (upd H' e (excO C e)) { s' with heap := h6 } := by
      refine J1.call' ho (ch := []) ⟨un6.keep, un6.slot, fun b o q z y => ?_, un6.there, fun b xs q => ?_, fun b o u q => ?_, fun b ps' q => ?_⟩ (fun b u q => ?_) hgn (fun b z => by cases z)
      · rw [upd_ne (hnew b o q)]; exact un6.free b o q z y
      · have := un6.tups b xs q; rw [upd_ne (ne_of_none this heB)]; exact this
      · have := un6.frzs b o u q; rw [upd_ne (ne_of_none this heB)]; exact this
      · obtain ⟨mr, this⟩ := un6.tbls b ps' q; exact ⟨mr, by rw [upd_ne (ne_of_none this heB)]; exact this⟩
      · have hok6 := hok_fly hok fl.1 fl6.1 k1
        by_cases hbe : b = e
        · subst hbe
          rw [upd_same] at q
          cases q
          refine ⟨⟨oe, vs, he, hc, hd⟩, ⟨oe, he⟩, fun h1 h2 ⟨o1, v1, z1, z2, z3⟩ kk => ⟨o1, v1, kk _ z1, z2, z3⟩⟩
        · rw [upd_ne hbe] at q
          exact (hok6 b u q).stay (fun _ _ _ z => z) (fun c z => by rw [upd_ne (ne_of_none z heB)]; exact z) fun c xs z => by rw [upd_ne (ne_of_none z heB)]; exact z
    refine store_ok (X := X.hold e) (J6.hold e) hN hi (.inl hl) (v := .ref e) rfl (fun s7 J7 => ?_) hf
    refine wpAny_mono (hs e pins s7 _ _ _ J7 (by rw [hlen] at hh; exact hh e heB)) (fun f s8 q => ?_) fun _ _ z => z.elim
    cases f with
    | next =>
      obtain ⟨σ8, H8, J8, q8⟩ := q
      exact gone_ok (Inv.unhold I.ok J8) hN hi hl fun s9 J9 => ⟨_, H8, J9, q8⟩
    | brk => obtain ⟨_, _, _, z⟩ := q; exact z.elim
    | cont => obtain ⟨_, _, _, z⟩ := q; exact z.elim
    | ret u => obtain ⟨_, _, _, _, _, z⟩ := q; exact z.elim
  · have q : SP X pins D f s1 := by
      have q := q.unwish
      cases f with
      | next => obtain ⟨σ', H', J, z⟩ := q; exact ⟨σ', H', Inv.ofPin I.ok J, z⟩
      | brk => obtain ⟨σ', H', J, z⟩ := q; exact ⟨σ', H', Inv.ofPin I.ok J, z⟩
      | cont => obtain ⟨σ', H', J, z⟩ := q; exact ⟨σ', H', Inv.ofPin I.ok J, z⟩
      | ret u => obtain ⟨v, σ', H', J, r, z⟩ := q; exact ⟨v, σ', H', Inv.ofPin I.ok J, r, z⟩
    cases f with
    | next => exact wpAny_execs_nil q
    | brk => exact q
    | cont => exact q
    | ret u => exact q
end
end L2
namespace L2
open PySem PySem.Spec PyProof.Rows
noncomputable def AnsX (K : PySem.W.Frag) (ans : List (Str × Bool)) (u : Value) : Prop := ∀ N b, ans.lookup N = some b → ∀ C : Addr, PySem.W.nsIn K mainGlobals N = some (some (.ref C)) → XCls K C ∧ PySem.W.kitOne K (.ref C) u = some b
theorem ansX_nil {K : PySem.W.Frag} {u : Value} : AnsX K [] u := fun N b h => by cases h
theorem ansX_cons {K : PySem.W.Frag} {u : Value} {N : Str} {b0 : Bool} {ans : List (Str × Bool)} (h0 : ∀ C : Addr, PySem.W.nsIn K mainGlobals N = some (some (.ref C)) → XCls K C ∧ PySem.W.kitOne K (.ref C) u = some b0) (h : AnsX K ans u) : AnsX K ((N, b0) :: ans) u := fun M b hl C hC => by
  rw [List.lookup] at hl
  split at hl
  · rename_i hb
    have e : M = N := by simpa using hb
    subst e
    cases hl
    exact h0 C hC
  · exact h M b hl C hC
noncomputable def rIsX (K : PySem.W.Frag) (ans : List (Str × Bool)) (vv : V) : List V → Hp → VK → Prop := fun xs H Q => ∃ e C N b, xs = [.ref e, vv] ∧ H e = some (excO C e) ∧ PySem.W.nsIn K mainGlobals N = some (some (.ref C)) ∧ ans.lookup N = some b ∧ Q (.bl b) H
noncomputable def tIsX (K : PySem.W.Frag) (i : Nat) (ans : List (Str × Bool)) : TE := fun σ H Q => ∃ e C N b, σ[i]? = some (some (.ref e)) ∧ H e = some (excO C e) ∧ PySem.W.nsIn K mainGlobals N = some (some (.ref C)) ∧ ans.lookup N = some b ∧ Q (.bl b) H
noncomputable def tIsXs (K : PySem.W.Frag) (i : Nat) : List (List (Str × Bool)) → TA
  | [] => tNil
  | a :: l => tCons (tIsX K i a) (tIsXs K i l)
section
variable {X : Cx} {e : Expr} {pos p p' : Pos} {i : Nat} {N : Str} {ans : List (Str × Bool)} {vv : V} {u : Value}
theorem call_isX (hv : ∀ v, RelV vv v → v = u) (hc : AnsX X.K ans u) : CallR X (.builtin "isinstance") (rIsX X.K ans vv) := by
  intro pins s σ H xs us Q I r h
  obtain ⟨a, C, N, b, rfl, ea, hC, hb, q⟩ := h
  obtain ⟨u1, v, rfl, r1, r2⟩ := Vals.two r
  have eu : u1 = Value.ref a := r1
  subst eu
  have ev := hv v r2
  subst ev
  obtain ⟨c, hk⟩ := hc N b hb C hC
  exact PySem.W.kia_one (kitx_exc c) I.kIn (I.hok a _ ea).1 hk (fun z => nomatch z) fun tk => ⟨.bl b, H, I.tok _, rfl, q⟩
theorem isX_tc {K : PySem.W.Frag} {σ : St} {H : Hp} {Q : VK} (h : tIsX K i ans σ H Q) : tCB (rIsX K ans vv) (tCons (tVar i) (tCons (tC vv) tNil)) σ H Q := by
  obtain ⟨a, C, N, b, h1, ea, hC, hb, q⟩ := h
  exact ⟨.ref a, h1, a, C, N, b, rfl, ea, hC, hb, q⟩
theorem pe_isX (h : ∃ T : Addr, X.mg N = some (.ref T) ∧ AnsX X.K ans (.ref T)) (hg : Gl X "isinstance") (hm : X.mg "isinstance" = none) (gT : Gl X N) (he : PE X e (tVar i)) (hdb : (N == ("__debug__" : Str)) = false := by decide)
    (h1 : starEach [e, .Name N p'] X.env = (false, eval e X.env) :: starEach [.Name N p'] X.env := by rfl) (h2 : starEach [.Name N p'] X.env = (false, eval (.Name N p') X.env) :: starEach [] X.env := by rfl) (hpl : (backTo pos (starEach [.Name N p'] X.env)).any (·.1) = false := by rfl) :
    PE X (.Call (.Name "isinstance" p) [e, .Name N p'] [] pos) (tIsX X.K i ans) := by
  obtain ⟨T, k2, k3⟩ := h
  exact fun a b c d q I h => pe_callB (call_isX (vv := .ref T) (fun v r => r) k3) hg hm bt_isinstance (pa_cons he (pa_cons (pe_glob (v := .ref T) gT k2 rfl hdb) pa_nil h2) h1) (by decide) (by decide) h1 hpl a b c d q I (isX_tc h)
theorem pe_isXB {M : String} (k2 : X.mg N = none) (hv : bootBuiltins N = some (.type M)) (k3 : AnsX X.K ans (.type M)) (hg : Gl X "isinstance") (hm : X.mg "isinstance" = none) (gT : Gl X N) (he : PE X e (tVar i)) (hn : N ≠ "__name__" := by decide) (hdb : (N == ("__debug__" : Str)) = false := by decide)
    (h1 : starEach [e, .Name N p'] X.env = (false, eval e X.env) :: starEach [.Name N p'] X.env := by rfl) (h2 : starEach [.Name N p'] X.env = (false, eval (.Name N p') X.env) :: starEach [] X.env := by rfl) (hpl : (backTo pos (starEach [.Name N p'] X.env)).any (·.1) = false := by rfl) :
    PE X (.Call (.Name "isinstance" p) [e, .Name N p'] [] pos) (tIsX X.K i ans) :=
  fun a b c d q I h => pe_callB (call_isX (vv := .ty M) (fun v r => r) k3) hg hm bt_isinstance (pa_cons he (pa_cons (pe_bltn (v := .ty M) gT k2 hv rfl hn hdb) pa_nil h2) h1) (by decide) (by decide) h1 hpl a b c d q I (isX_tc h)
theorem pss_stop {st : Stmt} {rest : List Stmt} {t : TS} (h : PS X st t) : PSs X (st :: rest) (fun D => t { D with nx := fun _ _ => False }) := by
  intro pins s σ H D I q
  refine wpAny_execs_cons (thn (h pins s σ H _ I q) fun f s1 z => ?_)
  cases f with
  | next => obtain ⟨_, _, _, y⟩ := z; exact y.elim
  | brk => exact z
  | cont => exact z
  | ret u => exact z
theorem bt_abs : bootBuiltins "abs" = some (.builtin "abs") := by decide +kernel
noncomputable def rAbs : List V → Hp → VK → Prop := fun xs H Q => ∃ i, xs = [.int i] ∧ Q (.int (if i < 0 then -i else i)) H
theorem call_absM : CallR X (.builtin "abs") rAbs := call_abs
theorem Fun.okX {P : Program} {w : World} {K : PySem.W.Frag} {mg : Str → Option Value} {base : Heap} {x qual : Str} {st : Stmt} {f : Addr} {fd : FuncData} {N ps : List Str} {k : Nat} {sp : Sp} (F : Fun K x qual st f fd) (S : FnScope N ps (defScope st)) (len : ∀ vs H Q E, sp vs H Q E → vs.length = ps.length)
    (hbody : ∀ (cdv : Value) (A : Around) (outer : List Env) (s : Shared) (H : Hp) (vs : List V) (Q : VK) (E : XK), Room k (A.deeper (envOfC qual (defScope st) s.heap.objs.size f cdv)) → sp vs H Q E →
      ∃ t, PSs (cxOf (CXe P w) P w K mg base N qual (defScope st) f cdv A outer s H E) (defBody st) t ∧ t { nx := fun _ H' => Q .non H', rt := Q } (start N vs) H) : FnOk P w K mg base (CXe P w) (k + 1) f fd ps sp := by
  obtain ⟨oc, od, kV, doc, pm, an, cdv, ct, osl, rfl, lk, hcd⟩ := F.ex
  exact fn_of lk hcd S len fun A outer s H vs Q E hr hsp => hbody cdv A outer s H vs Q E hr hsp
end
end L2
namespace M
open PySem L2
section
variable {K : PySem.W.Frag} {S S' H H' : Hp}
noncomputable def bAbs : List D → Option D
  | [.int i] => some (.int (if i < 0 then -i else i))
  | _ => none
theorem b_abs : SRB K rAbs bAbs := fun S H vs ds g Q s h x k => by
  match ds, x with
  | [.int i], x =>
    cases x
    cases h with
    | cons a b =>
      cases b
      exact ⟨i, by rw [a.int], k _ S H (Ext.refl s) (den_int.mpr rfl)⟩
inductive RO where
  | rz (N : Str) | nx (ρ : Env)
noncomputable abbrev XR := Env → Option RO
noncomputable def XDone (K : PySem.W.Frag) (A S : Hp) (E : XK) (N : Str) : Prop := ∀ C S' H', Same S S' → Same S' H' → Same A H' → (∀ b, S' b = none ∨ A b = none) → PySem.W.nsIn K mainGlobals N = some (some (.ref C)) → E (.ref C) none H'
theorem XDone.mono {A : Hp} {E : XK} {N : Str} (s : Same S S') (h : XDone K A S E N) : XDone K A S' E N := fun C S1 H1 z => h C S1 H1 (s.trans z)
noncomputable def DoneX (K : PySem.W.Frag) (A : Hp) (Λ : Nat → Option Addr) (S : Hp) (E : XK) (D : Ends) : RO → Prop
  | .rz N => XDone K A S E N
  | .nx ρ => ∀ σ' S' H', RlA K A Λ ρ σ' S' H' → Same S S' → D.nx σ' H'
theorem DoneX.mono {A : Hp} {Λ : Nat → Option Addr} {E : XK} {D : Ends} {o : RO} (s : Same S S') (h : DoneX K A Λ S E D o) : DoneX K A Λ S' E D o := by
  cases o with
  | rz N => exact XDone.mono s h
  | nx ρ => exact fun σ1 S1 H1 r z => h σ1 S1 H1 r (s.trans z)
noncomputable def SX (K : PySem.W.Frag) (E : XK) (t : TS) (m : XR) : Prop := ∀ A Λ ρ σ S H (D : Ends) o, RlA K A Λ ρ σ S H → m ρ = some o → DoneX K A Λ S E D o → t D σ H
noncomputable def SXE (K : PySem.W.Frag) (E : XK) (t : TE) (m : Env → Option Str) : Prop := ∀ A Λ ρ σ S H (Q : VK) N, RlA K A Λ ρ σ S H → m ρ = some N → XDone K A S E N → t σ H Q
variable {E : XK}
@[simp] noncomputable def xrNext : XR := fun ρ => some (.nx ρ)
theorem sx_next : SX K E tNext xrNext := fun A Λ ρ σ S H D o r x k => by cases x; exact k σ S H r (Same.refl _)
@[simp] noncomputable def xrRaise (N : Str) : XR := fun _ => some (.rz N)
theorem sx_raise {N : Str} {v : V} : SX K E (tRaise K N (tC v) E) (xrRaise N) := fun A Λ ρ σ S H D o r x k => by
  cases x
  exact fun C hC => ⟨rfl, k C S H (Same.refl _) r.sub r.asub r.adis hC⟩
@[simp] noncomputable def xrIf (c : XT) (m n : XR) : XR := fun ρ => (c ρ).bind fun b => if b = true then m ρ else n ρ
theorem sx_if {tc : TT} {t u : TS} {c : XT} {m n : XR} (hc : ST K tc c) (ht : SX K E t m) (hu : SX K E u n) : SX K E (tIfS tc t u) (xrIf c m n) := fun A Λ ρ σ S H D o r x k => by
  unfold xrIf at x
  cases qc : c ρ with
  | none => rw [qc] at x; cases x
  | some q =>
    rw [qc] at x
    dsimp only [Option.bind] at x
    refine hc ρ σ S H _ q r.toRl qc fun S1 H1 z1 => ?_
    cases q with
    | true => exact iteT (ht A Λ ρ σ S1 H1 D o (r.ext z1) (by simpa using x) (k.mono z1.sh))
    | false => exact iteF (hu A Λ ρ σ S1 H1 D o (r.ext z1) (by simpa using x) (k.mono z1.sh))
@[simp] noncomputable def xrSeq (m n : XR) : XR := fun ρ => (m ρ).bind fun o => match o with | .nx ρ' => n ρ' | .rz N => some (.rz N)
@[simp] noncomputable def xrStop (m : XR) : XR := fun ρ => (m ρ).bind fun o => match o with | .nx _ => none | .rz N => some (.rz N)
theorem sx_stop {t : TS} {m : XR} (ht : SX K E t m) : SX K E (fun D => t { D with nx := fun _ _ => False }) (xrStop m) := fun A Λ ρ σ S H D o r x k => by
  unfold xrStop at x
  cases q : m ρ with
  | none => rw [q] at x; cases x
  | some om =>
    rw [q] at x
    dsimp only [Option.bind] at x
    cases om with
    | nx ρ' => cases x
    | rz N => cases x; exact ht A Λ ρ σ S H _ _ r q k
@[simp] noncomputable def xrE (m : Env → Option Str) : XR := fun ρ => (m ρ).map .rz
theorem sx_drop {t : TE} {m : Env → Option Str} (h : SXE K E t m) : SX K E (tDrop t) (xrE m) := fun A Λ ρ σ S H D o r x k => by
  unfold xrE at x
  cases q : m ρ with
  | none => rw [q] at x; cases x
  | some N => rw [q] at x; cases x; exact h A Λ ρ σ S H _ N r q k
noncomputable def spX (K : PySem.W.Frag) (n : Nat) (m : List D → Option Str) : Sp := fun vs H _ E => vs.length = n ∧ ∃ S ds N, Same S H ∧ Dens K S ds vs ∧ m ds = some N ∧ ∀ C S' H', Ext S H S' H' → PySem.W.nsIn K mainGlobals N = some (some (.ref C)) → E (.ref C) none H'
theorem ext_of {A S H S1 H1 : Hp} {Λ : Nat → Option Addr} {ρ : Env} {σ : St} (r : RlA K A Λ ρ σ S H) (z : Ext S H S1 H1) : Same S S1 ∧ Same S1 H1 ∧ Same A H1 ∧ ∀ b, S1 b = none ∨ A b = none := ⟨z.sh, z.sub, (r.ext z).asub, (r.ext z).adis⟩
@[simp] noncomputable def xeCall (m : List D → Option Str) (a : XA) : Env → Option Str := fun ρ => (a ρ).bind m
theorem sxe_call {n : Nat} {m : List D → Option Str} {t : TA} {a : XA} (h : SA K t a) (hn : ∀ ρ ds, a ρ = some ds → ds.length = n) : SXE K E (tCall (spX K n m) [] E t) (xeCall m a) := fun A Λ ρ σ S H Q N r x k => by
  unfold xeCall at x
  cases q : a ρ with
  | none => rw [q] at x; cases x
  | some ds =>
    rw [q] at x
    refine h ρ σ S H _ ds r.toRl q fun vs S1 H1 z1 d1 => ?_
    rw [List.append_nil]
    refine ⟨by rw [← d1.length]; exact hn ρ ds q, S1, ds, N, z1.sub, d1, x, fun C S2 H2 z2 hC => ?_⟩
    obtain ⟨e1, e2, e3, e4⟩ := ext_of r (z1.trans z2)
    exact k C S2 H2 e1 e2 e3 e4 hC
noncomputable def fnX (n : Nat) (m : XR) (ds : List D) : Option Str := match m (ds.map .sh ++ List.replicate (n - ds.length) .un) with
  | some (.rz N) => some N
  | _ => none
theorem ext_al {S1 H1 : Hp} (s1 : Same S S1) (s2 : Same S1 H1) (s3 : Same (alien S H) H1) (s4 : ∀ b, S1 b = none ∨ alien S H b = none) : Ext S H S1 H1 := ⟨s1, s2, fun b o hb hn => by
  have ha := alien_of hb hn
  refine ⟨s3 b o ha, ?_⟩
  rcases s4 b with z | z
  · exact z
  · rw [ha] at z; cases z⟩
theorem rdX_of {t : TS} {m : XR} {N : List Str} {n k : Nat} {vs : List V} {H : Hp} {Q : VK} (hs : SX K E t m) (hN : N.length = n) (h : spX K k (fnX n m) vs H Q E) : t { nx := fun _ H' => Q .non H', rt := Q } (L2.start N vs) H := by
  obtain ⟨_, S, ds, M, s, dd, y, q⟩ := h
  subst hN
  unfold fnX at y
  have r := rl_start (N := N) s dd
  split at y <;> cases y
  rename_i qx
  exact hs _ _ _ _ S H _ _ r qx fun C S' H' s1 s2 s3 s4 hC => q C S' H' (ext_al s1 s2 s3 s4) hC
theorem dens_bl : ∀ bs : List Bool, Dens K S (bs.map D.bl) (bs.map V.bl)
  | [] => .nil
  | b :: bs => .cons (den_bl.mpr rfl) (dens_bl bs)
noncomputable def lookN (N : Str) : List (List (Str × Bool)) → Option (List Bool)
  | [] => some []
  | a :: l => (a.lookup N).bind fun b => (lookN N l).map fun bs => b :: bs
theorem s_isXs {i : Nat} {N : Str} : ∀ {l : List (List (Str × Bool))} {bs : List Bool}, lookN N l = some bs → ∀ σ H (Q : List V → Hp → Prop) e C, σ[i]? = some (some (.ref e)) → H e = some (excO C e) → PySem.W.nsIn K mainGlobals N = some (some (.ref C)) → Q (bs.map V.bl) H → tIsXs K i l σ H Q
  | [], bs, h, σ, H, Q, e, C, _, _, _, q => by cases h; exact q
  | a :: l, bs, h, σ, H, Q, e, C, h1, h2, h3, q => by
    unfold lookN at h
    cases qa : a.lookup N with
    | none => rw [qa] at h; cases h
    | some b =>
      rw [qa] at h
      cases ql : lookN N l with
      | none => rw [ql] at h; cases h
      | some bs' =>
        rw [ql] at h
        cases h
        exact ⟨e, C, N, b, h1, h2, h3, qa, s_isXs ql σ H _ e C h1 h2 h3 q⟩
noncomputable def tSets (K : PySem.W.Frag) (i : Nat) : List (Nat × List (List (Str × Bool))) → TS
  | [] => tNext
  | [p] => tAsg (tLst (tIsXs K i p.2)) (gName p.1)
  | p :: l => tSeq (tAsg (tLst (tIsXs K i p.2)) (gName p.1)) (tSets K i l)
noncomputable def hSets (i : Nat) (N : Str) : List (Nat × List (List (Str × Bool))) → Env → Option Env
  | [], ρ => some ρ
  | p :: l, ρ => if p.1 = i then none else (lookN N p.2).bind fun bs => if bs.length ≤ 1000 then hSets i N l (ρ.set p.1 (.sh (.lst (bs.map .bl)))) else none
noncomputable def SU (K : PySem.W.Frag) (i : Nat) (N : Str) (t : TS) (f : Env → Option Env) : Prop := ∀ A Λ ρ σ S H (D : Ends) e C ρ', RlA K A Λ ρ σ S H → f ρ = some ρ' → σ[i]? = some (some (.ref e)) → H e = some (excO C e) → PySem.W.nsIn K mainGlobals N = some (some (.ref C)) →
  (∀ σ' S' H', RlA K A Λ ρ' σ' S' H' → Same S S' → σ'[i]? = some (some (.ref e)) → H' e = some (excO C e) → D.nx σ' H') → t D σ H
theorem su_one {i : Nat} {N : Str} (p : Nat × List (List (Str × Bool))) : SU K i N (tAsg (tLst (tIsXs K i p.2)) (gName p.1)) (hSets i N [p]) := fun A Λ ρ σ S H D e C ρ' r hf h1 h2 h3 k => by
  unfold hSets at hf
  split at hf
  · cases hf
  · rename_i hij
    cases ql : lookN N p.2 with
    | none => rw [ql] at hf; cases hf
    | some bs =>
      rw [ql] at hf
      dsimp only [Option.bind] at hf
      split at hf
      · rename_i hl
        cases hf
        refine s_isXs ql σ H _ e C h1 h2 h3 ⟨by rw [List.length_map]; exact Nat.le_trans hl (by rw [sizeLine_eq]; decide), fun a ha => ?_⟩
        have z : Ext S H (upd S a (.lst (bs.map V.bl))) (upd H a (.lst (bs.map V.bl))) := Ext.new r.sub ha
        refine k _ (upd S a (.lst (bs.map V.bl))) _ ((r.ext z).set p.1 (den_lst.mpr ⟨a, bs.map V.bl, rfl, .inl upd_same, dens_bl bs⟩)) z.sh ?_ ?_
        · rw [List.getElem?_set_ne hij]; exact h1
        · rw [upd_ne (ne_of_none h2 ha)]; exact h2
      · cases hf
theorem hSets_cons {i : Nat} {N : Str} {p : Nat × List (List (Str × Bool))} {l : List (Nat × List (List (Str × Bool)))} {ρ ρ' : Env} (h : hSets i N (p :: l) ρ = some ρ') : ∃ ρ1, hSets i N [p] ρ = some ρ1 ∧ hSets i N l ρ1 = some ρ' := by
  rw [hSets] at h
  split at h
  · cases h
  · rename_i hij
    cases ql : lookN N p.2 with
    | none => rw [ql] at h; cases h
    | some bs =>
      rw [ql] at h
      dsimp only [Option.bind] at h
      split at h
      · rename_i hl
        refine ⟨ρ.set p.1 (.sh (.lst (bs.map .bl))), ?_, h⟩
        rw [hSets, if_neg hij, ql]
        show (if bs.length ≤ 1000 then _ else none) = _
        rw [if_pos hl]
        rfl
      · cases h
theorem su_sets {i : Nat} {N : Str} : ∀ l : List (Nat × List (List (Str × Bool))), SU K i N (tSets K i l) (hSets i N l)
  | [] => fun A Λ ρ σ S H D e C ρ' r hf h1 h2 h3 k => by cases hf; exact k σ S H r (Same.refl _) h1 h2
  | [p] => su_one p
  | p :: q :: l => fun A Λ ρ σ S H D e C ρ' r hf h1 h2 h3 k => by
    obtain ⟨ρ1, f1, f2⟩ := hSets_cons hf
    refine su_one p A Λ ρ σ S H _ e C ρ1 r f1 h1 h2 h3 fun σ' S' H' r' z a b => ?_
    exact su_sets (q :: l) A Λ ρ1 σ' S' H' D e C ρ' r' f2 a b h3 fun σ2 S2 H2 r2 z2 a2 b2 => k σ2 S2 H2 r2 (z.trans z2) a2 b2
theorem RlA.drop {A : Hp} {Λ : Nat → Option Addr} {ρ : Env} {σ : St} (r : RlA K A Λ ρ σ S H) (i : Nat) : RlA K A Λ (ρ.set i .un) (σ.set i none) S H := by
  obtain ⟨Φ, f⟩ := r
  have ge : ∀ (j : Nat) t, (ρ.set i .un)[j]? = some t → t ≠ .un → j ≠ i ∧ ρ[j]? = some t := fun j t h n => by
    rcases set_inv h with ⟨_, e, _⟩ | ⟨hij, h⟩
    · exact absurd e n
    · exact ⟨Ne.symm hij, h⟩
  exact ⟨Φ, {
    len := by rw [List.length_set, List.length_set]; exact f.len
    sub := f.sub
    sh := fun j d h => by
      obtain ⟨hj, h⟩ := ge j _ h (by intro z; cases z)
      rw [List.getElem?_set_ne (Ne.symm hj)]
      exact f.sh j d h
    ow := fun j o h => by
      obtain ⟨hj, h⟩ := ge j _ h (by intro z; cases z)
      rw [List.getElem?_set_ne (Ne.symm hj)]
      exact f.ow j o h
    dj := fun j k o o' hjk h1 h2 => f.dj j k o o' hjk (ge j _ h1 (by intro z; cases z)).2 (ge k _ h2 (by intro z; cases z)).2
    lo := fun j h => by
      obtain ⟨hj, h⟩ := ge j _ h (by intro z; cases z)
      rw [List.getElem?_set_ne (Ne.symm hj)]
      exact f.lo j h
    asub := f.asub
    adis := f.adis }⟩
@[simp] noncomputable def xTry (L : List Str) (i : Nat) (m : XR) (l : List (Nat × List (List (Str × Bool)))) : XS := fun ρ => if i < ρ.length then (m ρ).bind fun o => match o with
  | .rz N => if L.contains N then (hSets i N l (ρ.map fun _ => .un)).map fun ρ' => .nx (ρ'.set i .un) else none
  | .nx ρ' => some (.nx ρ') else none
theorem s_try {L : List Str} {i : Nat} {tb : XK → TS} {m : XR} {l : List (Nat × List (List (Str × Bool)))} (hb : ∀ E, SX K E (tb E) m) : SS K (tTry K L i tb (tSets K i l)) (xTry L i m l) := fun A Λ ρ σ S H D o r q k => by
  unfold xTry at q
  split at q <;> try (cases q; done)
  rename_i hi
  cases qm : m ρ with
  | none => rw [qm] at q; cases q
  | some om =>
    rw [qm] at q
    dsimp only [Option.bind] at q
    have hlen : σ.length = ρ.length := by obtain ⟨_, f⟩ := r; exact f.len
    refine hb _ A Λ ρ σ S H D om r qm ?_
    cases om with
    | nx ρ' => cases q; exact k
    | rz N =>
      dsimp only at q
      split at q <;> try (cases q; done)
      rename_i hN
      cases qf : hSets i N l (ρ.map fun _ => .un) with
      | none => rw [qf] at q; cases q
      | some ρ' =>
        rw [qf] at q
        cases q
        intro C S1 H1 s1 s2 s3 s4 hC
        refine ⟨N, C, by simpa using hN, rfl, hC, fun e he => ?_⟩
        have r0 : RlA K A Λ (ρ.map fun _ => Sl.un) ((List.replicate σ.length none).set i (some (.ref e))) S1 (upd H1 e (excO C e)) := by
          have no : ∀ (j : Nat) t, (ρ.map fun _ => Sl.un)[j]? = some t → t = .un := fun j t h => by
            rw [List.getElem?_map] at h
            cases qj : ρ[j]? with
            | none => rw [qj] at h; cases h
            | some _ => rw [qj] at h; cases h; rfl
          exact ⟨fun _ => [], {
            len := by rw [List.length_set, List.length_replicate, List.length_map]; exact hlen
            sub := fun b o h => by rw [upd_ne (ne_of_none (s2 b o h) he)]; exact s2 b o h
            sh := fun j d h => by cases no j _ h
            ow := fun j d h => by cases no j _ h
            dj := fun j _ d _ _ h => by cases no j _ h
            lo := fun j h => by cases no j _ h
            asub := fun b o h => by rw [upd_ne (ne_of_none (s3 b o h) he)]; exact s3 b o h
            adis := s4 }⟩
        refine su_sets l A Λ _ _ S1 _ _ e C ρ' r0 qf (List.getElem?_set_self (by rw [List.length_replicate, hlen]; exact hi)) upd_same hC fun σ' S' H' r' z _ _ => ?_
        exact k _ S' H' (r'.drop i) (s1.trans z)
end
end M
namespace L2
open PySem PySem.Spec PyProof.Rows
section
variable {X : Cx} {tg : Expr}
end
end L2
namespace M
open PySem L2
section
variable {K : PySem.W.Frag} {S S' H H' : Hp}
noncomputable def rngA : List D → Option (List D)
  | [.int i, .int j] => some (intsD i (j - i).toNat)
  | _ => none
@[simp] noncomputable def xRngA (a : XA) : XA := fun ρ => (a ρ).bind rngA
end
end M
namespace L2
open PySem PySem.Spec PyProof.Rows
noncomputable def Its (x : Str) : It := ⟨fun i _ => i < x.cps.size, fun i H v H' => H' = H ∧ ∃ c, x.cps[i]? = some c ∧ v = .str ⟨#[c]⟩, fun i _ => x.cps.size ≤ i⟩
theorem turn_ascii {P : Program} {w : World} {K : PySem.W.Frag} {tg : Expr} (it : Addr) (x : Str) (t : Tok) : Turn P w K tg (Its x) [it] it (fun i h => h.IsStrIter it "str_ascii_iterator" x t i) where
  mem := by simp
  obj := fun i h st b hb => by
    obtain rfl : b = it := by simpa using hb
    obtain ⟨o, e, c, d⟩ := st
    exact ⟨o, e, fun v z => by rw [d] at z; cases z⟩
  keep := fun i h h' st k => by
    obtain ⟨o, e, r⟩ := st
    exact ⟨o, k it (by simp) o e, r⟩
  item := by
    intro X hP hw hK hc i pins s σ H E I hf st hg
    subst hP hw hK
    have ⟨g0, g1, g2, g3, g4, g5⟩ := hf it (by simp)
    refine (Walks.strAscii (prog := X.prog) (w := X.w) (I.ok.hd hc) it x t).item i s _ _ hg st fun v h' tk hv st' kk => ?_
    obtain ⟨c, u, hx, rfl⟩ := hv
    have J : Inv X pins σ H { s with heap := h', toks := tk } := I.turned (fun b o hb q => kk b o (by simpa using hb) q) g0 g1 g3 g4 g5
    obtain ⟨o, e, c1, d1⟩ := id st'
    exact ⟨_, rfl, go_of (s := { s with heap := h', toks := tk }) e c1 d1 (by decide) ⟨.str ⟨#[c]⟩, H, J, ⟨u, rfl⟩, ⟨rfl, c, hx, rfl⟩, st', fun b hb => (hf b hb).1⟩⟩
  done := by
    intro X hP hw hK hc i pins s σ H E I hf st hg
    subst hP hw hK
    have ⟨g0, g1, g2, g3, g4, g5⟩ := hf it (by simp)
    exact wpAny_pyNext_ascii_end (I.ok.hd hc) st (by have : x.cps.size ≤ i := hg; simp; omega) fun h' eb => ⟨rfl, I.turned (t' := s.toks) (fun b o hb q => eb b o hb q) g0 g1 g3 g4 g5⟩
  self := fun _ _ _ _ _ st h => wpAny_pyIter_striter_ascii st h
theorem turn_wide {P : Program} {w : World} {K : PySem.W.Frag} {tg : Expr} (it : Addr) (x : Str) (t : Tok) : Turn P w K tg (Its x) [it] it (fun i h => h.IsStrIter it "str_iterator" x t i) where
  mem := by simp
  obj := fun i h st b hb => by
    obtain rfl : b = it := by simpa using hb
    obtain ⟨o, e, c, d⟩ := st
    exact ⟨o, e, fun v z => by rw [d] at z; cases z⟩
  keep := fun i h h' st k => by
    obtain ⟨o, e, r⟩ := st
    exact ⟨o, k it (by simp) o e, r⟩
  item := by
    intro X hP hw hK hc i pins s σ H E I hf st hg
    subst hP hw hK
    have ⟨g0, g1, g2, g3, g4, g5⟩ := hf it (by simp)
    refine (Walks.strWide (prog := X.prog) (w := X.w) (I.ok.hd hc) it x t).item i s _ _ hg st fun v h' tk hv st' kk => ?_
    obtain ⟨c, u, hx, rfl⟩ := hv
    have J : Inv X pins σ H { s with heap := h', toks := tk } := I.turned (fun b o hb q => kk b o (by simpa using hb) q) g0 g1 g3 g4 g5
    obtain ⟨o, e, c1, d1⟩ := id st'
    exact ⟨_, rfl, go_of (s := { s with heap := h', toks := tk }) e c1 d1 (by decide) ⟨.str ⟨#[c]⟩, H, J, ⟨u, rfl⟩, ⟨rfl, c, hx, rfl⟩, st', fun b hb => (hf b hb).1⟩⟩
  done := by
    intro X hP hw hK hc i pins s σ H E I hf st hg
    subst hP hw hK
    have ⟨g0, g1, g2, g3, g4, g5⟩ := hf it (by simp)
    exact wpAny_pyNext_wide_end (I.ok.hd hc) st (by have : x.cps.size ≤ i := hg; simp; omega) fun h' eb => ⟨rfl, I.turned (t' := s.toks) (fun b o hb q => eb b o hb q) g0 g1 g3 g4 g5⟩
  self := fun _ _ _ _ _ st h => wpAny_pyIter_striter_wide st h
section
variable {X : Cx} {tg : Expr}
noncomputable def iStr (tl : TE) : TI := fun σ H R => tl σ H fun v H1 => ∃ x, v = .str x ∧ R (Its x) H1
theorem pi_str {l : Expr} {tl : TE} (hl : PE X l tl) : PI X tg l (iStr tl) := by
  intro pins s σ H R I h
  refine thn (hl pins s σ H _ I h) fun v s1 hpt9 => ?_
  obtain ⟨y, H1, I1, r1, q1⟩ := hpt9
  obtain ⟨x, rfl, q⟩ := q1
  obtain ⟨t, rfl⟩ := r1
  have fp : ∀ (o : Obj) (b : Addr), b ∈ [s1.heap.objs.size] → FpOk X pins H1 b := fun o b hb => by
    obtain rfl : b = s1.heap.objs.size := by simpa using hb
    exact I1.fpOk (Nat.le_refl _) (I1.hok.fresh (Nat.le_refl _))
  cases ha : x.cps.all (· < 128)
  · exact wpAny_pyIter_wide ha ⟨_, [s1.heap.objs.size], _, _, H1, rfl, I1.kept (t' := s1.toks) fun b o z => Heap.get?_push_of_some _ z, turn_wide _ x t, ⟨_, Heap.get?_push_size _ rfl, rfl, rfl⟩, fun b hb => fp default b hb, q⟩
  · exact wpAny_pyIter_ascii ha ⟨_, [s1.heap.objs.size], _, _, H1, rfl, I1.kept (t' := s1.toks) fun b o z => Heap.get?_push_of_some _ z, turn_ascii _ x t, ⟨_, Heap.get?_push_size _ rfl, rfl, rfl⟩, fun b hb => fp default b hb, q⟩
noncomputable def rSlS : V → Option Int → Option Int → Hp → VK → Prop := fun x lo hi H Q => ∃ y, x = .str y ∧ y.length ≤ sizeLine ∧ Q (.str (Txt.slice y lo hi)) H
theorem sl_str : SlR X rSlS := by
  intro pins s σ H x v vl vu lo hi sl Q I rx hs pl pu h
  obtain ⟨y, rfl, hz, q⟩ := h
  obtain ⟨t, rfl⟩ := rx
  have fin : ∀ t' k, EP X pins σ Q (.str (Txt.slice y lo hi) t') { s with toks := k } := fun t' k => ⟨.str _, H, I.tok k, ⟨t', rfl⟩, q⟩
  refine ⟨"str", _, F.slot_str_getitem.lookup, typeIs_str _ _ _, ?_⟩
  cases pl <;> cases pu
  · exact wpAny_getItem_str_slice (l := none) (u := none) (st := none) hs rfl (post_val_or_str ⟨Nat.le_trans (Txt.slice_le y _ _) hz, fin⟩)
  · exact wpAny_getItem_str_slice (l := none) (u := some (_, _)) (st := none) hs rfl (post_val_or_str ⟨Nat.le_trans (Txt.slice_le y _ _) hz, fin⟩)
  · exact wpAny_getItem_str_slice (l := some (_, _)) (u := none) (st := none) hs rfl (post_val_or_str ⟨Nat.le_trans (Txt.slice_le y _ _) hz, fin⟩)
  · exact wpAny_getItem_str_slice (l := some (_, _)) (u := some (_, _)) (st := none) hs rfl (post_val_or_str ⟨Nat.le_trans (Txt.slice_le y _ _) hz, fin⟩)
noncomputable def rStarts : V → List V → Hp → VK → Prop := fun x vs H Q => ∃ y z, x = .str y ∧ vs = [.str z] ∧ Q (.bl (decide (z.length ≤ y.length) && Builtin.Str.subAt y z 0)) H
theorem mt_starts : MtR X "str.startswith" rStarts := by
  intro pins s σ H x vs v us Q I rx rv h
  obtain ⟨y, z, rfl, rfl, q⟩ := h
  obtain ⟨t, rfl⟩ := rx
  obtain ⟨u, rfl, ru⟩ := rv.one
  obtain ⟨t', rfl⟩ := ru
  refine call_gives F.slot_str_startswith (typeIs_str _ _ _) F.entry_str_startswith (F.args_str_startswith_2 _ _) (gives_str_startswith y z t t') ?_
  refine ⟨.bl _, H, I, ?_, q⟩
  show Value.bool _ = Value.bool _
  rw [Nat.zero_add]
noncomputable def rIntS : List V → Hp → VK → Prop := fun xs H Q => ∃ x n, xs = [.str x] ∧ PySem.intText? x = some n ∧ x.length ≤ 640 ∧ Q (.int n) H
theorem call_intS : CallR X (.type "int") rIntS := by
  intro pins s σ H xs us Q I r h
  obtain ⟨x, n, rfl, hn, hl, q⟩ := h
  obtain ⟨u, rfl, t, rfl⟩ := vals1 r
  exact PySem.W.KIN.call_text hn hl ⟨.int n, H, I.tok _, ⟨_, rfl⟩, q⟩
noncomputable def rStrI : List V → Hp → VK → Prop := fun xs H Q => ∃ i, xs = [.int i] ∧ i.natAbs.log2 < 1920 ∧ Q (.str (toString i)) H
theorem call_strI : CallR X (.type "str") rStrI := call_str_int
theorem rep_size (z : Array Nat) (h : z.size = 1) : ∀ (n : Nat) (a : Array Nat), ((List.replicate n z).foldl (· ++ ·) a).size = a.size + n
  | 0, _ => rfl
  | n + 1, a => by
    rw [List.replicate_succ, List.foldl_cons, rep_size z h n, Array.size_append, h]
    omega
noncomputable def rInS : R2 := fun x y H Q => ∃ i j, x = .str i ∧ y = .str j ∧ Q (.bl (!(Builtin.Str.occurrences j i 0 j.length 1).isEmpty)) H
theorem op_inS : OpR X (compareOp .In) rInS := op_in_str
noncomputable def rMulS : R2 := fun x y H Q => ∃ z i, x = .str z ∧ y = .int i ∧ z.length = 1 ∧ 1 < i ∧ i ≤ 1000 ∧ Q (.str ⟨(List.replicate i.toNat z.cps).foldl (· ++ ·) #[]⟩) H
theorem op_mulS : OpR X (binaryOp .Mult) rMulS := by
  intro pins s σ H x y v u Q I rx ry h
  obtain ⟨z, i, rfl, rfl, hz, h1, h2, q⟩ := h
  obtain ⟨t, rfl⟩ := rx
  obtain ⟨t', rfl⟩ := ry
  have n1 : ¬ i < 1 := by omega
  have n2 : ¬ (i == 1 || z.length == 0) = true := by
    rw [hz]
    simp
    omega
  refine P.mul_str ?_ (fun _ _ => ?_) (fun _ _ => ?_) ?_
  · have a : ¬ i < -(2 ^ 63 : Int) := by omega
    have b : ¬ i ≥ 2 ^ 63 := by omega
    rw [decide_eq_false a, decide_eq_false b]; rfl
  · rw [hz]
    have : (1 : Int) ≤ (2 ^ 63 - 1) / i := by
      rw [Int.le_ediv_iff_mul_le (by omega)]
      omega
    show ¬ ((1 : Nat) : Int) > _
    omega
  · rw [hz]
    unfold Builtin.Str.tooLong
    have := sizeLine_eq
    simp
    omega
  · rw [if_neg n1, if_neg n2]
    refine ⟨?_, .str _, H, I.tok _, ⟨_, rfl⟩, q⟩
    have := sizeLine_eq
    have := rep_size z.cps hz i.toNat #[]
    show ((List.replicate i.toNat z.cps).foldl (· ++ ·) #[]).size ≤ sizeLine
    rw [this, sizeLine_eq]
    simp
    omega
noncomputable def rAll (K : PySem.W.Frag) : List V → Hp → VK → Prop := fun xs H Q => ∃ p, ∃ bs : List Bool, xs = [.ref p] ∧ SqL K H p (bs.map V.bl) ∧ Q (.bl (bs.all id)) H
theorem range_all_of (bs : List Bool) : (List.range bs.length).all (fun i => bs.getD i true) = bs.all id := by
  rw [Bool.eq_iff_iff, List.all_eq_true, List.all_eq_true]
  constructor
  · intro h b hb
    obtain ⟨i, hi, rfl⟩ := List.getElem_of_mem hb
    have := h i (List.mem_range.mpr hi)
    simpa [hi] using this
  · intro h i hi
    have hi := List.mem_range.mp hi
    have := h bs[i] (List.getElem_mem hi)
    simpa [hi] using this
theorem call_allM (hc : X.calm = true) : CallR X (.builtin "all") (rAll X.K) := by
  intro pins s σ H xs us Q I r h
  obtain ⟨p, bs, rfl, hS, q⟩ := h
  obtain ⟨u, rfl, ru⟩ := r.one
  cases ru
  obtain ⟨its, rv, pl, hz⟩ := I.list hS
  have hl := pl.isList
  have hlen : bs.length = its.length := by have := rv.length; simpa using this
  refine call_all_walk (wpAny_pyIter_list hl ?_)
  have hne : p ≠ s.heap.objs.size := Nat.ne_of_lt pl.lt
  refine ⟨_, _, _, _, _, _, fun i => bs.getD i true, rfl, Walks.list (A := X.A.in1) (I.ok.hd hc) _ p hne its.toArray, ⟨⟨_, Heap.get?_push_size _ rfl, rfl, rfl⟩, hl.push _⟩, ?_, ?_⟩
  · intro i v s' Q' E' hv hQ
    have hv : its[i]? = some v := by simpa using hv
    have hi : i < bs.length := by
      rw [hlen]
      exact (List.getElem?_eq_some_iff.mp hv).1
    obtain ⟨u, hu, ru⟩ := rv.get (i := i) (x := .bl (bs[i])) (by simp [hi])
    rw [hu] at hv
    cases hv
    cases ru
    have e : bs.getD i true = bs[i] := by simp [hi]
    dsimp only at hQ
    rw [e] at hQ
    exact wpAny_truthy_bool hQ
  · intro h' tk hk
    rw [List.size_toArray, ← hlen, range_all_of]
    exact ⟨.bl _, H, I.kept (old_kept hk), rfl, q⟩
end
end L2
namespace M
open PySem L2
section
variable {K : PySem.W.Frag} {S S' H H' : Hp}
noncomputable def signsD (x : Str) : List D := x.cps.toList.map fun c => D.str ⟨#[c]⟩
noncomputable def sgD : D → Option (List D)
  | .str x => some (signsD x)
  | _ => none
@[simp] noncomputable def xItS (e : XE) : XA := fun ρ => (e ρ).bind sgD
theorem walks_str (x : Str) : Walks K (Its x) S (signsD x) := fun S' H' _ _ => ⟨fun i d h => by
  unfold signsD at h
  rw [List.getElem?_map] at h
  cases q : x.cps.toList[i]? with
  | none => rw [q] at h; cases h
  | some c =>
    rw [q] at h
    cases h
    have q' : x.cps[i]? = some c := by simpa using q
    refine ⟨?_, fun v H'' y => ⟨y.1, ?_⟩⟩
    · exact (Array.getElem?_eq_some_iff.mp q').1
    · obtain ⟨_, c', e, rfl⟩ := y
      rw [q'] at e
      cases e
      exact den_str.mpr rfl, by
  show x.cps.size ≤ (signsD x).length
  unfold signsD
  rw [List.length_map, Array.length_toList]
  exact Nat.le_refl _⟩
theorem i_str {tl : TE} {e : XE} (h : SE K tl e) : SI K (iStr tl) (xItS e) := fun ρ σ S H R l r x k => by
  unfold xItS at x
  cases q : e ρ with
  | none => rw [q] at x; cases x
  | some d =>
    rw [q] at x
    cases d <;> try (cases x; done)
    cases x
    exact h ρ σ S H _ _ r q fun v S1 H1 z1 d1 => ⟨_, den_str.mp d1, k _ S1 H1 z1 (walks_str _)⟩
noncomputable def dSlS (d : D) (lo hi : Option Int) : Option D := match d with
  | .str x => if x.length ≤ LIM then some (.str (Txt.slice x lo hi)) else none
  | _ => none
@[simp] noncomputable def xSlS (a : XE) (lo hi : XO) : XE := fun ρ => (a ρ).bind fun d => (lo ρ).bind fun l => (hi ρ).bind fun h => dSlS d l h
theorem s_slS {te : TE} {tl th : TO} {a : XE} {lo hi : XO} (ha : SPk K te a) (hl : SO K tl lo) (hh : SO K th hi) : SE K (tSl rSlS te tl th) (xSlS a lo hi) := fun ρ σ S H Q g r x k => by
  unfold xSlS at x
  cases q : a ρ with
  | none => rw [q] at x; cases x
  | some d =>
    rw [q] at x
    dsimp only [Option.bind] at x
    cases ql : lo ρ with
    | none => rw [ql] at x; cases x
    | some l =>
      rw [ql] at x
      dsimp only at x
      cases qh : hi ρ with
      | none => rw [qh] at x; cases x
      | some h =>
        rw [qh] at x
        dsimp only at x
        refine ha ρ σ S H _ d r q fun v S1 H1 z1 d1 => ?_
        have r1 := r.ext z1
        refine hl ρ σ S1 H1 _ l r1 ql fun S2 H2 z2 => ?_
        have r2 := r1.ext z2
        refine hh ρ σ S2 H2 _ h r2 qh fun S3 H3 z3 => ?_
        cases d <;> try (cases x; done)
        rename_i y
        have x : (if y.length ≤ LIM then some (D.str (Txt.slice y l h)) else none) = some g := x
        split at x
        · rename_i hy
          cases x
          exact ⟨y, d1.str, lim_le hy, k _ S3 H3 (z1.trans (z2.trans z3)) (den_str.mpr rfl)⟩
        · cases x
noncomputable def dStarts : D → D → Option D
  | .str y, .str z => some (.bl (decide (z.length ≤ y.length) && Builtin.Str.subAt y z 0))
  | _, _ => none
theorem s_starts {ta tb : TE} {a b : XE} (ha : SPk K ta a) (hb : SPk K tb b) : SE K (tBM K "str" rStarts ta (tCons tb tNil)) (xOp dStarts a b) := fun ρ σ S H Q g r x k => by
  unfold xOp at x
  cases qa : a ρ with
  | none => rw [qa] at x; cases x
  | some da =>
    rw [qa] at x
    dsimp only [Option.bind] at x
    cases qb : b ρ with
    | none => rw [qb] at x; cases x
    | some db =>
      rw [qb] at x
      cases da <;> try (cases x; done)
      cases db <;> try (cases x; done)
      cases x
      refine ha ρ σ S H _ _ r qa fun v S1 H1 z1 d1 => ?_
      rw [d1.str]
      refine ⟨rfl, ?_⟩
      refine hb ρ σ S1 H1 _ _ (r.ext z1) qb fun v S2 H2 z2 d2 => ?_
      rw [d2.str]
      exact ⟨_, _, rfl, rfl, k _ S2 H2 (z1.trans z2) (den_bl.mpr rfl)⟩
noncomputable def bIntS : List D → Option D
  | [.str x] => if x.length ≤ 640 then (PySem.intText? x).map D.int else none
  | _ => none
theorem b_intS : SRB K rIntS bIntS := fun S H vs ds g Q s h x k => by
  unfold bIntS at x
  split at x
  · rename_i y
    obtain ⟨v, rfl, d1⟩ := one_of h
    split at x
    · rename_i hy
      cases q : PySem.intText? y with
      | none => rw [q] at x; cases x
      | some n =>
        rw [q] at x
        cases x
        exact ⟨y, n, by rw [d1.str], q, hy, k _ S H (Ext.refl s) (den_int.mpr rfl)⟩
    · cases x
  · cases x
noncomputable def bStrI : List D → Option D
  | [.int i] => if i.natAbs.log2 < 1920 then some (.str (toString i)) else none
  | _ => none
theorem b_strI : SRB K rStrI bStrI := fun S H vs ds g Q s h x k => by
  unfold bStrI at x
  split at x
  · rename_i y
    obtain ⟨v, rfl, d1⟩ := one_of h
    split at x
    · rename_i hy
      cases x
      exact ⟨y, by rw [d1.int], hy, k _ S H (Ext.refl s) (den_str.mpr rfl)⟩
    · cases x
  · cases x
noncomputable def dMulS : D → D → Option D
  | .str z, .int i => if z.length = 1 ∧ 1 < i ∧ i ≤ 1000 then some (.str ⟨(List.replicate i.toNat z.cps).foldl (· ++ ·) #[]⟩) else none
  | _, _ => none
theorem r_mulS : SR2 K rMulS dMulS := fun S H x y d e z Q s dx dy q k => by
  unfold dMulS at q
  split at q
  · rename_i u i
    split at q
    · rename_i c
      cases q
      exact ⟨u, i, dx.str, dy.int, c.1, c.2.1, c.2.2, k _ S H (Ext.refl s) (den_str.mpr rfl)⟩
    · cases q
  · cases q
noncomputable def dInS : D → D → Option D
  | .str i, .str j => some (.bl (!(Builtin.Str.occurrences j i 0 j.length 1).isEmpty))
  | _, _ => none
theorem r_inS : SR2 K rInS dInS := fun S H x y d e z Q s dx dy q k => by
  unfold dInS at q
  split at q
  · cases q
    exact ⟨_, _, dx.str, dy.str, k _ S H (Ext.refl s) (den_bl.mpr rfl)⟩
  · cases q
noncomputable def boolsOf : List D → Option (List Bool)
  | [] => some []
  | .bl b :: l => (boolsOf l).map fun r => b :: r
  | _ :: _ => none
theorem boolsOf_is : ∀ {l : List D} {bs : List Bool}, boolsOf l = some bs → l = bs.map D.bl
  | [], bs, h => by cases h; rfl
  | d :: l, bs, h => by
    cases d <;> try (cases h; done)
    rename_i b
    have h : (boolsOf l).map (fun r => b :: r) = some bs := h
    cases q : boolsOf l with
    | none => rw [q] at h; cases h
    | some r => rw [q] at h; cases h; rw [boolsOf_is q]; rfl
theorem dens_bls : ∀ {bs : List Bool} {xs : List V}, Dens K S (bs.map D.bl) xs → xs = bs.map V.bl
  | [], xs, h => h
  | b :: bs, xs, h => by
    obtain ⟨y, ys, rfl, a, r⟩ := h
    rw [den_bl.mp a, dens_bls r]; rfl
noncomputable def bAll : List D → Option D
  | [.lst l] => (boolsOf l).map fun bs => .bl (bs.all id)
  | _ => none
theorem b_all : SRB K (rAll K) bAll := fun S H vs ds g Q s h x k => by
  unfold bAll at x
  split at x
  · rename_i l
    obtain ⟨v, rfl, d1⟩ := one_of h
    cases q : boolsOf l with
    | none => rw [q] at x; cases x
    | some bs =>
      rw [q] at x
      cases x
      obtain ⟨p, xs, rfl, h1, h2⟩ := d1.lst s
      have e := boolsOf_is q
      subst e
      have e := dens_bls h2
      subst e
      exact ⟨p, bs, rfl, .inl h1, k _ S H (Ext.refl s) (den_bl.mpr rfl)⟩
  · cases x
end
end M
namespace L2
open PySem
theorem bt_all : bootBuiltins "all" = some (.builtin "all") := by decide +kernel
end L2
namespace P
open PySem L2 M
noncomputable abbrev xNs : List Str := ["NoText"]
noncomputable abbrev ax_NoBack : List (Str × Bool) := [("NoText", false)]
noncomputable abbrev ax_NoForm : List (Str × Bool) := [("NoText", false)]
noncomputable abbrev ax_NoName : List (Str × Bool) := [("NoText", false)]
noncomputable abbrev ax_NoRow : List (Str × Bool) := [("NoText", false)]
noncomputable abbrev ax_NoText : List (Str × Bool) := [("NoText", true)]
noncomputable abbrev ax_TooGreat : List (Str × Bool) := [("NoText", false)]
noncomputable abbrev ax_TooMany : List (Str × Bool) := [("NoText", false)]
noncomputable abbrev ax_ValueError : List (Str × Bool) := [("NoText", true)]
noncomputable def X__law_no_number : XS := xSeq (xAsg (xCB bStrI (xCons (xCB bAbs (xCons (xVarP 1) (xNil))) (xNil))) (xgName 2)) (xSeq (xAsg (xL (xLst (xCons (xOp (dAdd) (xC (.str (Str.ofString "0"))) (xVarP 2)) (xCons (xOp (dAdd) (xC (.str (Str.ofString "+"))) (xVarP 2)) (xCons (xOp (dAdd) (xC (.str (Str.ofString " "))) (xVarP 2)) (xCons (xOp (dAdd) (xVarP 2) (xC (.str (Str.ofString " ")))) (xCons (xOp (dAdd) (xVarP 2) (xC (.str (Str.ofString "\n")))) (xCons (xOp (dAdd) (xC (.str (Str.ofString "\n"))) (xVarP 2)) (xCons (xOp (dAdd) (xVarP 2) (xC (.str (Str.ofString "a")))) (xNil)))))))))) (xgName 3)) (xSeq (xAsg (xOp (dAdd) (xVarP 3) (xL (xLst (xCons (xOp (dAdd) (xC (.str (Str.ofString "a"))) (xVarP 2)) (xCons (xOp (dAdd) (xC (.str (Str.ofString "--"))) (xVarP 2)) (xCons (xC (.str (Str.ofString "-0"))) (xCons (xOp (dAdd) (xC (.str (Str.ofString "-0"))) (xVarP 2)) (xCons (xC (.str (Str.ofString ""))) (xCons (xC (.str (Str.ofString "-"))) (xCons (xOp (dAdd) (xC (.str (Str.ofString "- "))) (xVarP 2)) (xCons (xOp (dAdd) (xVarP 2) (xC (.str (Str.ofString "-")))) (xNil)))))))))))) (xgName 3)) (xSeq (xAsg (xOp (dAdd) (xVarP 3) (xL (xLst (xCons (xOp (dAdd) (xVarP 2) (xC (.str (Str.ofString ".0")))) (xCons (xOp (dAdd) (xC (.str (Str.ofString "1"))) (xOp (dMulS) (xC (.str (Str.ofString "0"))) (xC (.int 60)))) (xCons (xOp (dAdd) (xC (.str (Str.ofString "-1"))) (xOp (dMulS) (xC (.str (Str.ofString "0"))) (xC (.int 60)))) (xCons (xOp (dAdd) (xVarP 2) (xC (.str (Str.ofString "_1")))) (xCons (xOp (dAdd) (xC (.str (Str.ofString "_"))) (xVarP 2)) (xCons (xC (.str (Str.ofString "00"))) (xCons (xOp (dAdd) (xVarP 2) (xC (.str (Str.ofString "e1")))) (xNil))))))))))) (xgName 3)) (xSeq (xAsg (xOp (dAdd) (xVarP 3) (xL (xLst (xCons (xOp (dAdd) (xVarP 2) (xC (.str (Str.ofString "..")))) (xCons (xOp (dAdd) (xC (.str (Str.ofString "1 "))) (xVarP 2)) (xCons (xC (.str (Str.ofString "0x1"))) (xCons (xC .non) (xCons (xC (.bl true)) (xCons (xVar 1) (xCons (xL (xLst (xCons (xVar 2) (xNil)))) (xCons (xTup (xCons (xVar 2) (xNil))) (xNil)))))))))))) (xgName 3)) (xRet (xOp dIx (xVarP 3) (xOp (dMod) (xVarP 0) (xC (.int 30)))))))))
noncomputable def mo__law_no_number : List D → Option O := fnO 4 X__law_no_number
noncomputable def m__law_no_number : List D → Option D := fun ds => (mo__law_no_number ds).map O.d
noncomputable def X__law_number : XS := xSeq (xIf (xB (xOp (dLt) (xVarP 0) (xC (.int 0)))) (xRet (xOp (dSub) (xC (.int 0)) (xOp (dMod) (xOp (dSub) (xC (.int 0)) (xVarP 0)) (xOp (dPow) (xC (.int 10)) (xC (.int 60)))))) (xNext)) (xRet (xOp (dMod) (xVarP 0) (xOp (dPow) (xC (.int 10)) (xC (.int 60)))))
noncomputable def mo__law_number : List D → Option O := fnO 1 X__law_number
noncomputable def m__law_number : List D → Option D := fun ds => (mo__law_number ds).map O.d
noncomputable def X_writes_whole : XS := xSeq (xAsg (xIfE (xTru (xOp dStarts (xVarP 0) (xC (.str (Str.ofString "-"))))) (xSlS (xVarP 0) (xPart (xC (.int 1))) (xNoPart)) (xVar 0)) (xgName 1)) (xSeq (xIf (xOr (xB (xOp (dEq false) (xVarP 1) (xC (.str (Str.ofString ""))))) (xB (xOp (dGt) (xCB bLen (xCons (xVarP 1) (xNil))) (xC (.int (60)))))) (xRet (xC (.bl false))) (xNext)) (xSeq (xIf (xNot (xTru (xCB bAll (xCons (xL (xComp [none] (xItS (xVar 1)) (xgName 0) (xYes) (xOp (dInS) (xVarP 0) (xC (.str (Str.ofString "0123456789")))))) (xNil))))) (xRet (xC (.bl false))) (xNext)) (xRet (xOp (dEq false) (xCB bStrI (xCons (xCB bIntS (xCons (xVarP 0) (xNil))) (xNil))) (xVarP 0)))))
noncomputable def mo_writes_whole : List D → Option O := fnO 2 X_writes_whole
noncomputable def m_writes_whole : List D → Option D := fun ds => (mo_writes_whole ds).map O.d
noncomputable def Y_read_whole : XR := xrStop (xrIf (xOr (xNot (xTru (xCB bIsi (xCons (xVarP 0) (xCons (xC (.ty "str")) xNil))))) (xNot (xTru (xCall m_writes_whole (xCons (xVar 0) (xNil)))))) (xrRaise "NoText") (xrNext))
noncomputable def rX_read_whole : List D → Option Str := fnX 1 Y_read_whole
noncomputable def X_read_whole : XS := xSeq (xIf (xOr (xNot (xTru (xCB bIsi (xCons (xVarP 0) (xCons (xC (.ty "str")) xNil))))) (xNot (xTru (xCall m_writes_whole (xCons (xVar 0) (xNil)))))) (xNever) (xNext)) (xRet (xCB bIntS (xCons (xVarP 0) (xNil))))
noncomputable def mo_read_whole : List D → Option O := fnO 1 X_read_whole
noncomputable def m_read_whole : List D → Option D := fun ds => (mo_read_whole ds).map O.d
noncomputable def X__law_refused : XS := xSeq (xAsg (xC .non) (xgName 1)) (xSeq (xTry xNs 2 (xrE (xeCall rX_read_whole (xCons (xVar 0) (xNil)))) [(1, [ax_ValueError, ax_NoText, ax_NoRow, ax_NoForm, ax_NoName, ax_NoBack, ax_TooGreat, ax_TooMany])]) (xRet (xOp (dEq false) (xVarP 1) (xL (xLst (xCons (xC (.bl true)) (xCons (xC (.bl true)) (xCons (xC (.bl false)) (xCons (xC (.bl false)) (xCons (xC (.bl false)) (xCons (xC (.bl false)) (xCons (xC (.bl false)) (xCons (xC (.bl false)) (xNil))))))))))))))
noncomputable def mo__law_refused : List D → Option O := fnO 3 X__law_refused
noncomputable def m__law_refused : List D → Option D := fun ds => (mo__law_refused ds).map O.d
noncomputable def X__law_right : XS := xSeq (xAsg (xCall m_read_whole (xCons (xCB bStrI (xCons (xVarP 0) (xNil))) (xNil))) (xgName 1)) (xRet (xAndV (xCB bIsi (xCons (xVarP 1) (xCons (xC (.ty "int")) xNil))) (xAndV (xNotV (xCB bIsi (xCons (xVarP 1) (xCons (xC (.ty "bool")) xNil)))) (xOp (dEq false) (xVarP 1) (xVarP 0)))))
noncomputable def mo__law_right : List D → Option O := fnO 2 X__law_right
noncomputable def m__law_right : List D → Option D := fun ds => (mo__law_right ds).map O.d
noncomputable def B_law_0 : XS := xSeq (xAsg (xCall m__law_number (xCons (xVar 1) (xNil))) (xgName 2)) (xSeq (xIf (xNot (xTru (xCall m__law_right (xCons (xVar 2) (xNil))))) (xRet (xC (.bl false))) (xNext)) (xSeq (xIf (xNot (xTru (xCall m__law_refused (xCons (xCall m__law_no_number (xCons (xOp (dDiv) (xOp (dMod) (xOp (dMul) (xVarP 1) (xC (.int 48271))) (xC (.int 2147483647))) (xC (.int 37))) (xCons (xVar 2) (xNil)))) (xNil))))) (xRet (xC (.bl false))) (xNext)) (xIf (xNot (xTru (xCall m__law_right (xCons (xVar 2) (xNil))))) (xRet (xC (.bl false))) (xNext))))
noncomputable def X_law : XS := xSeq (xFor (xIt (xSl (xVarP 0) (xNoPart) (xPart (xC (.int 98))))) (xgName 1) (B_law_0)) (xRet (xAndV (xCall m__law_right (xCons (xC (.int 0)) (xNil))) (xAndV (xCall m__law_right (xCons (xOp (dSub) (xOp (dPow) (xC (.int 10)) (xC (.int 60))) (xC (.int 1))) (xNil))) (xCall m__law_right (xCons (xOp (dSub) (xC (.int 1)) (xOp (dPow) (xC (.int 10)) (xC (.int 60)))) (xNil))))))
noncomputable def mo_law : List D → Option O := fnO 3 X_law
noncomputable def m_law : List D → Option D := fun ds => (mo_law ds).map O.d
noncomputable abbrev sp__law_no_number (K : PySem.W.Frag) : Sp := spOf K 2 mo__law_no_number
noncomputable def pk__law_no_number (K : PySem.W.Frag) : { t : TS // SS K t X__law_no_number } := ⟨_, s_seq (s_asg (s_cb b_strI (sp_cons ((s_cb b_abs (sp_cons (s_varP 1) (sp_nil))).p) (sp_nil))) (g_name 2)) (s_seq (s_asg ((s_lst (sa_cons (s_op r_add ((s_c rfl).p) (s_varP 2)) (sa_cons (s_op r_add ((s_c rfl).p) (s_varP 2)) (sa_cons (s_op r_add ((s_c rfl).p) (s_varP 2)) (sa_cons (s_op r_add (s_varP 2) ((s_c rfl).p)) (sa_cons (s_op r_add (s_varP 2) ((s_c rfl).p)) (sa_cons (s_op r_add ((s_c rfl).p) (s_varP 2)) (sa_cons (s_op r_add (s_varP 2) ((s_c rfl).p)) (sa_nil))))))))).e) (g_name 3)) (s_seq (s_asg (s_op r_add (s_varP 3) (((s_lst (sa_cons (s_op r_add ((s_c rfl).p) (s_varP 2)) (sa_cons (s_op r_add ((s_c rfl).p) (s_varP 2)) (sa_cons (s_c rfl) (sa_cons (s_op r_add ((s_c rfl).p) (s_varP 2)) (sa_cons (s_c rfl) (sa_cons (s_c rfl) (sa_cons (s_op r_add ((s_c rfl).p) (s_varP 2)) (sa_cons (s_op r_add (s_varP 2) ((s_c rfl).p)) (sa_nil)))))))))).e).p)) (g_name 3)) (s_seq (s_asg (s_op r_add (s_varP 3) (((s_lst (sa_cons (s_op r_add (s_varP 2) ((s_c rfl).p)) (sa_cons (s_op r_add ((s_c rfl).p) ((s_op r_mulS ((s_c rfl).p) ((s_c rfl).p)).p)) (sa_cons (s_op r_add ((s_c rfl).p) ((s_op r_mulS ((s_c rfl).p) ((s_c rfl).p)).p)) (sa_cons (s_op r_add (s_varP 2) ((s_c rfl).p)) (sa_cons (s_op r_add ((s_c rfl).p) (s_varP 2)) (sa_cons (s_c rfl) (sa_cons (s_op r_add (s_varP 2) ((s_c rfl).p)) (sa_nil))))))))).e).p)) (g_name 3)) (s_seq (s_asg (s_op r_add (s_varP 3) (((s_lst (sa_cons (s_op r_add (s_varP 2) ((s_c rfl).p)) (sa_cons (s_op r_add ((s_c rfl).p) (s_varP 2)) (sa_cons (s_c rfl) (sa_cons (s_c rfl) (sa_cons (s_c rfl) (sa_cons (s_var 1) (sa_cons ((s_lst (sa_cons (s_var 2) (sa_nil))).e) (sa_cons (s_tup (sa_cons (s_var 2) (sa_nil))) (sa_nil)))))))))).e).p)) (g_name 3)) (s_ret (s_op r_ix (s_varP 3) ((s_op r_mod (s_varP 0) ((s_c rfl).p)).p)))))))⟩
theorem rd__law_no_number {K : PySem.W.Frag} {vs : List V} {H : Hp} {Q : VK} {E : XK} (h : sp__law_no_number K vs H Q E) : (pk__law_no_number K).1 { nx := fun _ H' => Q .non H', rt := Q } (start ["_law_cell", "_law_number_here", "_law_figures", "_law_some"] vs) H := rd_of (pk__law_no_number K).2 rfl h
noncomputable abbrev sp__law_number (K : PySem.W.Frag) : Sp := spOf K 1 mo__law_number
noncomputable def pk__law_number (K : PySem.W.Frag) : { t : TS // SS K t X__law_number } := ⟨_, s_seq (s_if (s_test (SE.p (s_op r_lt (s_varP 0) ((s_c rfl).p)))) (s_ret (s_op r_sub ((s_c rfl).p) ((s_op r_mod ((s_op r_sub ((s_c rfl).p) (s_varP 0)).p) ((s_op r_pow ((s_c rfl).p) ((s_c rfl).p)).p)).p))) (s_next)) (s_ret (s_op r_mod (s_varP 0) ((s_op r_pow ((s_c rfl).p) ((s_c rfl).p)).p)))⟩
theorem rd__law_number {K : PySem.W.Frag} {vs : List V} {H : Hp} {Q : VK} {E : XK} (h : sp__law_number K vs H Q E) : (pk__law_number K).1 { nx := fun _ H' => Q .non H', rt := Q } (start ["_law_cell"] vs) H := rd_of (pk__law_number K).2 rfl h
noncomputable abbrev sp_writes_whole (K : PySem.W.Frag) : Sp := spOf K 1 mo_writes_whole
noncomputable def pk_writes_whole (K : PySem.W.Frag) : { t : TS // SS K t X_writes_whole } := ⟨_, s_seq (s_asg (s_ifE (s_truK ((s_starts (s_varP 0) ((s_c rfl).p)).p)) (s_slS (s_varP 0) (s_part ((s_c rfl).p)) (s_noPart)) (s_var 0)) (g_name 1)) (s_seq (s_if (s_or (s_test (SE.p (s_op (r_eq false) (s_varP 1) ((s_c rfl).p)))) (s_test (SE.p (s_op r_gt ((s_cb b_len (sp_cons (s_varP 1) (sp_nil))).p) ((s_c rfl).p))))) (s_ret (s_c rfl)) (s_next)) (s_seq (s_if (s_not (s_truK ((s_cb b_all (sp_cons (((s_comp (SI.p (i_str (s_var 1))) (g_name 0) (s_yes) (s_op r_inS (s_varP 0) ((s_c rfl).p))).e).p) (sp_nil))).p))) (s_ret (s_c rfl)) (s_next)) (s_ret (s_op (r_eq false) ((s_cb b_strI (sp_cons ((s_cb b_intS (sp_cons (s_varP 0) (sp_nil))).p) (sp_nil))).p) (s_varP 0)))))⟩
theorem rd_writes_whole {K : PySem.W.Frag} {vs : List V} {H : Hp} {Q : VK} {E : XK} (h : sp_writes_whole K vs H Q E) : (pk_writes_whole K).1 { nx := fun _ H' => Q .non H', rt := Q } (start ["text", "figures"] vs) H := rd_of (pk_writes_whole K).2 rfl h
noncomputable abbrev spX_read_whole (K : PySem.W.Frag) : Sp := spX K 1 rX_read_whole
noncomputable def pkX_read_whole (K : PySem.W.Frag) (E : XK) : { t : TS // SX K E t Y_read_whole } := ⟨_, sx_stop (sx_if (s_or (s_not (s_truK ((s_cb b_isi (sp_cons (s_varP 0) (sp_cons (SE.p (s_c rfl)) sp_nil))).p))) (s_not (s_truK ((s_call (E := E0) (sa_cons (s_var 0) (sa_nil)) (len_cons (fun _ _ h => len_nil h))).p)))) (sx_raise (v := (.str (Str.ofString "a whole number is written in one to sixty figures, perhaps with a - ahead")))) (sx_next))⟩
theorem rdX_read_whole {K : PySem.W.Frag} {vs : List V} {H : Hp} {Q : VK} {E : XK} (h : spX_read_whole K vs H Q E) : (pkX_read_whole K E).1 { nx := fun _ H' => Q .non H', rt := Q } (start ["text"] vs) H := rdX_of (pkX_read_whole K E).2 rfl h
noncomputable abbrev sp_read_whole (K : PySem.W.Frag) : Sp := spOf K 1 mo_read_whole
noncomputable def pk_read_whole (K : PySem.W.Frag) : { t : TS // SS K t X_read_whole } := ⟨_, s_seq (s_if (s_or (s_not (s_truK ((s_cb b_isi (sp_cons (s_varP 0) (sp_cons (SE.p (s_c rfl)) sp_nil))).p))) (s_not (s_truK ((s_call (E := E0) (sa_cons (s_var 0) (sa_nil)) (len_cons (fun _ _ h => len_nil h))).p)))) (s_never (t := tNever)) (s_next)) (s_ret (s_cb b_intS (sp_cons (s_varP 0) (sp_nil))))⟩
theorem rd_read_whole {K : PySem.W.Frag} {vs : List V} {H : Hp} {Q : VK} {E : XK} (h : sp_read_whole K vs H Q E) : (pk_read_whole K).1 { nx := fun _ H' => Q .non H', rt := Q } (start ["text"] vs) H := rd_of (pk_read_whole K).2 rfl h
noncomputable abbrev sp__law_refused (K : PySem.W.Frag) : Sp := spOf K 1 mo__law_refused
noncomputable def pk__law_refused (K : PySem.W.Frag) : { t : TS // SS K t X__law_refused } := ⟨_, s_seq (s_asg (s_c rfl) (g_name 1)) (s_seq (s_try (L := xNs) (i := 2) (l := [(1, [ax_ValueError, ax_NoText, ax_NoRow, ax_NoForm, ax_NoName, ax_NoBack, ax_TooGreat, ax_TooMany])]) (fun E => sx_drop (sxe_call (sa_cons (s_var 0) (sa_nil)) (len_cons (fun _ _ h => len_nil h))))) (s_ret (s_op (r_eq false) (s_varP 1) (((s_lst (sa_cons (s_c rfl) (sa_cons (s_c rfl) (sa_cons (s_c rfl) (sa_cons (s_c rfl) (sa_cons (s_c rfl) (sa_cons (s_c rfl) (sa_cons (s_c rfl) (sa_cons (s_c rfl) (sa_nil)))))))))).e).p))))⟩
theorem rd__law_refused {K : PySem.W.Frag} {vs : List V} {H : Hp} {Q : VK} {E : XK} (h : sp__law_refused K vs H Q E) : (pk__law_refused K).1 { nx := fun _ H' => Q .non H', rt := Q } (start ["_law_thing", "_law_caught", "e"] vs) H := rd_of (pk__law_refused K).2 rfl h
noncomputable abbrev sp__law_right (K : PySem.W.Frag) : Sp := spOf K 1 mo__law_right
noncomputable def pk__law_right (K : PySem.W.Frag) : { t : TS // SS K t X__law_right } := ⟨_, s_seq (s_asg (s_call (E := E0) (sa_cons (s_cb b_strI (sp_cons (s_varP 0) (sp_nil))) (sa_nil)) (len_cons (fun _ _ h => len_nil h))) (g_name 1)) (s_ret (s_andV ((s_cb b_isi (sp_cons (s_varP 1) (sp_cons (SE.p (s_c rfl)) sp_nil))).p) (s_andV ((s_notV ((s_cb b_isi (sp_cons (s_varP 1) (sp_cons (SE.p (s_c rfl)) sp_nil))).p)).p) (s_op (r_eq false) (s_varP 1) (s_varP 0)))))⟩
theorem rd__law_right {K : PySem.W.Frag} {vs : List V} {H : Hp} {Q : VK} {E : XK} (h : sp__law_right K vs H Q E) : (pk__law_right K).1 { nx := fun _ H' => Q .non H', rt := Q } (start ["_law_number_here", "_law_found"] vs) H := rd_of (pk__law_right K).2 rfl h
noncomputable abbrev sp_law (K : PySem.W.Frag) : Sp := spOf K 1 mo_law
noncomputable def pk_law (K : PySem.W.Frag) : { t : TS // SS K t X_law } := ⟨_, s_seq (s_for (i_seq (s_sl (s_varP 0) (s_noPart) (s_part ((s_c rfl).p)))) (g_name 1) (s_seq (s_asg (s_call (E := E0) (sa_cons (s_var 1) (sa_nil)) (len_cons (fun _ _ h => len_nil h))) (g_name 2)) (s_seq (s_if (s_not (s_truK ((s_call (E := E0) (sa_cons (s_var 2) (sa_nil)) (len_cons (fun _ _ h => len_nil h))).p))) (s_ret (s_c rfl)) (s_next)) (s_seq (s_if (s_not (s_truK ((s_call (E := E0) (sa_cons (s_call (E := E0) (sa_cons (s_op r_div ((s_op r_mod ((s_op r_mul (s_varP 1) ((s_c rfl).p)).p) ((s_c rfl).p)).p) ((s_c rfl).p)) (sa_cons (s_var 2) (sa_nil))) (len_cons (len_cons (fun _ _ h => len_nil h)))) (sa_nil)) (len_cons (fun _ _ h => len_nil h))).p))) (s_ret (s_c rfl)) (s_next)) (s_if (s_not (s_truK ((s_call (E := E0) (sa_cons (s_var 2) (sa_nil)) (len_cons (fun _ _ h => len_nil h))).p))) (s_ret (s_c rfl)) (s_next)))))) (s_ret (s_andV ((s_call (E := E0) (sa_cons (s_c rfl) (sa_nil)) (len_cons (fun _ _ h => len_nil h))).p) (s_andV ((s_call (E := E0) (sa_cons (s_op r_sub ((s_op r_pow ((s_c rfl).p) ((s_c rfl).p)).p) ((s_c rfl).p)) (sa_nil)) (len_cons (fun _ _ h => len_nil h))).p) (s_call (E := E0) (sa_cons (s_op r_sub ((s_c rfl).p) ((s_op r_pow ((s_c rfl).p) ((s_c rfl).p)).p)) (sa_nil)) (len_cons (fun _ _ h => len_nil h))))))⟩
theorem rd_law {K : PySem.W.Frag} {vs : List V} {H : Hp} {Q : VK} {E : XK} (h : sp_law K vs H Q E) : (pk_law K).1 { nx := fun _ H' => Q .non H', rt := Q } (start ["_law_script", "_law_cell", "_law_number_here"] vs) H := rd_of (pk_law K).2 rfl h
end P
namespace P
open PySem L2 M PySem.NumText
noncomputable abbrev T9 (l : List Nat) : Str := ⟨l.toArray⟩
theorem t9_len (l : List Nat) : (T9 l).length = l.length := rfl
theorem t9_list (l : List Nat) : (T9 l).cps.toList = l := rfl
theorem t9_eta {x : Str} {l : List Nat} (h : x.cps.toList = l) : x = T9 l := by cases x; subst h; rfl
theorem t9_inj {a b : List Nat} (h : T9 a = T9 b) : a = b := by
  have := congrArg (fun x : Str => x.cps.toList) h
  exact this
theorem t9_app (a b : List Nat) : T9 a ++ T9 b = T9 (a ++ b) := t9_eta (by
  show (a.toArray ++ b.toArray).toList = a ++ b
  simp)
theorem okS {l : List Nat} (h : ∀ c ∈ l, c < 1114112) : PyData.strOk (T9 l) = true := by
  unfold PyData.strOk
  rw [Array.all_eq_true']
  intro c hc
  exact decide_eq_true (h c (by simpa using hc))
theorem lim_of {n : Nat} (h : n ≤ 100000) : n ≤ LIM := Nat.le_trans h (by rw [lim_is]; decide)
theorem run_seq {m n : XS} {ρ ρ' : M.Env} (h : m ρ = some (.nx ρ')) : xSeq m n ρ = n ρ' := by unfold xSeq; rw [h]
theorem run_rt {m n : XS} {ρ : M.Env} {d : D} (h : m ρ = some (.rt d)) : xSeq m n ρ = some (.rt d) := by unfold xSeq; rw [h]
theorem fn_rt {n : Nat} {x : XS} {ds : List D} {d : D} (h : x (ds.map .sh ++ List.replicate (n - ds.length) .un) = some (.rt d)) : (fnO n x ds).map O.d = some d := by unfold fnO; rw [h]; simp
theorem dEq_str {a b : Str} (ha : PyData.strOk a = true) (hb : PyData.strOk b = true) : dEq false (.str a) (.str b) = some (.bl (decide (a = b))) := by
  unfold dEq
  rw [if_pos ⟨by simp [okD, ha], by simp [okD, hb]⟩]
  simp only [eqD]
  by_cases h : a = b <;> simp [h]
noncomputable def numL (m : Nat) : List Nat := (Nat.toDigits 10 m).map Char.toNat
theorem str_nat (m : Nat) : Str.ofString (toString (m : Int)) = T9 (numL m) := t9_eta (PySem.W.KIN.signs_num m)
theorem str_neg (m : Nat) (h : 0 < m) : Str.ofString (toString (-(m : Int))) = T9 (45 :: numL m) := by
  obtain ⟨k, rfl⟩ : ∃ k, m = k + 1 := ⟨m - 1, by omega⟩
  refine t9_eta ?_
  rw [PyProof.Rows.signs_ofString]
  show (("-" ++ Nat.repr (k + 1)) : String).toList.map Char.toNat = _
  rw [String.toList_append, Nat.toList_repr]
  rfl
theorem num_digits (m : Nat) : AllDigits (numL m) := by
  intro c hc
  obtain ⟨ch, hch, e⟩ := List.mem_map.mp hc
  have r := PyProof.Rows.digit_range (Nat.isDigit_of_mem_toDigits (by decide) (by decide) hch)
  rw [← e]
  exact r
theorem num_ne (m : Nat) : numL m ≠ [] := by
  intro e
  have h := PySem.toDigits_len_ge 10 m
  rw [List.map_eq_nil_iff.mp e] at h
  exact absurd h (by decide)
theorem num_len {m : Nat} (h : m < 10 ^ 60) : (numL m).length ≤ 60 := by
  unfold numL
  rw [List.length_map]
  exact PySem.toDigits_len_pow (by decide) (by decide) h
theorem num_val (m : Nat) : digitsVal (numL m) = m := PySem.W.KIN.val_back m
theorem val_lt : ∀ (n : Nat) (l : List Nat), l.length = n → AllDigits l → digitsVal l < 10 ^ n
  | 0, l, h, _ => by
    have : l = [] := List.length_eq_zero_iff.mp h
    subst this
    decide
  | n + 1, l, h, hd => by
    have hne : l ≠ [] := by intro e; rw [e] at h; simp at h
    have e := List.dropLast_concat_getLast hne
    generalize l.dropLast = ini at e
    generalize l.getLast hne = c at e
    subst e
    have hc : 48 ≤ c ∧ c ≤ 57 := hd c (List.mem_append_right _ (List.mem_singleton.mpr rfl))
    have hli : ini.length = n := by rw [List.length_append, List.length_singleton] at h; omega
    have ih := val_lt n ini hli fun d hd' => hd d (List.mem_append_left _ hd')
    rw [digitsVal_snoc, Nat.pow_succ]
    omega
theorem log_lt {v : Nat} (h : v < 10 ^ 60) : v.log2 < 1920 := by
  by_cases h0 : v = 0
  · subst h0; decide
  · have : v < 2 ^ 1920 := Nat.lt_of_lt_of_le h (Nat.le_trans (show 10 ^ 60 ≤ 2 ^ 200 by decide) (Nat.pow_le_pow_right (by decide) (by decide)))
    exact (Nat.log2_lt h0).mpr this
noncomputable def fig (c : Nat) : Bool := decide (48 ≤ c ∧ c ≤ 57)
theorem inFig (c : Nat) : dInS (.str (T9 [c])) (.str (Str.ofString "0123456789")) = some (.bl (fig c)) := by
  show some (D.bl _) = _
  have e : (Str.ofString "0123456789").cps.toList = [48, 49, 50, 51, 52, 53, 54, 55, 56, 57] := by rw [PyProof.Rows.signs_ofString]; decide
  have k : (!(Builtin.Str.occurrences (Str.ofString "0123456789") (T9 [c]) 0 (Str.ofString "0123456789").length 1).isEmpty) = fig c := by
    unfold fig
    rw [Bool.eq_iff_iff, StrLaws.found_iff, decide_eq_true_eq]
    constructor
    · rintro ⟨i, h⟩
      have h := (StrLaws.subAt_one _ c i).mp h
      rw [e] at h
      have := List.mem_of_getElem? h
      simp at this
      omega
    · intro h
      refine ⟨c - 48, (StrLaws.subAt_one _ c (c - 48)).mpr ?_⟩
      rw [e]
      obtain ⟨k, rfl⟩ : ∃ k, c = 48 + k := ⟨c - 48, by omega⟩
      have hk : k ≤ 9 := by omega
      rw [Nat.add_sub_cancel_left]
      match k, hk with
      | 0, _ | 1, _ | 2, _ | 3, _ | 4, _ | 5, _ | 6, _ | 7, _ | 8, _ | 9, _ => rfl
  rw [k]
theorem signs_t9 (l : List Nat) : signsD (T9 l) = l.map fun c => D.str (T9 [c]) := rfl
theorem bls_of (bs : List Bool) : boolsOf (bs.map D.bl) = some bs := by
  induction bs with
  | nil => rfl
  | cons b bs ih =>
    show (boolsOf (bs.map D.bl)).map (fun r => b :: r) = _
    rw [ih]
    rfl
theorem all_is (l : List Nat) (hl : l.length ≤ 1000) (ρ : M.Env) (h : ρ[1]? = some (.sh (.str (T9 l)))) : xCB bAll (xCons (xL (xComp [none] (xItS (xVar 1)) (xgName 0) (xYes) (xOp (dInS) (xVarP 0) (xC (.str (Str.ofString "0123456789")))))) (xNil)) ρ = some (.bl (l.all fig)) := by
  have k := compF_map (g := xgName 0) (e := xOp (dInS) (xVarP 0) (xC (.str (Str.ofString "0123456789")))) (ρ0 := [.un]) (fun c : Nat => D.str (T9 [c])) (fun c => D.bl (fig c)) l (fun c _ => by
    have := inFig c
    simp [oneF, this])
  have lm := lim_of (n := l.length) (by omega)
  have hb : bAll [.lst (l.map fun c => D.bl (fig c))] = some (.bl (l.all fig)) := by
    show (boolsOf _).map _ = _
    have e : (l.map fun c => D.bl (fig c)) = (l.map fig).map D.bl := by rw [List.map_map]; rfl
    rw [e, bls_of]
    show some (D.bl _) = _
    rw [List.all_map]
    rfl
  simp [h, signs_t9, sgD, k, lm, hb]
end P
namespace P
open PySem L2 M PySem.NumText
noncomputable def figs : List Nat → List Nat
  | 45 :: r => r
  | l => l
theorem figs_neg (r : List Nat) : figs (45 :: r) = r := rfl
theorem figs_pos {l : List Nat} (h : ∀ r, l ≠ 45 :: r) : figs l = l := by
  unfold figs
  split
  · exact absurd rfl (h _)
  · rfl
theorem figs_le (l : List Nat) : (figs l).length ≤ l.length := by
  unfold figs
  split
  · exact Nat.le_succ _
  · exact Nat.le_refl _
theorem figs_mem {l : List Nat} {c : Nat} (h : c ∈ figs l) : c ∈ l := by
  unfold figs at h
  split at h
  · exact List.mem_cons_of_mem _ h
  · exact h
theorem starts_neg (r : List Nat) : dStarts (.str (T9 (45 :: r))) (.str (Str.ofString "-")) = some (.bl true) := by
  have e : Str.ofString "-" = T9 [45] := t9_eta (by rw [PyProof.Rows.signs_ofString]; decide)
  rw [e]
  show some (D.bl _) = _
  have h := (StrLaws.subAt_one (T9 (45 :: r)) 45 0).mpr rfl
  have h2 : Builtin.Str.subAt (T9 (45 :: r)) (T9 [45]) 0 = true := h.2
  have h1 : decide ((T9 [45]).length ≤ (T9 (45 :: r)).length) = true := decide_eq_true (by have := h.1; rwa [Nat.zero_add] at this)
  rw [h1, h2]
  rfl
theorem starts_pos {l : List Nat} (h : ∀ r, l ≠ 45 :: r) : dStarts (.str (T9 l)) (.str (Str.ofString "-")) = some (.bl false) := by
  have e : Str.ofString "-" = T9 [45] := t9_eta (by rw [PyProof.Rows.signs_ofString]; decide)
  rw [e]
  show some (D.bl _) = _
  have k : (decide ((T9 [45]).length ≤ (T9 l).length) && Builtin.Str.subAt (T9 l) (T9 [45]) 0) = false := by
    rw [Bool.eq_false_iff]
    intro z
    rw [Bool.and_eq_true] at z
    have h2 := (StrLaws.subAt_one (T9 l) 45 0).mp ⟨by have := of_decide_eq_true z.1; rw [Nat.zero_add]; exact this, z.2⟩
    have h2 : l[0]? = some 45 := h2
    cases l with
    | nil => cases h2
    | cons c r =>
      cases h2
      exact h r rfl
  rw [k]
theorem slice1 (c : Nat) (r : List Nat) : Txt.slice (T9 (c :: r)) (some 1) none = T9 r := by
  have h := PyProof.Rows.slice_from_eq (x := T9 (c :: r)) (i := 1) (b := ((c :: r).length : Int)) (by decide) (by rw [t9_len, List.length_cons]; omega) rfl
  rw [h]
  refine t9_eta ?_
  show (List.take _ (List.drop 1 (c :: r))) = r
  rw [List.drop_one, List.tail_cons]
  exact List.take_of_length_le (by rw [List.length_cons]; omega)
theorem fig_step (l : List Nat) (hl : l.length ≤ 1000) : xIfE (xTru (xOp dStarts (xVarP 0) (xC (.str (Str.ofString "-"))))) (xSlS (xVarP 0) (xPart (xC (.int 1))) (xNoPart)) (xVar 0) [.sh (.str (T9 l)), .un] = some (.str (T9 (figs l))) := by
  have lm := lim_of (n := l.length) (by omega)
  by_cases h : ∃ r, l = 45 :: r
  · obtain ⟨r, rfl⟩ := h
    have a := starts_neg r
    have b := slice1 45 r
    have lm' : (T9 (45 :: r)).length ≤ LIM := lm
    have c : dSlS (.str (T9 (45 :: r))) (some 1) none = some (.str (T9 r)) := by
      show (if (T9 (45 :: r)).length ≤ LIM then _ else none) = _
      rw [if_pos lm', b]
    simp [a, c, figs_neg]
  · have h' : ∀ r, l ≠ 45 :: r := fun r e => h ⟨r, e⟩
    have a := starts_pos h'
    rw [figs_pos h']
    simp [a]
theorem okE : PyData.strOk (Str.ofString "") = true := by
  have e : Str.ofString "" = T9 [] := t9_eta (by rw [PyProof.Rows.signs_ofString]; decide)
  rw [e]
  exact okS fun c h => by cases h
theorem emptyS : Str.ofString "" = T9 [] := t9_eta (by rw [PyProof.Rows.signs_ofString]; decide)
theorem ww_len (l : List Nat) (hl : l.length ≤ 1000) (ho : ∀ c ∈ l, c < 1114112) (h : figs l = [] ∨ 60 < (figs l).length) : m_writes_whole [.str (T9 l)] = some (.bl false) := by
  have s1 := fig_step l hl
  have e1 : dEq false (.str (T9 (figs l))) (.str (Str.ofString "")) = some (.bl (decide (figs l = []))) := by
    rw [dEq_str (okS fun c hc => ho c (figs_mem hc)) okE, emptyS]
    congr 2
    exact decide_eq_decide.mpr ⟨fun z => t9_inj z, fun z => by rw [z]⟩
  have lm := lim_of (n := (figs l).length) (by have := figs_le l; omega)
  have e2 : bLen [.str (T9 (figs l))] = some (.int ((figs l).length : Nat)) := by
    show (if (T9 (figs l)).length ≤ LIM then some (D.int ((T9 (figs l)).length : Nat)) else none) = _
    rw [t9_len, if_pos lm]
  refine fn_rt (n := 2) (ds := [.str (T9 l)]) ?_
  show X_writes_whole [.sh (.str (T9 l)), .un] = _
  unfold X_writes_whole
  refine (run_seq (ρ' := [.sh (.str (T9 l)), .sh (.str (T9 (figs l)))]) (by unfold xAsg; rw [s1]; rfl)).trans ?_
  refine run_rt ?_
  by_cases h0 : figs l = []
  · have e1' : dEq false (.str (T9 (figs l))) (.str (Str.ofString "")) = some (.bl true) := by rw [e1, decide_eq_true h0]
    simp [e1']
  · have h1 : 60 < (figs l).length := h.resolve_left h0
    have e1' : dEq false (.str (T9 (figs l))) (.str (Str.ofString "")) = some (.bl false) := by rw [e1, decide_eq_false h0]
    have g : (60 : Int) < ((figs l).length : Nat) := by omega
    simp [e1', e2, g]
theorem ww_mid (l : List Nat) (hl : l.length ≤ 1000) (ho : ∀ c ∈ l, c < 1114112) (h0 : figs l ≠ []) (h1 : (figs l).length ≤ 60) : X_writes_whole [.sh (.str (T9 l)), .un] =
    xSeq (xIf (xNot (xTru (xCB bAll (xCons (xL (xComp [none] (xItS (xVar 1)) (xgName 0) (xYes) (xOp (dInS) (xVarP 0) (xC (.str (Str.ofString "0123456789")))))) (xNil))))) (xRet (xC (.bl false))) (xNext)) (xRet (xOp (dEq false) (xCB bStrI (xCons (xCB bIntS (xCons (xVarP 0) (xNil))) (xNil))) (xVarP 0))) [.sh (.str (T9 l)), .sh (.str (T9 (figs l)))] := by
  have s1 := fig_step l hl
  have e1 : dEq false (.str (T9 (figs l))) (.str (Str.ofString "")) = some (.bl false) := by
    rw [dEq_str (okS fun c hc => ho c (figs_mem hc)) okE, emptyS, decide_eq_false fun z => h0 (t9_inj z)]
  have lm := lim_of (n := (figs l).length) (by omega)
  have e2 : bLen [.str (T9 (figs l))] = some (.int ((figs l).length : Nat)) := by
    show (if (T9 (figs l)).length ≤ LIM then some (D.int ((T9 (figs l)).length : Nat)) else none) = _
    rw [t9_len, if_pos lm]
  have g : ¬ (60 : Int) < ((figs l).length : Nat) := by omega
  unfold X_writes_whole
  refine (run_seq (ρ' := [.sh (.str (T9 l)), .sh (.str (T9 (figs l)))]) (by unfold xAsg; rw [s1]; rfl)).trans ?_
  exact run_seq (ρ' := [.sh (.str (T9 l)), .sh (.str (T9 (figs l)))]) (by simp [e1, e2, g])
theorem ww_bad (l : List Nat) (hl : l.length ≤ 1000) (ho : ∀ c ∈ l, c < 1114112) (h : ∃ c ∈ figs l, fig c = false) : m_writes_whole [.str (T9 l)] = some (.bl false) := by
  obtain ⟨c, hc, hf⟩ := h
  have h0 : figs l ≠ [] := fun z => by rw [z] at hc; cases hc
  by_cases h1 : 60 < (figs l).length
  · exact ww_len l hl ho (.inr h1)
  · refine fn_rt (n := 2) (ds := [.str (T9 l)]) ?_
    refine (ww_mid l hl ho h0 (by omega)).trans (run_rt ?_)
    have ha := all_is (figs l) (by omega) [.sh (.str (T9 l)), .sh (.str (T9 (figs l)))] rfl
    have hb : (figs l).all fig = false := by
      rw [List.all_eq_false]
      exact ⟨c, hc, by rw [hf]; decide⟩
    rw [hb] at ha
    unfold xIf xNot xTru
    rw [ha]
    rfl
theorem ww_dig (l : List Nat) (hl : l.length ≤ 61) (ho : ∀ c ∈ l, c < 1114112) (h0 : figs l ≠ []) (h1 : (figs l).length ≤ 60) (hd : AllDigits (figs l)) {v : Int} (hv : PySem.intText? (T9 l) = some v) (hg : v.natAbs.log2 < 1920) {t : List Nat}
    (ht : Str.ofString (toString v) = T9 t) (hto : ∀ c ∈ t, c < 1114112) : m_writes_whole [.str (T9 l)] = some (.bl (decide (t = l))) := by
  refine fn_rt (n := 2) (ds := [.str (T9 l)]) ?_
  refine (ww_mid l (by omega) ho h0 h1).trans ?_
  have ha := all_is (figs l) (by omega) [.sh (.str (T9 l)), .sh (.str (T9 (figs l)))] rfl
  have hb : (figs l).all fig = true := by
    rw [List.all_eq_true]
    exact fun c hc => decide_eq_true (hd c hc)
  rw [hb] at ha
  refine (run_seq (ρ' := [.sh (.str (T9 l)), .sh (.str (T9 (figs l)))]) (by unfold xIf xNot xTru; rw [ha]; rfl)).trans ?_
  have i1 : bIntS [.str (T9 l)] = some (.int v) := by
    show (if (T9 l).length ≤ 640 then (PySem.intText? (T9 l)).map D.int else none) = _
    rw [t9_len, if_pos (by omega), hv]
    rfl
  have i2 : bStrI [.int v] = some (.str (T9 t)) := by
    show (if v.natAbs.log2 < 1920 then some (D.str (Str.ofString (toString v))) else none) = _
    rw [if_pos hg, ht]
  have i3 : dEq false (.str (T9 t)) (.str (T9 l)) = some (.bl (decide (t = l))) := by
    rw [dEq_str (okS hto) (okS ho)]
    congr 2
    exact decide_eq_decide.mpr ⟨fun z => t9_inj z, fun z => by rw [z]⟩
  simp [i1, i2, i3]
end P
namespace P
open PySem L2 M PySem.NumText
theorem dig_small {l : List Nat} (h : AllDigits l) : ∀ c ∈ l, c < 1114112 := fun c hc => by have := h c hc; omega
theorem dig_neg {l : List Nat} (h : AllDigits l) : ∀ r, l ≠ 45 :: r := fun r e => by
  have := h 45 (by rw [e]; exact List.mem_cons_self)
  omega
theorem num_text (n : Int) (h : n.natAbs < 10 ^ 60) : ∃ l, Str.ofString (toString n) = T9 l ∧ l.length ≤ 61 ∧ m_writes_whole [.str (T9 l)] = some (.bl true) ∧ PySem.intText? (T9 l) = some n := by
  by_cases h0 : 0 ≤ n
  · obtain ⟨m, rfl⟩ := Int.eq_ofNat_of_zero_le h0
    have hm : m < 10 ^ 60 := h
    have d := num_digits m
    have f := figs_pos (dig_neg d)
    have ln := num_len hm
    have it : PySem.intText? (T9 (numL m)) = some (m : Int) := by
      have := intText_digits (x := T9 (numL m)) d (num_ne m) (by rw [t9_len]; omega)
      rw [t9_list, num_val] at this
      exact this
    refine ⟨numL m, str_nat m, by omega, ?_, it⟩
    have := ww_dig (numL m) (by omega) (dig_small d) (by rw [f]; exact num_ne m) (by rw [f]; exact ln) (by rw [f]; exact d) it (log_lt hm) (str_nat m) (dig_small d)
    rw [this, decide_eq_true rfl]
  · obtain ⟨m, rfl⟩ : ∃ m : Nat, n = -(m : Int) := ⟨n.natAbs, by omega⟩
    have hm : m < 10 ^ 60 := by rw [Int.natAbs_neg] at h; exact h
    have hp : 0 < m := by omega
    have d := num_digits m
    have ln := num_len hm
    have sm : ∀ c ∈ 45 :: numL m, c < 1114112 := fun c hc => by
      rcases List.mem_cons.mp hc with rfl | hc
      · decide
      · exact dig_small d c hc
    have it : PySem.intText? (T9 (45 :: numL m)) = some (-(m : Int)) := by
      have := intText_neg (x := T9 (45 :: numL m)) (t9_list _) d (num_ne m) (by rw [t9_len, List.length_cons]; omega)
      rw [num_val] at this
      exact this
    refine ⟨45 :: numL m, str_neg m hp, by rw [List.length_cons]; omega, ?_, it⟩
    have := ww_dig (45 :: numL m) (by rw [List.length_cons]; omega) sm (num_ne m) ln d it (by rw [Int.natAbs_neg]; exact log_lt hm) (str_neg m hp) sm
    rw [this, decide_eq_true rfl]
theorem isi_str (x : Str) : bIsi [.str x, .ty "str"] = some (.bl true) := by simp [bIsi, isiM, tyD, subM]
theorem read_ok {l : List Nat} {n : Int} (hl : l.length ≤ 61) (hw : m_writes_whole [.str (T9 l)] = some (.bl true)) (hi : PySem.intText? (T9 l) = some n) : m_read_whole [.str (T9 l)] = some (.int n) := by
  have i1 : bIntS [.str (T9 l)] = some (.int n) := by
    show (if (T9 l).length ≤ 640 then (PySem.intText? (T9 l)).map D.int else none) = _
    rw [t9_len, if_pos (by omega), hi]
    rfl
  simp [m_read_whole, mo_read_whole, fnO, X_read_whole, isi_str, hw, i1]
theorem dEq_int (n : Int) : dEq false (.int n) (.int n) = some (.bl true) := by
  unfold dEq
  rw [if_pos ⟨by simp [okD], by simp [okD]⟩]
  simp [eqD]
theorem right_ok (n : Int) (h : n.natAbs < 10 ^ 60) : m__law_right [.int n] = some (.bl true) := by
  obtain ⟨l, e1, e2, e3, e4⟩ := num_text n h
  have r := read_ok e2 e3 e4
  have s : bStrI [.int n] = some (.str (T9 l)) := by
    show (if n.natAbs.log2 < 1920 then some (D.str (Str.ofString (toString n))) else none) = _
    rw [if_pos (log_lt h), e1]
  have b1 : bIsi [.int n, .ty "int"] = some (.bl true) := by simp [bIsi, isiM, tyD, subM]
  have b2 : bIsi [.int n, .ty "bool"] = some (.bl false) := by simp [bIsi, isiM, tyD, subM]
  have q := dEq_int n
  simp [m__law_right, mo__law_right, fnO, X__law_right, s, r, b1, b2, q]
theorem rx_text {l : List Nat} (hw : m_writes_whole [.str (T9 l)] = some (.bl false)) : rX_read_whole [.str (T9 l)] = some (("NoText" : Str)) := by
  simp [rX_read_whole, fnX, Y_read_whole, isi_str, hw]
theorem rx_other {d : D} (h : bIsi [d, .ty "str"] = some (.bl false)) : rX_read_whole [d] = some (("NoText" : Str)) := by
  simp [rX_read_whole, fnX, Y_read_whole, h]
theorem eqDs_bls : ∀ (a b : List Bool), eqDs (a.map D.bl) (b.map D.bl) = decide (a = b)
  | [], [] => by simp [eqDs]
  | [], _ :: _ => by simp [eqDs]
  | _ :: _, [] => by simp [eqDs]
  | x :: a, y :: b => by
    rw [List.map_cons, List.map_cons, eqDs, eqDs_bls a b]
    cases x <;> cases y <;> simp [eqD]
theorem okDs_bls : ∀ (n : Nat) (a : List Bool), okDs n (a.map D.bl) = true
  | n, [] => by simp [okDs]
  | n, b :: a => by rw [List.map_cons, okDs, okDs_bls n a]; simp [okD]
theorem dEq_bls (a b : List Bool) : dEq false (.lst (a.map D.bl)) (.lst (b.map D.bl)) = some (.bl (decide (a = b))) := by
  unfold dEq
  rw [if_pos ⟨by rw [okD]; exact okDs_bls _ a, by rw [okD]; exact okDs_bls _ b⟩]
  simp only [eqD, eqDs_bls]
  rfl
noncomputable abbrev ansB : List Bool := [true, true, false, false, false, false, false, false]
theorem looks1 (l : List (List (Str × Bool))) (bs : List Bool) (h : lookN "NoText" l = some bs) (hb : bs.length ≤ 1000) (ρ : M.Env) (r : List (Nat × List (List (Str × Bool)))) : hSets 2 "NoText" ((1, l) :: r) ρ = hSets 2 "NoText" r (ρ.set 1 (.sh (.lst (bs.map .bl)))) := by
  rw [hSets, if_neg (show ¬ (1 : Nat) = 2 by decide), h]
  show (if bs.length ≤ 1000 then _ else none) = _
  rw [if_pos hb]
theorem refused_ok (d : D) (h : rX_read_whole [d] = some (("NoText" : Str))) : m__law_refused [d] = some (.bl true) := by
  have l1 : lookN "NoText" [ax_ValueError, ax_NoText, ax_NoRow, ax_NoForm, ax_NoName, ax_NoBack, ax_TooGreat, ax_TooMany] = some ansB := by first | rfl | decide +kernel
  have d1 := dEq_bls ansB ansB
  have hc : xNs.contains "NoText" = true := by first | rfl | decide +kernel
  have ht : xTry xNs 2 (xrE (xeCall rX_read_whole (xCons (xVar 0) xNil))) [(1, [ax_ValueError, ax_NoText, ax_NoRow, ax_NoForm, ax_NoName, ax_NoBack, ax_TooGreat, ax_TooMany])] [.sh d, .sh .non, .un] = some (.nx [.un, .sh (.lst (ansB.map .bl)), .un]) := by
    have hm : xrE (xeCall rX_read_whole (xCons (xVar 0) xNil)) [.sh d, .sh .non, .un] = some (.rz "NoText") := by
      simp [h]
    unfold xTry
    rw [if_pos (by simp), hm]
    show (if xNs.contains "NoText" then _ else none) = _
    rw [if_pos hc, looks1 _ _ l1 (by decide)]
    rfl
  have e0 : X__law_refused [.sh d, .un, .un] = some (.rt (.bl true)) := by
    unfold X__law_refused
    refine (run_seq (ρ' := [.sh d, .sh .non, .un]) (by simp)).trans ?_
    refine (run_seq ht).trans ?_
    simp at d1
    have lm := lim_of (n := 8) (by decide)
    simp [d1, lm]
  exact fn_rt (n := 3) (ds := [d]) e0
end P
namespace P
open PySem L2 M PySem.NumText
theorem lit9 (s : String) : Str.ofString s = T9 (s.toList.map Char.toNat) := t9_eta (PyProof.Rows.signs_ofString s)
noncomputable def zeros : List Nat := List.replicate 60 48
noncomputable def things (f : List Nat) (n : Int) : List D :=
  [.str (T9 (48 :: f)), .str (T9 (43 :: f)), .str (T9 (32 :: f)), .str (T9 (f ++ [32])), .str (T9 (f ++ [10])), .str (T9 (10 :: f)), .str (T9 (f ++ [97])),
   .str (T9 (97 :: f)), .str (T9 (45 :: 45 :: f)), .str (T9 [45, 48]), .str (T9 (45 :: 48 :: f)), .str (T9 []), .str (T9 [45]), .str (T9 (45 :: 32 :: f)), .str (T9 (f ++ [45])),
   .str (T9 (f ++ [46, 48])), .str (T9 (49 :: zeros)), .str (T9 (45 :: 49 :: zeros)), .str (T9 (f ++ [95, 49])), .str (T9 (95 :: f)), .str (T9 [48, 48]), .str (T9 (f ++ [101, 49])),
   .str (T9 (f ++ [46, 46])), .str (T9 (49 :: 32 :: f)), .str (T9 [48, 120, 49]), .non, .bl true, .int n, .lst [.str (T9 f)], .tup [.str (T9 f)]]
theorem add9 {a b : List Nat} (h : a.length + b.length ≤ 1000) : dAdd (.str (T9 a)) (.str (T9 b)) = some (.str (T9 (a ++ b))) := by
  show (if (T9 a).length + (T9 b).length ≤ LIM then some (D.str (T9 a ++ T9 b)) else none) = _
  rw [t9_len, t9_len, if_pos (lim_of (by omega)), t9_app]
theorem addL {a b : List D} (h : a.length + b.length ≤ 1000) : dAdd (.lst a) (.lst b) = some (.lst (a ++ b)) := by
  show (if a.length + b.length ≤ LIM then some (D.lst (a ++ b)) else none) = _
  rw [if_pos (lim_of (by omega))]
theorem rep9 : dMulS (.str (T9 [48])) (.int 60) = some (.str (T9 (zeros))) := by
  show (if (T9 [48]).length = 1 ∧ (1 : Int) < 60 ∧ (60 : Int) ≤ 1000 then some (D.str _) else none) = _
  rw [if_pos (by decide)]
  rfl
theorem no_number (k n : Int) (f : List Nat) (hf : f.length ≤ 60) (hs : bStrI [.int (if n < 0 then -n else n)] = some (.str (T9 f))) : ∃ d ∈ things f n, m__law_no_number [.int k, .int n] = some d := by
  have hab : bAbs [.int n] = some (.int (if n < 0 then -n else n)) := rfl
  have pre : ∀ a : List Nat, a.length ≤ 100 → dAdd (.str (T9 a)) (.str (T9 f)) = some (.str (T9 (a ++ f))) := fun a h => add9 (by omega)
  have suf : ∀ a : List Nat, a.length ≤ 100 → dAdd (.str (T9 f)) (.str (T9 a)) = some (.str (T9 (f ++ a))) := fun a h => add9 (by omega)
  have l1 := lit9 "0"; have l2 := lit9 "+"; have l3 := lit9 " "; have l4 := lit9 "\n"; have l5 := lit9 "a"; have l6 := lit9 "--"; have l7 := lit9 "-0"; have l8 := lit9 ""; have l9 := lit9 "-"
  have l10 := lit9 "- "; have l11 := lit9 ".0"; have l12 := lit9 "1"; have l13 := lit9 "-1"; have l14 := lit9 "_1"; have l15 := lit9 "_"; have l16 := lit9 "00"; have l17 := lit9 "e1"; have l18 := lit9 ".."
  have l19 := lit9 "1 "; have l20 := lit9 "0x1"
  simp only [show ("0" : String).toList.map Char.toNat = [48] by decide, show ("+" : String).toList.map Char.toNat = [43] by decide, show (" " : String).toList.map Char.toNat = [32] by decide, show ("\n" : String).toList.map Char.toNat = [10] by decide, show ("a" : String).toList.map Char.toNat = [97] by decide, show ("--" : String).toList.map Char.toNat = [45, 45] by decide, show ("-0" : String).toList.map Char.toNat = [45, 48] by decide, show ("" : String).toList.map Char.toNat = [] by decide, show ("-" : String).toList.map Char.toNat = [45] by decide, show ("- " : String).toList.map Char.toNat = [45, 32] by decide, show (".0" : String).toList.map Char.toNat = [46, 48] by decide, show ("1" : String).toList.map Char.toNat = [49] by decide, show ("-1" : String).toList.map Char.toNat = [45, 49] by decide, show ("_1" : String).toList.map Char.toNat = [95, 49] by decide, show ("_" : String).toList.map Char.toNat = [95] by decide, show ("00" : String).toList.map Char.toNat = [48, 48] by decide, show ("e1" : String).toList.map Char.toNat = [101, 49] by decide, show (".." : String).toList.map Char.toNat = [46, 46] by decide, show ("1 " : String).toList.map Char.toNat = [49, 32] by decide, show ("0x1" : String).toList.map Char.toNat = [48, 120, 49] by decide] at l1 l2 l3 l4 l5 l6 l7 l8 l9 l10 l11 l12 l13 l14 l15 l16 l17 l18 l19 l20
  have ones : dAdd (.str (T9 [49])) (.str (T9 (zeros))) = some (.str (T9 ([49] ++ zeros))) := add9 (by decide)
  have ones2 : dAdd (.str (T9 [45, 49])) (.str (T9 (zeros))) = some (.str (T9 ([45, 49] ++ zeros))) := add9 (by decide)
  have rp := rep9
  have lm7 := lim_of (n := 7) (by decide); have lm8 := lim_of (n := 8) (by decide); have lm1 := lim_of (n := 1) (by decide)
  have s1 : xAsg (xCB bStrI (xCons (xCB bAbs (xCons (xVarP 1) (xNil))) (xNil))) (xgName 2) [.sh (.int k), .sh (.int n), .un, .un] = some (.nx [.sh (.int k), .sh (.int n), .sh (.str (T9 f)), .un]) := by simp [hab, hs]
  obtain ⟨d, hd, ha⟩ : ∃ d ∈ things f n, atI (things f n) (k % 30) = some d := by
    have h0 : 0 ≤ k % 30 := by omega
    have h1 : k % 30 < 30 := by omega
    obtain ⟨j, hj⟩ := Int.eq_ofNat_of_zero_le h0
    have hl : j < (things f n).length := by show j < 30; omega
    refine ⟨(things f n)[j], List.getElem_mem hl, ?_⟩
    rw [hj]
    exact atI_of (List.getElem?_eq_getElem hl)
  refine ⟨d, hd, ?_⟩
  have e : X__law_no_number [.sh (.int k), .sh (.int n), .un, .un] = some (.rt d) := by
    unfold X__law_no_number
    rw [l1, l2, l3, l4, l5, l6, l7, l8, l9, l10, l11, l12, l13, l14, l15, l16, l17, l18, l19, l20]
    refine (run_seq s1).trans ?_
    refine (run_seq (ρ' := [.sh (.int k), .sh (.int n), .sh (.str (T9 f)), .sh (.lst ((things f n).take 7))]) (by simp [pre, suf, lm7, things])).trans ?_
    refine (run_seq (ρ' := [.sh (.int k), .sh (.int n), .sh (.str (T9 f)), .sh (.lst ((things f n).take 15))]) (by simp [pre, suf, lm8, things, addL])).trans ?_
    refine (run_seq (ρ' := [.sh (.int k), .sh (.int n), .sh (.str (T9 f)), .sh (.lst ((things f n).take 22))]) (by simp [pre, suf, lm7, things, addL, rp, ones, ones2])).trans ?_
    refine (run_seq (ρ' := [.sh (.int k), .sh (.int n), .sh (.str (T9 f)), .sh (.lst (things f n))]) (by simp [pre, suf, lm8, lm1, things, addL])).trans ?_
    simp [ha]
  exact fn_rt (n := 4) (ds := [.int k, .int n]) e
end P
namespace P
open PySem L2 M PySem.NumText
theorem small_app {a b : List Nat} (ha : ∀ c ∈ a, c < 1114112) (hb : ∀ c ∈ b, c < 1114112) : ∀ c ∈ a ++ b, c < 1114112 := fun c hc => (List.mem_append.mp hc).elim (ha c) (hb c)
theorem bad_behind {f s : List Nat} (hf : AllDigits f) (hn : f ≠ []) (hl : f.length ≤ 60) (hs : s.length ≤ 10) (hb : ∀ c ∈ s, c < 1114112) (h : ∃ c ∈ s, fig c = false) : m_writes_whole [.str (T9 (f ++ s))] = some (.bl false) := by
  have e : figs (f ++ s) = f ++ s := figs_pos fun r z => by
    cases f with
    | nil => exact hn rfl
    | cons c f =>
      rw [List.cons_append] at z
      injection z with z1 z2
      have := hf c List.mem_cons_self
      omega
  refine ww_bad _ (by rw [List.length_append]; omega) (small_app (dig_small hf) hb) ?_
  obtain ⟨c, hc, q⟩ := h
  exact ⟨c, by rw [e]; exact List.mem_append_right _ hc, q⟩
theorem bad_ahead {f s : List Nat} (hf : AllDigits f) (hl : f.length ≤ 60) (hs : s.length ≤ 10) (hb : ∀ c ∈ s, c < 1114112) (h : ∃ c ∈ figs s, fig c = false) : m_writes_whole [.str (T9 (s ++ f))] = some (.bl false) := by
  obtain ⟨c, hc, q⟩ := h
  refine ww_bad _ (by rw [List.length_append]; omega) (small_app hb (dig_small hf)) ⟨c, ?_, q⟩
  cases s with
  | nil => cases hc
  | cons a s =>
    by_cases ha : a = 45
    · subst ha
      exact List.mem_append_left _ hc
    · have e1 : figs (a :: s) = a :: s := figs_pos fun r z => ha (by injection z)
      have e2 : figs (a :: s ++ f) = a :: s ++ f := figs_pos fun r z => ha (by rw [List.cons_append] at z; injection z)
      rw [e1] at hc
      rw [e2]
      exact List.mem_append_left _ hc
theorem all_app {a b : List Nat} (ha : AllDigits a) (hb : AllDigits b) : AllDigits (a ++ b) := fun c hc => (List.mem_append.mp hc).elim (ha c) (hb c)
theorem d0 : AllDigits [48] := fun c hc => by rw [List.mem_singleton] at hc; omega
theorem zeros_dig : AllDigits zeros := fun c hc => by
  have := List.eq_of_mem_replicate hc
  omega
theorem zeros_len : zeros.length = 60 := List.length_replicate
theorem zero_ahead {f : List Nat} {m : Nat} (e : f = numL m) (hl : f.length ≤ 60) : m_writes_whole [.str (T9 (48 :: f))] = some (.bl false) := by
  subst e
  have hd : AllDigits (48 :: numL m) := all_app d0 (num_digits m)
  have fg := figs_pos (dig_neg hd)
  by_cases h1 : 60 < (48 :: numL m).length
  · exact ww_len _ (by rw [List.length_cons]; omega) (dig_small hd) (.inr (by rw [fg]; exact h1))
  · have it : PySem.intText? (T9 (48 :: numL m)) = some (m : Int) := by
      have := intText_digits (x := T9 (48 :: numL m)) hd (by rw [t9_list]; exact fun z => by cases z) (by rw [t9_len]; omega)
      rw [t9_list, digitsVal_zero, num_val] at this
      exact this
    have hm : m < 10 ^ 60 := by
      have h2 := val_lt _ (numL m) rfl (num_digits m)
      rw [num_val] at h2
      exact Nat.lt_of_lt_of_le h2 (Nat.pow_le_pow_right (by decide) hl)
    have := ww_dig (48 :: numL m) (by omega) (dig_small hd) (by rw [fg]; exact fun z => by cases z) (by rw [fg]; omega) (by rw [fg]; exact hd) it (log_lt hm) (str_nat m) (dig_small (num_digits m))
    rw [this, decide_eq_false]
    intro z
    have := congrArg List.length z
    rw [List.length_cons] at this
    omega
theorem neg_zero_ahead {f : List Nat} {m : Nat} (e : f = numL m) (hl : f.length ≤ 60) : m_writes_whole [.str (T9 (45 :: 48 :: f))] = some (.bl false) := by
  subst e
  have hd : AllDigits (48 :: numL m) := all_app d0 (num_digits m)
  have sm : ∀ c ∈ 45 :: 48 :: numL m, c < 1114112 := fun c hc => by
    rcases List.mem_cons.mp hc with rfl | hc
    · decide
    · exact dig_small hd c hc
  by_cases h1 : 60 < (48 :: numL m).length
  · exact ww_len _ (by rw [List.length_cons, List.length_cons]; omega) sm (.inr h1)
  · have it : PySem.intText? (T9 (45 :: 48 :: numL m)) = some (-(m : Int)) := by
      have := intText_neg (x := T9 (45 :: 48 :: numL m)) (t9_list _) hd (fun z => by cases z) (by rw [t9_len, List.length_cons]; omega)
      rw [digitsVal_zero, num_val] at this
      exact this
    have hm : m < 10 ^ 60 := by
      have h2 := val_lt _ (numL m) rfl (num_digits m)
      rw [num_val] at h2
      exact Nat.lt_of_lt_of_le h2 (Nat.pow_le_pow_right (by decide) hl)
    obtain ⟨t, ht, hto, hlt⟩ : ∃ t, Str.ofString (toString (-(m : Int))) = T9 t ∧ (∀ c ∈ t, c < 1114112) ∧ t.length ≤ (numL m).length + 1 := by
      by_cases h0 : m = 0
      · subst h0
        exact ⟨numL 0, str_nat 0, dig_small (num_digits 0), Nat.le_succ _⟩
      · refine ⟨45 :: numL m, str_neg m (by omega), fun c hc => ?_, Nat.le_refl _⟩
        rcases List.mem_cons.mp hc with rfl | hc
        · decide
        · exact dig_small (num_digits m) c hc
    have := ww_dig (45 :: 48 :: numL m) (by rw [List.length_cons]; omega) sm (fun z => by cases z) (by show (48 :: numL m).length ≤ 60; omega) hd it (by rw [Int.natAbs_neg]; exact log_lt hm) ht hto
    rw [this, decide_eq_false]
    intro z
    have := congrArg List.length z
    rw [List.length_cons, List.length_cons] at this
    omega
theorem things_bad (m : Nat) (hm : m < 10 ^ 60) (n : Int) : ∀ d ∈ things (numL m) n, rX_read_whole [d] = some (("NoText" : Str)) := by
  have hd := num_digits m
  have hn := num_ne m
  have hl := num_len hm
  have z9 : AllDigits (49 :: zeros) := all_app (a := [49]) (fun c hc => by rw [List.mem_singleton] at hc; omega) zeros_dig
  have bh : ∀ s : List Nat, s.length ≤ 10 → (∀ c ∈ s, c < 1114112) → (∃ c ∈ s, fig c = false) → rX_read_whole [.str (T9 (numL m ++ s))] = some (("NoText" : Str)) := fun s a b c => rx_text (bad_behind hd hn hl a b c)
  have ah : ∀ s : List Nat, s.length ≤ 10 → (∀ c ∈ s, c < 1114112) → (∃ c ∈ figs s, fig c = false) → rX_read_whole [.str (T9 (s ++ numL m))] = some (("NoText" : Str)) := fun s a b c => rx_text (bad_ahead hd hl a b c)
  intro d h
  simp only [things, List.mem_cons, List.not_mem_nil, or_false] at h
  rcases h with rfl | rfl | rfl | rfl | rfl | rfl | rfl | rfl | rfl | rfl | rfl | rfl | rfl | rfl | rfl | rfl | rfl | rfl | rfl | rfl | rfl | rfl | rfl | rfl | rfl | rfl | rfl | rfl | rfl | rfl
  · exact rx_text (zero_ahead rfl hl)
  · exact ah [43] (by decide) (by decide) ⟨43, by decide, by decide⟩
  · exact ah [32] (by decide) (by decide) ⟨32, by decide, by decide⟩
  · exact bh [32] (by decide) (by decide) ⟨32, by decide, by decide⟩
  · exact bh [10] (by decide) (by decide) ⟨10, by decide, by decide⟩
  · exact ah [10] (by decide) (by decide) ⟨10, by decide, by decide⟩
  · exact bh [97] (by decide) (by decide) ⟨97, by decide, by decide⟩
  · exact ah [97] (by decide) (by decide) ⟨97, by decide, by decide⟩
  · exact ah [45, 45] (by decide) (by decide) ⟨45, by decide, by decide⟩
  · exact rx_text (by
      have := ww_dig [45, 48] (by decide) (by decide) (by decide) (by decide) d0 (v := 0) (intText_neg (x := T9 [45, 48]) (t9_list _) d0 (by decide) (by decide)) (by decide) (str_nat 0) (dig_small (num_digits 0))
      rw [this, decide_eq_false]
      intro z
      have := congrArg List.length z
      have := num_len (m := 0) (by decide)
      have e : numL 0 = [48] := by decide
      rw [e] at z
      exact absurd z (by decide))
  · exact rx_text (neg_zero_ahead rfl hl)
  · exact rx_text (ww_len [] (by decide) (by decide) (.inl rfl))
  · exact rx_text (ww_len [45] (by decide) (by decide) (.inl rfl))
  · exact ah [45, 32] (by decide) (by decide) ⟨32, by decide, by decide⟩
  · exact bh [45] (by decide) (by decide) ⟨45, by decide, by decide⟩
  · exact bh [46, 48] (by decide) (by decide) ⟨46, by decide, by decide⟩
  · exact rx_text (ww_len _ (by rw [List.length_cons, zeros_len]; decide) (dig_small z9) (.inr (by rw [figs_pos (dig_neg z9), List.length_cons, zeros_len]; decide)))
  · exact rx_text (ww_len _ (by rw [List.length_cons, List.length_cons, zeros_len]; decide) (fun c hc => by
      rcases List.mem_cons.mp hc with rfl | hc
      · decide
      · exact dig_small z9 c hc) (.inr (by rw [figs_neg, List.length_cons, zeros_len]; decide)))
  · exact bh [95, 49] (by decide) (by decide) ⟨95, by decide, by decide⟩
  · exact ah [95] (by decide) (by decide) ⟨95, by decide, by decide⟩
  · exact rx_text (by
      have := zero_ahead (f := [48]) (m := 0) (by decide) (by decide)
      exact this)
  · exact bh [101, 49] (by decide) (by decide) ⟨101, by decide, by decide⟩
  · exact bh [46, 46] (by decide) (by decide) ⟨46, by decide, by decide⟩
  · exact ah [49, 32] (by decide) (by decide) ⟨32, by decide, by decide⟩
  · exact rx_text (ww_bad [48, 120, 49] (by decide) (by decide) ⟨120, by decide, by decide⟩)
  · exact rx_other (by simp [bIsi, isiM, tyD, subM])
  · exact rx_other (by simp [bIsi, isiM, tyD, subM])
  · exact rx_other (by simp [bIsi, isiM, tyD, subM])
  · exact rx_other (by simp [bIsi, isiM, tyD, subM])
  · exact rx_other (by simp [bIsi, isiM, tyD, subM])
end P
namespace P
open PySem L2 M PySem.NumText
theorem cut_map {α β : Type} (f : α → β) (xs : List α) (lo hi : Option Int) : cutD (xs.map f) lo hi = (cutD xs lo hi).map f := by
  unfold cutD
  rw [List.length_map, ← List.map_drop, ← List.map_take]
theorem cut_le {α : Type} (xs : List α) (lo hi : Option Int) : (cutD xs lo hi).length ≤ xs.length := by
  unfold cutD
  rw [List.length_take, List.length_drop]
  omega
theorem p60 : dPow (.int 10) (.int 60) = some (.int (10 ^ 60)) := by
  have := v_pow (i := 10) (j := 60) (by decide)
  rw [this]
  rfl
theorem number_is (c : Int) : ∃ n : Int, m__law_number [.int c] = some (.int n) ∧ n.natAbs < 10 ^ 60 := by
  have hp : (0 : Int) < 10 ^ 60 := by decide
  obtain ⟨P, hP⟩ : ∃ P : Int, (10 : Int) ^ 60 = P := ⟨_, rfl⟩
  have hN : ((10 ^ 60 : Nat) : Int) = P := by rw [← hP]; rfl
  have q := p60
  rw [hP] at q hp
  by_cases h : c < 0
  · have e := v_mod (i := 0 - c) hp
    refine ⟨0 - (0 - c) % P, by simp [m__law_number, mo__law_number, fnO, X__law_number, h, q, e, hp], ?_⟩
    have h1 := Int.emod_nonneg (0 - c) (b := P) (by omega)
    have h2 := Int.emod_lt_of_pos (0 - c) hp
    omega
  · have e := v_mod (i := c) hp
    refine ⟨c % P, by simp [m__law_number, mo__law_number, fnO, X__law_number, h, q, e, hp], ?_⟩
    have h1 := Int.emod_nonneg c (b := P) (by omega)
    have h2 := Int.emod_lt_of_pos c hp
    omega
theorem abs_text (n : Int) (h : n.natAbs < 10 ^ 60) : bStrI [.int (if n < 0 then -n else n)] = some (.str (T9 (numL n.natAbs))) := by
  have e : (if n < 0 then -n else n) = (n.natAbs : Int) := by split <;> omega
  rw [e]
  show (if (n.natAbs : Int).natAbs.log2 < 1920 then some (D.str (Str.ofString (toString (n.natAbs : Int)))) else none) = _
  rw [if_pos (log_lt (by rw [Int.natAbs_natCast]; exact h)), str_nat]
theorem turn_is (c : Int) (s0 v2 : Sl) : ∃ w, B_law_0 [s0, .sh (.int c), v2] = some (.nx [s0, .sh (.int c), w]) := by
  obtain ⟨n, h1, h2⟩ := number_is c
  have r := right_ok n h2
  obtain ⟨z, hz⟩ : ∃ z : Int, c * 48271 % 2147483647 / 37 = z := ⟨_, rfl⟩
  obtain ⟨d, hd, e⟩ := no_number z n (numL n.natAbs) (num_len h2) (abs_text n h2)
  have b := things_bad n.natAbs h2 n d hd
  have f := refused_ok d b
  refine ⟨.sh (.int n), ?_⟩
  simp [B_law_0, h1, r, hz, e, f]
theorem m_law_is (ns : List Int) (h : ns.length ≤ 63) : m_law [.scr (ns.map D.int)] = some (.bl true) := by
  have key : ∀ (l : List Int) (s0 v w : Sl), ∃ v' w', loopF (xgName 1) B_law_0 (l.map D.int) [s0, v, w] = some (.nx [s0, v', w']) := by
    intro l
    induction l with
    | nil => exact fun s0 v w => ⟨v, w, rfl⟩
    | cons c l ih =>
      intro s0 v w
      obtain ⟨w1, h1⟩ := turn_is c s0 w
      obtain ⟨v', w', hw⟩ := ih s0 (.sh (.int c)) w1
      exact ⟨v', w', by rw [← hw]; simp [loopF_cons, h1]⟩
  have o1 := right_ok 0 (by decide)
  have o2 := right_ok (10 ^ 60 - 1) (by decide)
  have o3 := right_ok (1 - 10 ^ 60) (by decide)
  have q := p60
  have hc := cut_le ns none (some 98)
  obtain ⟨v', w', hw⟩ := key (cutD ns none (some 98)) (.sh (.scr (ns.map D.int))) .un .un
  have hl : (cutD ns none (some 98)).length ≤ LIM := lim_of (by omega)
  obtain ⟨P, hP⟩ : ∃ P : Int, (10 : Int) ^ 60 = P := ⟨_, rfl⟩
  rw [hP] at o2 o3 q
  simp [m_law, mo_law, fnO, X_law, cut_map, hl, hw, o1, o2, o3, q]
end P
namespace Lw
open PySem L2 M P
noncomputable def top (i : Nat) : Stmt := PySem.Challenge.pw_shapethin_k21_whole_numbers_read.main.body.getD i (.Pass ⟨0, 0, 0, 0⟩)
noncomputable abbrev s_read_whole : Stmt := top 12
noncomputable abbrev s_writes_whole : Stmt := top 13
noncomputable abbrev s__law_number : Stmt := top 15
noncomputable abbrev s__law_no_number : Stmt := top 16
noncomputable abbrev s__law_refused : Stmt := top 17
noncomputable abbrev s__law_right : Stmt := top 18
noncomputable abbrev s_law : Stmt := top 19
structure Txt (K : PySem.W.Frag) (mg : Str → Option Value) : Prop where
  ValueError : mg "ValueError" = none
  abs : mg "abs" = none
  all : mg "all" = none
  bool : mg "bool" = none
  int : mg "int" = none
  isinstance : mg "isinstance" = none
  len : mg "len" = none
  str : mg "str" = none
  FIGURES : ∃ t : Tok, mg "FIGURES" = some (.str (Str.ofString "0123456789") t)
  MOST_FIGURES : ∃ t : Tok, mg "MOST_FIGURES" = some (.int (60) t)
  xc_ShapeError : ∃ T : Addr, mg "ShapeError" = some (.ref T) ∧ ∀ N ∈ xNs, ∀ C : Addr, PySem.W.nsIn K mainGlobals N = some (some (.ref C)) → PySem.W.exmOne K (.ref C) (.ref T) = some true
  xa_NoBack : ∃ T : Addr, mg "NoBack" = some (.ref T) ∧ AnsX K ax_NoBack (.ref T)
  xa_NoForm : ∃ T : Addr, mg "NoForm" = some (.ref T) ∧ AnsX K ax_NoForm (.ref T)
  xa_NoName : ∃ T : Addr, mg "NoName" = some (.ref T) ∧ AnsX K ax_NoName (.ref T)
  xa_NoRow : ∃ T : Addr, mg "NoRow" = some (.ref T) ∧ AnsX K ax_NoRow (.ref T)
  xa_NoText : ∃ T : Addr, mg "NoText" = some (.ref T) ∧ AnsX K ax_NoText (.ref T)
  xa_TooGreat : ∃ T : Addr, mg "TooGreat" = some (.ref T) ∧ AnsX K ax_TooGreat (.ref T)
  xa_TooMany : ∃ T : Addr, mg "TooMany" = some (.ref T) ∧ AnsX K ax_TooMany (.ref T)
  xa_ValueError : AnsX K ax_ValueError (.type "ValueError")
  xr_NoText : ∃ C : Addr, PySem.W.nsIn K mainGlobals "NoText" = some (some (.ref C)) ∧ PySem.W.excIn K C bmV "ValueError.__new__" = true ∧ mg "NoText" = some (.ref C)
section
variable {P : Program} {w : World} {K : PySem.W.Frag} {mg : Str → Option Value} {base : Heap}
theorem sc_writes_whole : FnScope ["text", "figures"] ["text"] (defScope s_writes_whole) := ⟨rfl, rfl, rfl, by decide +kernel, rfl, by decide +kernel, by decide +kernel⟩
theorem sc__law_number : FnScope ["_law_cell"] ["_law_cell"] (defScope s__law_number) := ⟨rfl, rfl, rfl, by decide +kernel, rfl, by decide +kernel, by decide +kernel⟩
theorem sc__law_no_number : FnScope ["_law_cell", "_law_number_here", "_law_figures", "_law_some"] ["_law_cell", "_law_number_here"] (defScope s__law_no_number) := ⟨rfl, rfl, rfl, by decide +kernel, rfl, by decide +kernel, by decide +kernel⟩
theorem sc_read_whole : FnScope ["text"] ["text"] (defScope s_read_whole) := ⟨rfl, rfl, rfl, by decide +kernel, rfl, by decide +kernel, by decide +kernel⟩
theorem sc__law_refused : FnScope ["_law_thing", "_law_caught", "e"] ["_law_thing"] (defScope s__law_refused) := ⟨rfl, rfl, rfl, by decide +kernel, rfl, by decide +kernel, by decide +kernel⟩
theorem sc__law_right : FnScope ["_law_number_here", "_law_found"] ["_law_number_here"] (defScope s__law_right) := ⟨rfl, rfl, rfl, by decide +kernel, rfl, by decide +kernel, by decide +kernel⟩
theorem sc_law : FnScope ["_law_script", "_law_cell", "_law_number_here"] ["_law_script"] (defScope s_law) := ⟨rfl, rfl, rfl, by decide +kernel, rfl, by decide +kernel, by decide +kernel⟩
theorem ok__law_no_number {f : Addr} {fd : FuncData} (F : Fun K "_law_no_number" "_law_no_number" s__law_no_number f fd) (T : Txt K mg) : FnOk P w K mg base CX0 1 f fd ["_law_cell", "_law_number_here"] (sp__law_no_number K) := by
  refine F.ok sc__law_no_number (fun vs H Q E h => h.1) (fun cdv A outer s H vs Q E hr h => ?_)
  have nd := (sc__law_no_number).nd
  exact ⟨_, pss_cons (ps_set (i := 2) nd rfl (Or.inl rfl) (pe_callTy call_strI (by rfl) T.str bt_str (pa_cons (pe_callB call_absM (by rfl) T.abs bt_abs (pa_cons (pv 1) (pa_nil))) (pa_nil)))) (pss_cons (ps_set (i := 3) nd rfl (Or.inl rfl) (pe_lst (pa_cons (pe_op op_addM (pe_str) (pv 2)) (pa_cons (pe_op op_addM (pe_str) (pv 2)) (pa_cons (pe_op op_addM (pe_str) (pv 2)) (pa_cons (pe_op op_addM (pv 2) (pe_str)) (pa_cons (pe_op op_addM (pv 2) (pe_str)) (pa_cons (pe_op op_addM (pe_str) (pv 2)) (pa_cons (pe_op op_addM (pv 2) (pe_str)) (pa_nil)))))))))) (pss_cons (ps_set (i := 3) nd rfl (Or.inl rfl) (pe_op op_addM (pv 3) (pe_lst (pa_cons (pe_op op_addM (pe_str) (pv 2)) (pa_cons (pe_op op_addM (pe_str) (pv 2)) (pa_cons (pe_str) (pa_cons (pe_op op_addM (pe_str) (pv 2)) (pa_cons (pe_str) (pa_cons (pe_str) (pa_cons (pe_op op_addM (pe_str) (pv 2)) (pa_cons (pe_op op_addM (pv 2) (pe_str)) (pa_nil)))))))))))) (pss_cons (ps_set (i := 3) nd rfl (Or.inl rfl) (pe_op op_addM (pv 3) (pe_lst (pa_cons (pe_op op_addM (pv 2) (pe_str)) (pa_cons (pe_op op_addM (pe_str) (pe_op op_mulS (pe_str) (pe_int))) (pa_cons (pe_op op_addM (pe_str) (pe_op op_mulS (pe_str) (pe_int))) (pa_cons (pe_op op_addM (pv 2) (pe_str)) (pa_cons (pe_op op_addM (pe_str) (pv 2)) (pa_cons (pe_str) (pa_cons (pe_op op_addM (pv 2) (pe_str)) (pa_nil))))))))))) (pss_cons (ps_set (i := 3) nd rfl (Or.inl rfl) (pe_op op_addM (pv 3) (pe_lst (pa_cons (pe_op op_addM (pv 2) (pe_str)) (pa_cons (pe_op op_addM (pe_str) (pv 2)) (pa_cons (pe_str) (pa_cons (pe_non) (pa_cons (pe_bl) (pa_cons (pv 1) (pa_cons (pe_lst (pa_cons (pv 2) (pa_nil))) (pa_cons (pe_tup (pa_cons (pv 2) (pa_nil))) (pa_nil)))))))))))) (pss_one (ps_ret (pe_ix ix_seq (pv 3) (pe_op op_mod (pv 0) (pe_int)) (fun _ _ => rfl)))))))), rd__law_no_number h⟩
theorem ok__law_number {f : Addr} {fd : FuncData} (F : Fun K "_law_number" "_law_number" s__law_number f fd) (T : Txt K mg) : FnOk P w K mg base CX0 1 f fd ["_law_cell"] (sp__law_number K) := by
  refine F.ok sc__law_number (fun vs H Q E h => h.1) (fun cdv A outer s H vs Q E hr h => ?_)
  have nd := (sc__law_number).nd
  exact ⟨_, pss_cons (ps_if (pt_cmpR op_lt (pv 0) (pe_int) (nomark _)) (pss_one (ps_ret (pe_op op_sub (pe_int) (pe_op op_mod (pe_op op_sub (pe_int) (pv 0)) (pe_op op_pow (pe_int) (pe_int)))))) (pss_nil)) (pss_one (ps_ret (pe_op op_mod (pv 0) (pe_op op_pow (pe_int) (pe_int))))), rd__law_number h⟩
theorem ok_writes_whole {f : Addr} {fd : FuncData} (F : Fun K "writes_whole" "writes_whole" s_writes_whole f fd) (T : Txt K mg) : FnOk P w K mg base CX0 1 f fd ["text"] (sp_writes_whole K) := by
  refine F.ok sc_writes_whole (fun vs H Q E h => h.1) (fun cdv A outer s H vs Q E hr h => ?_)
  have nd := (sc_writes_whole).nd
  exact ⟨_, pss_cons (ps_set (i := 1) nd rfl (Or.inl rfl) (pe_ifExp (pt_truth (pe_bm PySem.F.plainAttrs_str PySem.F.slot_str_startswith PySem.F.type_str_startswith mt_starts (pv 0) (pa_cons (pe_str) pa_nil)) (fun _ => rfl)) (pe_slice sl_str (pv 0) (po_some (pe_int)) (po_none)) (pv 0))) (pss_cons (ps_if (PW.pt (pw_or (pt_cmpR (op_eqM hr.units) (pv 1) (pe_str) (nomark _)) (pw_or1 (pt_cmpR op_gt (pe_callB call_lenM (by rfl) T.len bt_len (pa_cons (pv 1) (pa_nil))) (pe_glob (v := .int (60)) (by rfl) T.MOST_FIGURES.choose_spec ⟨_, rfl⟩) (nomark _))))) (pss_one (ps_ret (pe_bl))) (pss_nil)) (pss_cons (ps_if (pt_not (pt_truth (pe_callB (call_allM rfl) (by rfl) T.all bt_all (pa_cons (pe_comp (show CmpOk ["text", "figures"] (defScope s_writes_whole) _ ["sign"] [none] from cmpok) (pi_str (pv 1)) (fun _ => pg_name (i := 0) (show List.Nodup (["sign"] : List Str) from by decide +kernel) rfl (Or.inl rfl)) (st_name) (fun _ => pif_nil) (fun _ => pe_cmpR op_inS (pv 0) (pe_glob (v := .str (Str.ofString "0123456789")) (by rfl) T.FIGURES.choose_spec ⟨_, rfl⟩) rfl)) (pa_nil))) (fun _ => rfl))) (pss_one (ps_ret (pe_bl))) (pss_nil)) (pss_one (ps_ret (pe_cmpR (op_eqM hr.units) (pe_callTy call_strI (by rfl) T.str bt_str (pa_cons (pe_callTy call_intS (by rfl) T.int bt_int (pa_cons (pv 0) (pa_nil))) (pa_nil))) (pv 0) (nomark _)))))), rd_writes_whole h⟩
theorem okX_read_whole {f : Addr} {fd : FuncData} (F : Fun K "read_whole" "read_whole" s_read_whole f fd) (T : Txt K mg) {f_writes_whole : Addr} {fd_writes_whole : FuncData} (G_writes_whole : FnOk P w K mg base CX0 1 f_writes_whole fd_writes_whole ["text"] (sp_writes_whole K)) (m_writes_whole : mg "writes_whole" = some (.ref f_writes_whole)) (k_writes_whole : PySem.W.keepIn K (.ref f_writes_whole) = true) (b_writes_whole : Binds K fd_writes_whole ["text"] []) : FnOk P w K mg base (CXe P w) 2 f fd ["text"] (spX_read_whole K) := by
  refine F.okX sc_read_whole (fun vs H Q E h => h.1) (fun cdv A outer s H vs Q E hr h => ?_)
  have nd := (sc_read_whole).nd
  exact ⟨_, pss_stop (ps_if (PW.pt (pw_or (pt_not (pt_truth (pe_callB call_isiM (by rfl) T.isinstance bt_isinstance (pa_cons (pv 0) (pa_cons (pe_bltn (v := .ty "str") (by rfl) T.str bt_str rfl) pa_nil))) (fun _ => rfl))) (pw_or1 (pt_not (pt_truth (pe_call G_writes_whole (hr.mono (by decide)) (by rfl) m_writes_whole k_writes_whole b_writes_whole .nil pass0 (pa_cons (pv 0) (pa_nil))) (fun _ => rfl)))))) (pss_one (ps_raise raise_e T.xr_NoText hr.hd (by rfl) (pe_str))) (pss_nil)), rdX_read_whole h⟩
theorem ok_read_whole {f : Addr} {fd : FuncData} (F : Fun K "read_whole" "read_whole" s_read_whole f fd) (T : Txt K mg) {f_writes_whole : Addr} {fd_writes_whole : FuncData} (G_writes_whole : FnOk P w K mg base CX0 1 f_writes_whole fd_writes_whole ["text"] (sp_writes_whole K)) (m_writes_whole : mg "writes_whole" = some (.ref f_writes_whole)) (k_writes_whole : PySem.W.keepIn K (.ref f_writes_whole) = true) (b_writes_whole : Binds K fd_writes_whole ["text"] []) : FnOk P w K mg base CX0 2 f fd ["text"] (sp_read_whole K) := by
  refine F.ok sc_read_whole (fun vs H Q E h => h.1) (fun cdv A outer s H vs Q E hr h => ?_)
  have nd := (sc_read_whole).nd
  exact ⟨_, pss_cons (ps_if (PW.pt (pw_or (pt_not (pt_truth (pe_callB call_isiM (by rfl) T.isinstance bt_isinstance (pa_cons (pv 0) (pa_cons (pe_bltn (v := .ty "str") (by rfl) T.str bt_str rfl) pa_nil))) (fun _ => rfl))) (pw_or1 (pt_not (pt_truth (pe_call G_writes_whole (hr.mono (by decide)) (by rfl) m_writes_whole k_writes_whole b_writes_whole .nil pass0 (pa_cons (pv 0) (pa_nil))) (fun _ => rfl)))))) (pss_one (ps_never)) (pss_nil)) (pss_one (ps_ret (pe_callTy call_intS (by rfl) T.int bt_int (pa_cons (pv 0) (pa_nil))))), rd_read_whole h⟩
theorem ok__law_refused {f : Addr} {fd : FuncData} (F : Fun K "_law_refused" "_law_refused" s__law_refused f fd) (T : Txt K mg) {f_read_whole : Addr} {fd_read_whole : FuncData} (GX_read_whole : FnOk P w K mg base (CXe P w) 2 f_read_whole fd_read_whole ["text"] (spX_read_whole K)) (m_read_whole : mg "read_whole" = some (.ref f_read_whole)) (k_read_whole : PySem.W.keepIn K (.ref f_read_whole) = true) (b_read_whole : Binds K fd_read_whole ["text"] []) : FnOk P w K mg base CX0 3 f fd ["_law_thing"] (sp__law_refused K) := by
  refine F.ok sc__law_refused (fun vs H Q E h => h.1) (fun cdv A outer s H vs Q E hr h => ?_)
  have nd := (sc__law_refused).nd
  exact ⟨_, pss_cons (ps_set (i := 1) nd rfl (Or.inl rfl) (pe_non)) (pss_cons (ps_try (L := xNs) (i := 2) rfl rfl nd rfl rfl T.xc_ShapeError (by rfl) (fun ps W E hp => pss_one (ps_expr (pe_call GX_read_whole (hr.mono (by decide)) (by rfl) m_read_whole k_read_whole b_read_whole .nil hp (pa_cons (pv 0) (pa_nil))))) (fun e => (show PSs _ _ (tSets K 2 [(1, [ax_ValueError, ax_NoText, ax_NoRow, ax_NoForm, ax_NoName, ax_NoBack, ax_TooGreat, ax_TooMany])]) from pss_one (ps_set (i := 1) nd rfl (Or.inl rfl) (pe_lst (pa_cons (pe_isXB T.ValueError PyProof.Rows.Boot.«ValueError» T.xa_ValueError (by rfl) T.isinstance (by rfl) (pv 2)) (pa_cons (pe_isX T.xa_NoText (by rfl) T.isinstance (by rfl) (pv 2)) (pa_cons (pe_isX T.xa_NoRow (by rfl) T.isinstance (by rfl) (pv 2)) (pa_cons (pe_isX T.xa_NoForm (by rfl) T.isinstance (by rfl) (pv 2)) (pa_cons (pe_isX T.xa_NoName (by rfl) T.isinstance (by rfl) (pv 2)) (pa_cons (pe_isX T.xa_NoBack (by rfl) T.isinstance (by rfl) (pv 2)) (pa_cons (pe_isX T.xa_TooGreat (by rfl) T.isinstance (by rfl) (pv 2)) (pa_cons (pe_isX T.xa_TooMany (by rfl) T.isinstance (by rfl) (pv 2)) (pa_nil)))))))))))))) (pss_one (ps_ret (pe_cmpR (op_eqM hr.units) (pv 1) (pe_lst (pa_cons (pe_bl) (pa_cons (pe_bl) (pa_cons (pe_bl) (pa_cons (pe_bl) (pa_cons (pe_bl) (pa_cons (pe_bl) (pa_cons (pe_bl) (pa_cons (pe_bl) (pa_nil)))))))))) (nomark _))))), rd__law_refused h⟩
theorem ok__law_right {f : Addr} {fd : FuncData} (F : Fun K "_law_right" "_law_right" s__law_right f fd) (T : Txt K mg) {f_read_whole : Addr} {fd_read_whole : FuncData} (G_read_whole : FnOk P w K mg base CX0 2 f_read_whole fd_read_whole ["text"] (sp_read_whole K)) (m_read_whole : mg "read_whole" = some (.ref f_read_whole)) (k_read_whole : PySem.W.keepIn K (.ref f_read_whole) = true) (b_read_whole : Binds K fd_read_whole ["text"] []) : FnOk P w K mg base CX0 3 f fd ["_law_number_here"] (sp__law_right K) := by
  refine F.ok sc__law_right (fun vs H Q E h => h.1) (fun cdv A outer s H vs Q E hr h => ?_)
  have nd := (sc__law_right).nd
  exact ⟨_, pss_cons (ps_set (i := 1) nd rfl (Or.inl rfl) (pe_call G_read_whole (hr.mono (by decide)) (by rfl) m_read_whole k_read_whole b_read_whole .nil pass0 (pa_cons (pe_callTy call_strI (by rfl) T.str bt_str (pa_cons (pv 0) (pa_nil))) (pa_nil)))) (pss_one (ps_ret (pe_and (pe_callB call_isiM (by rfl) T.isinstance bt_isinstance (pa_cons (pv 1) (pa_cons (pe_bltn (v := .ty "int") (by rfl) T.int bt_int rfl) pa_nil))) (pe_and (pe_not (pe_callB call_isiM (by rfl) T.isinstance bt_isinstance (pa_cons (pv 1) (pa_cons (pe_bltn (v := .ty "bool") (by rfl) T.bool bt_bool rfl) pa_nil)))) (pe_one (pe_cmpR (op_eqM hr.units) (pv 1) (pv 0) (nomark _))))))), rd__law_right h⟩
theorem ok_law {f : Addr} {fd : FuncData} (F : Fun K "law" "law" s_law f fd) (T : Txt K mg) {f__law_number : Addr} {fd__law_number : FuncData} (G__law_number : FnOk P w K mg base CX0 1 f__law_number fd__law_number ["_law_cell"] (sp__law_number K)) (m__law_number : mg "_law_number" = some (.ref f__law_number)) (k__law_number : PySem.W.keepIn K (.ref f__law_number) = true) (b__law_number : Binds K fd__law_number ["_law_cell"] []) {f__law_right : Addr} {fd__law_right : FuncData} (G__law_right : FnOk P w K mg base CX0 3 f__law_right fd__law_right ["_law_number_here"] (sp__law_right K)) (m__law_right : mg "_law_right" = some (.ref f__law_right)) (k__law_right : PySem.W.keepIn K (.ref f__law_right) = true) (b__law_right : Binds K fd__law_right ["_law_number_here"] []) {f__law_refused : Addr} {fd__law_refused : FuncData} (G__law_refused : FnOk P w K mg base CX0 3 f__law_refused fd__law_refused ["_law_thing"] (sp__law_refused K)) (m__law_refused : mg "_law_refused" = some (.ref f__law_refused)) (k__law_refused : PySem.W.keepIn K (.ref f__law_refused) = true) (b__law_refused : Binds K fd__law_refused ["_law_thing"] []) {f__law_no_number : Addr} {fd__law_no_number : FuncData} (G__law_no_number : FnOk P w K mg base CX0 1 f__law_no_number fd__law_no_number ["_law_cell", "_law_number_here"] (sp__law_no_number K)) (m__law_no_number : mg "_law_no_number" = some (.ref f__law_no_number)) (k__law_no_number : PySem.W.keepIn K (.ref f__law_no_number) = true) (b__law_no_number : Binds K fd__law_no_number ["_law_cell", "_law_number_here"] []) : FnOk P w K mg base CX0 4 f fd ["_law_script"] (sp_law K) := by
  refine F.ok sc_law (fun vs H Q E h => h.1) (fun cdv A outer s H vs Q E hr h => ?_)
  have nd := (sc_law).nd
  exact ⟨_, pss_cons (ps_for PassesOwn.never rfl (pi_seq (pe_slice sl_M (pv 0) (po_none) (po_some (pe_int)))) (pg_name (i := 1) nd rfl (Or.inl rfl)) (pss_cons (ps_set (i := 2) nd rfl (Or.inl rfl) (pe_call G__law_number (hr.mono (by decide)) (by rfl) m__law_number k__law_number b__law_number .nil pass0 (pa_cons (pv 1) (pa_nil)))) (pss_cons (ps_if (pt_not (pt_truth (pe_call G__law_right (hr.mono (by decide)) (by rfl) m__law_right k__law_right b__law_right .nil pass0 (pa_cons (pv 2) (pa_nil))) (fun _ => rfl))) (pss_one (ps_ret (pe_bl))) (pss_nil)) (pss_cons (ps_if (pt_not (pt_truth (pe_call G__law_refused (hr.mono (by decide)) (by rfl) m__law_refused k__law_refused b__law_refused .nil pass0 (pa_cons (pe_call G__law_no_number (hr.mono (by decide)) (by rfl) m__law_no_number k__law_no_number b__law_no_number .nil pass0 (pa_cons (pe_op op_fdiv (pe_op op_mod (pe_op op_mul (pv 1) (pe_int)) (pe_int)) (pe_int)) (pa_cons (pv 2) (pa_nil)))) (pa_nil))) (fun _ => rfl))) (pss_one (ps_ret (pe_bl))) (pss_nil)) (pss_one (ps_if (pt_not (pt_truth (pe_call G__law_right (hr.mono (by decide)) (by rfl) m__law_right k__law_right b__law_right .nil pass0 (pa_cons (pv 2) (pa_nil))) (fun _ => rfl))) (pss_one (ps_ret (pe_bl))) (pss_nil))))))) (pss_one (ps_ret (pe_and (pe_call G__law_right (hr.mono (by decide)) (by rfl) m__law_right k__law_right b__law_right .nil pass0 (pa_cons (pe_int) (pa_nil))) (pe_and (pe_call G__law_right (hr.mono (by decide)) (by rfl) m__law_right k__law_right b__law_right .nil pass0 (pa_cons (pe_op op_sub (pe_op op_pow (pe_int) (pe_int)) (pe_int)) (pa_nil))) (pe_one (pe_call G__law_right (hr.mono (by decide)) (by rfl) m__law_right k__law_right b__law_right .nil pass0 (pa_cons (pe_op op_sub (pe_int) (pe_op op_pow (pe_int) (pe_int))) (pa_nil)))))))), rd_law h⟩
end
theorem usS {us : List Value} {n : Nat} (h : us.length = n + 1) : ∃ a v, us = a :: v ∧ v.length = n := by
  cases us with
  | nil => cases h
  | cons a v => exact ⟨a, v, rfl, Nat.succ.inj h⟩
theorem us1 {us : List Value} (h : us.length = 1) : ∃ a0, us = [a0] := by
  obtain ⟨a0, v0, rfl, h0⟩ := usS h
  cases v0 with
  | nil => exact ⟨a0, rfl⟩
  | cons a v => cases h0
theorem us2 {us : List Value} (h : us.length = 2) : ∃ a0 a1, us = [a0, a1] := by
  obtain ⟨a0, v0, rfl, h0⟩ := usS h
  obtain ⟨a1, v1, rfl, h1⟩ := usS h0
  cases v1 with
  | nil => exact ⟨a0, a1, rfl⟩
  | cons a v => cases h1
theorem all_mk {l : PySem.W.OpenLaw} {w : World} {K : PySem.W.Frag} {h : Heap} {mg : Str → Option Value} {fa : Addr} (X : K.In h) (G : h.Ns mainGlobals mg) (hfa : mg "law" = some (.ref fa))
    {f_read_whole : Addr} {od_read_whole an_read_whole : Option Addr} {sl_read_whole : Array (Option Value)} {oc_read_whole kV_read_whole dc_read_whole pm_read_whole cd_read_whole ct_read_whole : Value}
    {f_writes_whole : Addr} {od_writes_whole an_writes_whole : Option Addr} {sl_writes_whole : Array (Option Value)} {oc_writes_whole kV_writes_whole dc_writes_whole pm_writes_whole cd_writes_whole ct_writes_whole : Value}
    {f__law_number : Addr} {od__law_number an__law_number : Option Addr} {sl__law_number : Array (Option Value)} {oc__law_number kV__law_number dc__law_number pm__law_number cd__law_number ct__law_number : Value}
    {f__law_no_number : Addr} {od__law_no_number an__law_no_number : Option Addr} {sl__law_no_number : Array (Option Value)} {oc__law_no_number kV__law_no_number dc__law_no_number pm__law_no_number cd__law_no_number ct__law_no_number : Value}
    {f__law_refused : Addr} {od__law_refused an__law_refused : Option Addr} {sl__law_refused : Array (Option Value)} {oc__law_refused kV__law_refused dc__law_refused pm__law_refused cd__law_refused ct__law_refused : Value}
    {f__law_right : Addr} {od__law_right an__law_right : Option Addr} {sl__law_right : Array (Option Value)} {oc__law_right kV__law_right dc__law_right pm__law_right cd__law_right ct__law_right : Value}
    {f_law : Addr} {od_law an_law : Option Addr} {sl_law : Array (Option Value)} {oc_law kV_law dc_law pm_law cd_law ct_law : Value}
    {c_NoBack : Addr}
    {c_NoForm : Addr}
    {c_NoName : Addr}
    {c_NoRow : Addr}
    {c_NoText : Addr}
    {c_ShapeError : Addr}
    {c_TooGreat : Addr}
    {c_TooMany : Addr}
    {t_FIGURES : Tok}
    {t_MOST_FIGURES : Tok}
    (a_read_whole : PySem.W.nsIn K mainGlobals "read_whole" = some (some (.ref f_read_whole))) (l_read_whole : K.lookup f_read_whole = some ⟨oc_read_whole, od_read_whole, .func (PySem.W.fnOf "read_whole" "read_whole" (defArgs s_read_whole) (defBody s_read_whole) (defScope s_read_whole) .none kV_read_whole dc_read_whole pm_read_whole an_read_whole cd_read_whole ct_read_whole), sl_read_whole⟩) (e_read_whole : PySem.W.codeIn K cd_read_whole "read_whole" = true) (k_read_whole : PySem.W.keepIn K (.ref f_read_whole) = true)
    (a_writes_whole : PySem.W.nsIn K mainGlobals "writes_whole" = some (some (.ref f_writes_whole))) (l_writes_whole : K.lookup f_writes_whole = some ⟨oc_writes_whole, od_writes_whole, .func (PySem.W.fnOf "writes_whole" "writes_whole" (defArgs s_writes_whole) (defBody s_writes_whole) (defScope s_writes_whole) .none kV_writes_whole dc_writes_whole pm_writes_whole an_writes_whole cd_writes_whole ct_writes_whole), sl_writes_whole⟩) (e_writes_whole : PySem.W.codeIn K cd_writes_whole "writes_whole" = true) (k_writes_whole : PySem.W.keepIn K (.ref f_writes_whole) = true)
    (a__law_number : PySem.W.nsIn K mainGlobals "_law_number" = some (some (.ref f__law_number))) (l__law_number : K.lookup f__law_number = some ⟨oc__law_number, od__law_number, .func (PySem.W.fnOf "_law_number" "_law_number" (defArgs s__law_number) (defBody s__law_number) (defScope s__law_number) .none kV__law_number dc__law_number pm__law_number an__law_number cd__law_number ct__law_number), sl__law_number⟩) (e__law_number : PySem.W.codeIn K cd__law_number "_law_number" = true) (k__law_number : PySem.W.keepIn K (.ref f__law_number) = true)
    (a__law_no_number : PySem.W.nsIn K mainGlobals "_law_no_number" = some (some (.ref f__law_no_number))) (l__law_no_number : K.lookup f__law_no_number = some ⟨oc__law_no_number, od__law_no_number, .func (PySem.W.fnOf "_law_no_number" "_law_no_number" (defArgs s__law_no_number) (defBody s__law_no_number) (defScope s__law_no_number) .none kV__law_no_number dc__law_no_number pm__law_no_number an__law_no_number cd__law_no_number ct__law_no_number), sl__law_no_number⟩) (e__law_no_number : PySem.W.codeIn K cd__law_no_number "_law_no_number" = true) (k__law_no_number : PySem.W.keepIn K (.ref f__law_no_number) = true)
    (a__law_refused : PySem.W.nsIn K mainGlobals "_law_refused" = some (some (.ref f__law_refused))) (l__law_refused : K.lookup f__law_refused = some ⟨oc__law_refused, od__law_refused, .func (PySem.W.fnOf "_law_refused" "_law_refused" (defArgs s__law_refused) (defBody s__law_refused) (defScope s__law_refused) .none kV__law_refused dc__law_refused pm__law_refused an__law_refused cd__law_refused ct__law_refused), sl__law_refused⟩) (e__law_refused : PySem.W.codeIn K cd__law_refused "_law_refused" = true) (k__law_refused : PySem.W.keepIn K (.ref f__law_refused) = true)
    (a__law_right : PySem.W.nsIn K mainGlobals "_law_right" = some (some (.ref f__law_right))) (l__law_right : K.lookup f__law_right = some ⟨oc__law_right, od__law_right, .func (PySem.W.fnOf "_law_right" "_law_right" (defArgs s__law_right) (defBody s__law_right) (defScope s__law_right) .none kV__law_right dc__law_right pm__law_right an__law_right cd__law_right ct__law_right), sl__law_right⟩) (e__law_right : PySem.W.codeIn K cd__law_right "_law_right" = true) (k__law_right : PySem.W.keepIn K (.ref f__law_right) = true)
    (a_law : PySem.W.nsIn K mainGlobals "law" = some (some (.ref f_law))) (l_law : K.lookup f_law = some ⟨oc_law, od_law, .func (PySem.W.fnOf "law" "law" (defArgs s_law) (defBody s_law) (defScope s_law) .none kV_law dc_law pm_law an_law cd_law ct_law), sl_law⟩) (e_law : PySem.W.codeIn K cd_law "law" = true) (k_law : PySem.W.keepIn K (.ref f_law) = true)
    (n_NoBack : PySem.W.nsIn K mainGlobals "NoBack" = some (some (.ref c_NoBack)))
    (n_NoForm : PySem.W.nsIn K mainGlobals "NoForm" = some (some (.ref c_NoForm)))
    (n_NoName : PySem.W.nsIn K mainGlobals "NoName" = some (some (.ref c_NoName)))
    (n_NoRow : PySem.W.nsIn K mainGlobals "NoRow" = some (some (.ref c_NoRow)))
    (n_NoText : PySem.W.nsIn K mainGlobals "NoText" = some (some (.ref c_NoText)))
    (n_ShapeError : PySem.W.nsIn K mainGlobals "ShapeError" = some (some (.ref c_ShapeError)))
    (n_TooGreat : PySem.W.nsIn K mainGlobals "TooGreat" = some (some (.ref c_TooGreat)))
    (n_TooMany : PySem.W.nsIn K mainGlobals "TooMany" = some (some (.ref c_TooMany)))
    (xg : PySem.W.specialIn K (.builtin "object.__class__") "__get__" = some (some (.builtin "getset_descriptor.__get__"))) (xt : PySem.W.takesIn K (.builtin "object.__class__") = some true)
    (x1_NoText : PySem.W.hasDictIn K c_NoText = true) (x2_NoText : PySem.W.findIn K (.ref c_NoText) "__getattribute__" = some (some (.builtin "BaseException.__getattribute__"))) (x3_NoText : PySem.W.findIn K (.ref c_NoText) "__getattr__" = some none) (x4_NoText : PySem.W.findIn K (.ref c_NoText) "__class__" = some (some (.builtin "object.__class__"))) (x5_NoText : PySem.W.mroIn K c_NoText (.type "object") = some true) (x6_NoText : PySem.W.mroIn K c_NoText (.type "BaseException") = some true) (xe_NoText : PySem.W.excIn K c_NoText bmV "ValueError.__new__" = true)
    (xo_NoText_NoBack : PySem.W.kitOne K (.ref c_NoText) (.ref c_NoBack) = some false)
    (xo_NoText_NoForm : PySem.W.kitOne K (.ref c_NoText) (.ref c_NoForm) = some false)
    (xo_NoText_NoName : PySem.W.kitOne K (.ref c_NoText) (.ref c_NoName) = some false)
    (xo_NoText_NoRow : PySem.W.kitOne K (.ref c_NoText) (.ref c_NoRow) = some false)
    (xo_NoText_NoText : PySem.W.kitOne K (.ref c_NoText) (.ref c_NoText) = some true)
    (xo_NoText_TooGreat : PySem.W.kitOne K (.ref c_NoText) (.ref c_TooGreat) = some false)
    (xo_NoText_TooMany : PySem.W.kitOne K (.ref c_NoText) (.ref c_TooMany) = some false)
    (xo_NoText_ValueError : PySem.W.kitOne K (.ref c_NoText) (.type "ValueError") = some true)
    (xm_NoText_ShapeError : PySem.W.exmOne K (.ref c_NoText) (.ref c_ShapeError) = some true)
    (z_ValueError : PySem.W.nsIn K mainGlobals "ValueError" = some none)
    (z_abs : PySem.W.nsIn K mainGlobals "abs" = some none)
    (z_all : PySem.W.nsIn K mainGlobals "all" = some none)
    (z_bool : PySem.W.nsIn K mainGlobals "bool" = some none)
    (z_int : PySem.W.nsIn K mainGlobals "int" = some none)
    (z_isinstance : PySem.W.nsIn K mainGlobals "isinstance" = some none)
    (z_len : PySem.W.nsIn K mainGlobals "len" = some none)
    (z_str : PySem.W.nsIn K mainGlobals "str" = some none)
    (y_FIGURES : PySem.W.nsIn K mainGlobals "FIGURES" = some (some (.str (Str.ofString "0123456789") t_FIGURES)))
    (y_MOST_FIGURES : PySem.W.nsIn K mainGlobals "MOST_FIGURES" = some (some (.int (60) t_MOST_FIGURES)))
    : ∃ fd : FuncData, (∀ (s : Shared) (v : Value), BindsTo s fd ⟨[v], []⟩ [("_law_script", v)]) ∧ ∀ base : Heap, K.In base → base.Ns mainGlobals mg → FnOk l.prog w K mg base CX0 4 fa fd ["_law_script"] (sp_law K) := by
  have e := hfa.symm.trans (PySem.W.mg_of X G a_law)
  cases e
  have xc_ShapeError : ∃ T : Addr, mg "ShapeError" = some (.ref T) ∧ ∀ N ∈ xNs, ∀ C : Addr, PySem.W.nsIn K mainGlobals N = some (some (.ref C)) → PySem.W.exmOne K (.ref C) (.ref T) = some true := by
    refine ⟨c_ShapeError, PySem.W.mg_of X G n_ShapeError, fun N hN C hC => ?_⟩
    simp only [List.mem_cons, List.not_mem_nil, or_false] at hN
    rcases hN with rfl
    · rw [n_NoText] at hC; cases hC; exact xm_NoText_ShapeError
  have xa_NoBack : ∃ T : Addr, mg "NoBack" = some (.ref T) ∧ AnsX K ax_NoBack (.ref T) := ⟨c_NoBack, PySem.W.mg_of X G n_NoBack, ansX_cons (fun C hC => by rw [n_NoText] at hC; cases hC; exact ⟨⟨x1_NoText, x2_NoText, x3_NoText, x4_NoText, xg, xt, x5_NoText, x6_NoText⟩, xo_NoText_NoBack⟩) (ansX_nil)⟩
  have xa_NoForm : ∃ T : Addr, mg "NoForm" = some (.ref T) ∧ AnsX K ax_NoForm (.ref T) := ⟨c_NoForm, PySem.W.mg_of X G n_NoForm, ansX_cons (fun C hC => by rw [n_NoText] at hC; cases hC; exact ⟨⟨x1_NoText, x2_NoText, x3_NoText, x4_NoText, xg, xt, x5_NoText, x6_NoText⟩, xo_NoText_NoForm⟩) (ansX_nil)⟩
  have xa_NoName : ∃ T : Addr, mg "NoName" = some (.ref T) ∧ AnsX K ax_NoName (.ref T) := ⟨c_NoName, PySem.W.mg_of X G n_NoName, ansX_cons (fun C hC => by rw [n_NoText] at hC; cases hC; exact ⟨⟨x1_NoText, x2_NoText, x3_NoText, x4_NoText, xg, xt, x5_NoText, x6_NoText⟩, xo_NoText_NoName⟩) (ansX_nil)⟩
  have xa_NoRow : ∃ T : Addr, mg "NoRow" = some (.ref T) ∧ AnsX K ax_NoRow (.ref T) := ⟨c_NoRow, PySem.W.mg_of X G n_NoRow, ansX_cons (fun C hC => by rw [n_NoText] at hC; cases hC; exact ⟨⟨x1_NoText, x2_NoText, x3_NoText, x4_NoText, xg, xt, x5_NoText, x6_NoText⟩, xo_NoText_NoRow⟩) (ansX_nil)⟩
  have xa_NoText : ∃ T : Addr, mg "NoText" = some (.ref T) ∧ AnsX K ax_NoText (.ref T) := ⟨c_NoText, PySem.W.mg_of X G n_NoText, ansX_cons (fun C hC => by rw [n_NoText] at hC; cases hC; exact ⟨⟨x1_NoText, x2_NoText, x3_NoText, x4_NoText, xg, xt, x5_NoText, x6_NoText⟩, xo_NoText_NoText⟩) (ansX_nil)⟩
  have xa_TooGreat : ∃ T : Addr, mg "TooGreat" = some (.ref T) ∧ AnsX K ax_TooGreat (.ref T) := ⟨c_TooGreat, PySem.W.mg_of X G n_TooGreat, ansX_cons (fun C hC => by rw [n_NoText] at hC; cases hC; exact ⟨⟨x1_NoText, x2_NoText, x3_NoText, x4_NoText, xg, xt, x5_NoText, x6_NoText⟩, xo_NoText_TooGreat⟩) (ansX_nil)⟩
  have xa_TooMany : ∃ T : Addr, mg "TooMany" = some (.ref T) ∧ AnsX K ax_TooMany (.ref T) := ⟨c_TooMany, PySem.W.mg_of X G n_TooMany, ansX_cons (fun C hC => by rw [n_NoText] at hC; cases hC; exact ⟨⟨x1_NoText, x2_NoText, x3_NoText, x4_NoText, xg, xt, x5_NoText, x6_NoText⟩, xo_NoText_TooMany⟩) (ansX_nil)⟩
  have xa_ValueError : AnsX K ax_ValueError (.type "ValueError") := ansX_cons (fun C hC => by rw [n_NoText] at hC; cases hC; exact ⟨⟨x1_NoText, x2_NoText, x3_NoText, x4_NoText, xg, xt, x5_NoText, x6_NoText⟩, xo_NoText_ValueError⟩) (ansX_nil)
  have xr_NoText : ∃ C : Addr, PySem.W.nsIn K mainGlobals "NoText" = some (some (.ref C)) ∧ PySem.W.excIn K C bmV "ValueError.__new__" = true ∧ mg "NoText" = some (.ref C) := ⟨c_NoText, n_NoText, xe_NoText, PySem.W.mg_of X G n_NoText⟩
  have T : Txt K mg := ⟨PySem.W.mg_none_of X G z_ValueError, PySem.W.mg_none_of X G z_abs, PySem.W.mg_none_of X G z_all, PySem.W.mg_none_of X G z_bool, PySem.W.mg_none_of X G z_int, PySem.W.mg_none_of X G z_isinstance, PySem.W.mg_none_of X G z_len, PySem.W.mg_none_of X G z_str, ⟨_, PySem.W.mg_of X G y_FIGURES⟩, ⟨_, PySem.W.mg_of X G y_MOST_FIGURES⟩, xc_ShapeError, xa_NoBack, xa_NoForm, xa_NoName, xa_NoRow, xa_NoText, xa_TooGreat, xa_TooMany, xa_ValueError, xr_NoText⟩
  have F_writes_whole := fun_mk (st := s_writes_whole) l_writes_whole e_writes_whole k_writes_whole
  have b_writes_whole := (F_writes_whole).binds (ps := ["text"]) fun _ _ _ _ _ _ us hl => by obtain ⟨a0, rfl⟩ := us1 hl; rfl
  have m_writes_whole := PySem.W.mg_of X G a_writes_whole
  have F__law_number := fun_mk (st := s__law_number) l__law_number e__law_number k__law_number
  have b__law_number := (F__law_number).binds (ps := ["_law_cell"]) fun _ _ _ _ _ _ us hl => by obtain ⟨a0, rfl⟩ := us1 hl; rfl
  have m__law_number := PySem.W.mg_of X G a__law_number
  have F__law_no_number := fun_mk (st := s__law_no_number) l__law_no_number e__law_no_number k__law_no_number
  have b__law_no_number := (F__law_no_number).binds (ps := ["_law_cell", "_law_number_here"]) fun _ _ _ _ _ _ us hl => by obtain ⟨a0, a1, rfl⟩ := us2 hl; rfl
  have m__law_no_number := PySem.W.mg_of X G a__law_no_number
  have F_read_whole := fun_mk (st := s_read_whole) l_read_whole e_read_whole k_read_whole
  have b_read_whole := (F_read_whole).binds (ps := ["text"]) fun _ _ _ _ _ _ us hl => by obtain ⟨a0, rfl⟩ := us1 hl; rfl
  have m_read_whole := PySem.W.mg_of X G a_read_whole
  have F__law_refused := fun_mk (st := s__law_refused) l__law_refused e__law_refused k__law_refused
  have b__law_refused := (F__law_refused).binds (ps := ["_law_thing"]) fun _ _ _ _ _ _ us hl => by obtain ⟨a0, rfl⟩ := us1 hl; rfl
  have m__law_refused := PySem.W.mg_of X G a__law_refused
  have F__law_right := fun_mk (st := s__law_right) l__law_right e__law_right k__law_right
  have b__law_right := (F__law_right).binds (ps := ["_law_number_here"]) fun _ _ _ _ _ _ us hl => by obtain ⟨a0, rfl⟩ := us1 hl; rfl
  have m__law_right := PySem.W.mg_of X G a__law_right
  have F_law := fun_mk (st := s_law) l_law e_law k_law
  refine ⟨PySem.W.fnOf "law" "law" (defArgs s_law) (defBody s_law) (defScope s_law) .none kV_law dc_law pm_law an_law cd_law ct_law, fun s v => .of_eq rfl, fun base _ _ => ?_⟩
  have G__law_no_number : FnOk l.prog w K mg base CX0 1 f__law_no_number _ ["_law_cell", "_law_number_here"] (sp__law_no_number K) := ok__law_no_number F__law_no_number T
  have G__law_number : FnOk l.prog w K mg base CX0 1 f__law_number _ ["_law_cell"] (sp__law_number K) := ok__law_number F__law_number T
  have G_writes_whole : FnOk l.prog w K mg base CX0 1 f_writes_whole _ ["text"] (sp_writes_whole K) := ok_writes_whole F_writes_whole T
  have GX_read_whole : FnOk l.prog w K mg base (CXe l.prog w) 2 f_read_whole _ ["text"] (spX_read_whole K) := okX_read_whole F_read_whole T G_writes_whole m_writes_whole k_writes_whole b_writes_whole
  have G_read_whole : FnOk l.prog w K mg base CX0 2 f_read_whole _ ["text"] (sp_read_whole K) := ok_read_whole F_read_whole T G_writes_whole m_writes_whole k_writes_whole b_writes_whole
  have G__law_refused : FnOk l.prog w K mg base CX0 3 f__law_refused _ ["_law_thing"] (sp__law_refused K) := ok__law_refused F__law_refused T GX_read_whole m_read_whole k_read_whole b_read_whole
  have G__law_right : FnOk l.prog w K mg base CX0 3 f__law_right _ ["_law_number_here"] (sp__law_right K) := ok__law_right F__law_right T G_read_whole m_read_whole k_read_whole b_read_whole
  exact ok_law F_law T G__law_number m__law_number k__law_number b__law_number G__law_right m__law_right k__law_right b__law_right G__law_refused m__law_refused k__law_refused b__law_refused G__law_no_number m__law_no_number k__law_no_number b__law_no_number
theorem walk {l : PySem.W.OpenLaw} {q : Program} {loose : List Str} {XP : (Str → Option Value) → Heap → Prop} {YP : World → Heap → Prop} {d : DefRec} {K : Params → PySem.W.Frag} (hn : l.most = some 63) (hdf : d.params.defaults = [])
    (hY : ∀ (w : World) (h : Heap), YP w h → (K w.params).In h)
    (F : ∀ (w : World) (mg : Str → Option Value) (fa : Addr) (h : Heap), (K w.params).In h → h.Ns mainGlobals mg → mg d.name = some (.ref fa) →
      ∃ fd : FuncData, (∀ (s : Shared) (u : Value), BindsTo s fd ⟨[u], []⟩ [("_law_script", u)]) ∧ ∀ base : Heap, (K w.params).In base → base.Ns mainGlobals mg → FnOk l.prog w (K w.params) mg base CX0 4 fa fd ["_law_script"] (sp_law (K w.params))) :
    PySem.W.WalkO q loose XP YP l.row.toRowW d [] (fun f vs => PySem.call f vs) :=
  L2.walk_of (n := 63) (k := 4) (x := "_law_script") (CX := fun _ => CX0) (sp := fun w => sp_law (K w.params)) hn (by decide) hdf ⟨rfl, by decide, by decide⟩ hY F (fun _ H a ns hl _ hS => M.sp_script hS (m_law_is ns hl)) fun _ _ _ _ _ z => z
end Lw
open PySem PySem.W PyProof.Rows
set_option maxRecDepth 100000 in
set_option maxHeartbeats 0 in
theorem PySem.Challenge.cw_shapethin_k21_whole_numbers_read_holds : PySem.Challenge.rw_shapethin_k21_whole_numbers_read.Holds := by
  w_on; o_law; k_head; (case hw => w_witness2)
  k_fill
  refine Lw.walk (l := PySem.Challenge.rw_shapethin_k21_whole_numbers_read) rfl rfl (fun w h Y => PySem.W.kIn_of Y) ?F
  case F =>
    intro w mg fa h KX G hmg
    refine' Lw.all_mk KX G hmg ?a_read_whole ?l_read_whole ?e_read_whole ?k_read_whole ?a_writes_whole ?l_writes_whole ?e_writes_whole ?k_writes_whole ?a__law_number ?l__law_number ?e__law_number ?k__law_number ?a__law_no_number ?l__law_no_number ?e__law_no_number ?k__law_no_number ?a__law_refused ?l__law_refused ?e__law_refused ?k__law_refused ?a__law_right ?l__law_right ?e__law_right ?k__law_right ?a_law ?l_law ?e_law ?k_law ?n_NoBack ?n_NoForm ?n_NoName ?n_NoRow ?n_NoText ?n_ShapeError ?n_TooGreat ?n_TooMany ?xg ?xt ?x1_NoText ?x2_NoText ?x3_NoText ?x4_NoText ?x5_NoText ?x6_NoText ?xe_NoText ?xo_NoText_NoBack ?xo_NoText_NoForm ?xo_NoText_NoName ?xo_NoText_NoRow ?xo_NoText_NoText ?xo_NoText_TooGreat ?xo_NoText_TooMany ?xo_NoText_ValueError ?xm_NoText_ShapeError ?z_ValueError ?z_abs ?z_all ?z_bool ?z_int ?z_isinstance ?z_len ?z_str ?y_FIGURES ?y_MOST_FIGURES
    (case a_read_whole => k_is)
    (case l_read_whole => k_is)
    (case e_read_whole => k_is)
    (case k_read_whole => k_is)
    (case a_writes_whole => k_is)
    (case l_writes_whole => k_is)
    (case e_writes_whole => k_is)
    (case k_writes_whole => k_is)
    (case a__law_number => k_is)
    (case l__law_number => k_is)
    (case e__law_number => k_is)
    (case k__law_number => k_is)
    (case a__law_no_number => k_is)
    (case l__law_no_number => k_is)
    (case e__law_no_number => k_is)
    (case k__law_no_number => k_is)
    (case a__law_refused => k_is)
    (case l__law_refused => k_is)
    (case e__law_refused => k_is)
    (case k__law_refused => k_is)
    (case a__law_right => k_is)
    (case l__law_right => k_is)
    (case e__law_right => k_is)
    (case k__law_right => k_is)
    (case a_law => k_is)
    (case l_law => k_is)
    (case e_law => k_is)
    (case k_law => k_is)
    (case n_NoBack => k_is)
    (case n_NoForm => k_is)
    (case n_NoName => k_is)
    (case n_NoRow => k_is)
    (case n_NoText => k_is)
    (case n_ShapeError => k_is)
    (case n_TooGreat => k_is)
    (case n_TooMany => k_is)
    (case xg => k_is)
    (case xt => k_is)
    (case x1_NoText => k_is)
    (case x2_NoText => k_is)
    (case x3_NoText => k_is)
    (case x4_NoText => k_is)
    (case x5_NoText => k_is)
    (case x6_NoText => k_is)
    (case xe_NoText => k_exc)
    (case xo_NoText_NoBack => kit_is)
    (case xo_NoText_NoForm => kit_is)
    (case xo_NoText_NoName => kit_is)
    (case xo_NoText_NoRow => kit_is)
    (case xo_NoText_NoText => kit_is)
    (case xo_NoText_TooGreat => kit_is)
    (case xo_NoText_TooMany => kit_is)
    (case xo_NoText_ValueError => kit_is)
    (case xm_NoText_ShapeError => kts_exm)
    (case z_ValueError => k_is)
    (case z_abs => k_is)
    (case z_all => k_is)
    (case z_bool => k_is)
    (case z_int => k_is)
    (case z_isinstance => k_is)
    (case z_len => k_is)
    (case z_str => k_is)
    (case y_FIGURES => k_is)
    (case y_MOST_FIGURES => k_is)

import PyProof.Rows.All
import Wide.All
import OpenK.AllK
import Wide.FinOn
import Lean
import PyProof.EqAt
import PyProof.EqKinds
import PyProof.TupleCall
import PySem.Challenge.RW_shapethin_k53_thinned_cell_by_cell
set_option genSizeOf false
set_option bootstrap.genMatcherCode false
set_option compiler.extract_closed false
set_option linter.all false
set_option maxHeartbeats 4000000
set_option maxRecDepth 100000
def OA:=@PySem.wpAny_bind
def OB:=@if_neg
def OC:=@if_pos
def OD:=@PyProof.Rows.wpS_bind
def OE:=@PySem.wpAny_pure
def OG:=@PyProof.Rows.wpS_pure
def OH:=@Nat.le_refl
def OI:=@List.mem_cons_self
def OJ:=@List.length_map
def OK:=@List.mem_cons_of_mem
def OL:=@List.length_cons
def OM:=@List.length_append
def OO:=@List.mem_singleton
def OP:=@List.mem_cons
def OQ:=@List.map_cons
def OS:=@PySem.Heap.lt_size
def OT:=@PySem.Heap.get?_push_of_some
def OU:=@List.mem_append_right
def OV:=@List.mem_append
def OW:=@Nat.le_trans
def OX:=@Nat.ne_of_lt
def OY:=@List.mem_append_left
def OZ:=@congrArg
def O0:=@List.size_toArray
def O1:=@List.mem_map
def O2:=@PySem.sizeLine_eq
def O3:=@PySem.Heap.get?_push_size
def O4:=@List.nodup_cons
def O5:=@List.foldl_cons
def O6:=@List.getElem?_map
def O7:=@List.map_map
def O8:=@Ne.symm
def O9:=@PySem.W.mg_of
def Pa:=@Nat.lt_of_lt_of_le
def Pb:=@List.append_assoc
def Pc:=@List.filterMap_cons
def Pd:=@List.append_nil
def Pe:=@List.pairwise_append
def Pf:=@decide_eq_false
def Pg:=@List.getElem?_eq_some_iff
def Ph:=@Array.length_toList
def Pi:=@Int.le_refl
def Pj:=@Option.some.inj
def Pk:=@Nat.le_of_lt
def Pl:=@Nat.zero_le
def Pm:=@PyProof.Rows.wpS_mono
def Pn:=@PyProof.Rows.wpS_forRange
def Po:=@List.mem_filter
def Pp:=@PySem.wpAny_holding
def Pq:=@PySem.PassesOwn.never
def Pr:=@decide_eq_true
def Ps:=@PySem.wpAny_newObj_type
def Pt:=@PySem.Heap.get?_update_self
def Pu:=@PyProof.Rows.wpS_modify
def Pv:=@of_decide_eq_false
def Pw:=@Nat.lt_of_le_of_lt
def Px:=@Bool.false_ne_true
def Py:=@PySem.W.kia_one
def Pz:=@Nat.le_of_eq
def PB:=@PyProof.Rows.wpS_get
def PD:=@PySem.F.plainAttrs_list
def PF:=@List.getElem?_set_ne
def PH:=@Bool.and_eq_true
def PK:=@List.lookup_cons
def PL:=@PySem.wpAny_rule
def PM:=@Array.map_push
def PN:=@Array.getElem?_toList
def PP:=@List.nodup_append
def PQ:=@Array.getElem?_eq_getElem
def PR:=@PySem.wpAny_call_entry
def PU:=@List.length_singleton
def PV:=@PySem.Heap.get?_update_ne
def PX:=@Iff.rfl
def PY:=@PySem.W.mg_none_of
def PZ:=@PySem.wpAny_mono
def P0:=@List.getElem?_eq_getElem
def P5:=@List.getElem?_cons_succ
def P6:=@List.filter_cons
def P7:=@PySem.Paired.length
def P8:=@List.mem_range
def P9:=@PySem.wpAny_typeOf
def Qa:=@List.map_nil
def Qb:=@List.length_set
def Qc:=@Array.toList_append
def Qd:=@Array.map_reverse
def Qe:=@Int.toNat_natCast
def Qf:=@PySem.F.slot_list_append
def Qg:=@PySem.F.type_list_append
def Qh:=@Nat.ne_of_gt
def Qi:=@List.length_take
def Qj:=@if_false
def Qk:=@beq_iff_eq
def Ql:=@List.pairwise_map
def Qm:=@PyProof.Rows.wpS_lift
def Qn:=@Array.toList_push
def Qo:=@Nat.zero_add
def Qp:=@of_decide_eq_true
def Qq:=@PySem.wpAny_of_eq
def Qr:=@PySem.Obj.data_mapFields
def Qs:=@PySem.codeAny_builtin
def Qt:=@List.filter_cons_of_neg
def Qu:=@List.pairwise_cons
def Qv:=@PySem.F.called_set
def Qw:=@List.eq_nil_or_concat
def Qx:=@List.concat_eq_append
def Qy:=@Nat.lt_irrefl
def Qz:=@PySem.wpAny_passesOwn
def QA:=@List.getElem?_append_right
def QB:=@List.getElem?_append_left
def QC:=@List.drop_of_length_le
def QD:=@Nat.lt_succ_self
def QE:=@List.getElem?_eq_none_iff
def QF:=@List.length_eq_zero_iff
def QG:=@PySem.typeLookup_type
def QH:=@PySem.builtinLookup_eq_fast
def QI:=@PySem.Around.under_plainId
def QJ:=@PySem.plainId_quiet
def QK:=@List.getElem?_set_self
def QL:=@PySem.wpAny_truthy_bool
def QM:=@PySem.mem_of_lookup
def QN:=@PySem.wpAny_callSpecial?_slot
def QO:=@PyProof.Rows.slot_tuple_getitem
def QP:=@List.any_cons
def QR:=@Nat.lt_succ_of_lt
def QS:=@Array.perm_iff_toList_perm
def QT:=@List.pairwise_singleton
def QU:=@List.take_of_length_le
def QV:=@List.ext_getElem?
def QW:=@Nat.succ_pos
def QX:=@List.find?_cons
def QY:=@PySem.isSubtype_type
def QZ:=@PySem.wpAny_throw
def Q0:=@PySem.wpAny_isInstance
def Q1:=@List.map_append
def Q2:=@Array.getElem?_eq_some_iff
def Q3:=@List.filter_cons_of_pos
def Q4:=@PySem.wpAny_fieldsOf
def Q5:=@List.getElem?_cons_zero
def Q6:=@List.eq_nil_of_length_eq_zero
def Q7:=@List.foldl_append
def Q8:=@List.sum_cons
def Q9:=@List.mem_flatMap
def Ra:=@Option.bind_some
def Rb:=@PySem.codeAny_mono
def Rc:=@PySem.wpAny_Call_Name_kw
def Re:=@Option.isSome_iff_exists
def Rf:=@List.mem_of_getElem?
def Rg:=@Nat.le_of_not_lt
def Rh:=@PySem.Heap.size_push
def Ri:=@PySem.wpAny_attempt
def Rj:=@List.drop_eq_getElem_cons
def Rk:=@Array.toList_extract
def Rm:=@List.extract_eq_take_drop
def Ro:=@List.getElem?_drop
def Rp:=@Array.size_map
def Rq:=@List.zip_cons_cons
def Rr:=@Nat.lt_trans
def Rs:=@List.not_mem_nil
def Rt:=@List.length_filter_le
def Ru:=@PySem.tupleKind_room_in1
def Rv:=@PySem.Obj.isFreed_of_fields
def Rx:=@Classical.byContradiction
def Ry:=@Array.size_extract
def Rz:=@PySem.wpAny_dictEntries
def RA:=@PySem.Heap.SameBut.update
def RB:=@PySem.F.slot_dict_keyiterator_next
def RC:=@PySem.wpAny_setField
def RD:=@PySem.wpAny_askSetting
def RE:=@PySem.wpAny_updateSeq
def RF:=@PySem.wpAny_execs_nil
def RG:=@PyProof.Rows.callWith_type1
def RH:=@List.mem_filterMap
def RI:=@List.length_replicate
def RJ:=@List.length_drop
def RK:=@PySem.Heap.get?_update_other
def RL:=@List.pairwise_iff_getElem
def RM:=@List.take_append_drop
def RN:=@List.getElem?_take
def RP:=@List.mem_reverse
def RQ:=@List.length_nil
def RS:=@PySem.Obj.cls_mapFields
def RT:=@PySem.F.slot_list_getattribute
def RU:=@List.length_range
def RV:=@Array.getD_eq_getD_getElem?
def RX:=@List.filter_sublist
def RY:=@PySem.wpAny_typeNameOfWhole_keyiter
def RZ:=@PySem.wpAny_typeNameOf_keyiter
def R0:=@Array.getElem?_eq_none
def R5:=@PySem.wpAny_setState_of
def R6:=@List.length_range'
def R7:=@List.mem_map_of_mem
def R8:=@PySem.F.slot_list_extend
def R9:=@PySem.F.type_list_extend
def Sa:=@List.getElem?_replicate
def Sb:=@PySem.F.slot_tuple_add
def Sc:=@PySem.F.entry_tuple_add
def Sd:=@PySem.F.args_tuple_add_2
def Se:=@List.Perm.append_left
def Sf:=@List.getElem?_of_mem
def Sg:=@List.pairwise_reverse
def Sh:=@List.getD_eq_getElem?_getD
def Si:=@PySem.codeAny_call_builtin
def Sj:=@List.contains_iff_mem
def Sk:=@List.mem_erase_of_ne
def Sm:=@List.length_erase_of_mem
def Sn:=@PySem.wpAny_notOrdered_dict
def So:=@PySem.wpAny_isOneOf_keyiter
def Sq:=@Bool.and_eq_true_iff
def Sr:=@PyProof.Rows.F.plain_set_update_loop
namespace Hd
open PySem PySem.W PySem.Calls PyProof.Rows
noncomputable def F1 (stp:SharedT -> Thread -> Option (SharedT × Thread)) (ok:Thread -> Bool):Nat -> SharedT -> Thread -> Option SharedT
 | 0,_,_=>none
 | n + 1,s,t=>match through t with
  | true=>some s
  | false=>match ok t with
   | false=>none
   | true=>match stp s t with
    | some (s',t')=>F1 stp ok n s' t'
    | none=>none
theorem vQ {tb:String -> Option Builtin} {p:Program} {w:World} {n₀:Nat} {ann:Option Value}:∀ (n:Nat) (s:SharedT) (t:Thread) (r:SharedT),F1 (stepT (denote tb) p w) (stepOk n₀ ann) n s t = some r -> topRun tb p w n₀ ann n s.abs t = some r.abs
 | 0,_,_,_,h=>by cases h
 | n + 1,s,t,r,h=>by
  unfold F1 at h
  unfold topRun
  cases ht:through t with
  | true=>rw [ht] at h;cases h;rfl
  | false=>
   rw [ht] at h
   cases hk:stepOk n₀ ann t with
   | false=>rw [hk] at h;cases h
   | true=>
    rw [hk] at h
    cases hs:stepT (denote tb) p w s t with
    | none=>rw [hs] at h;cases h
    | some x=>
     obtain ⟨s',t'⟩:=x
     rw [hs] at h
     rw [stepT_spec hs]
     exact vQ n s' t' r h
noncomputable def Gz:List Obj -> Nat -> BT -> BT
 | [],_,t=>t
 | o :: l,n,t=>Gz l (n + 1) (t.ins n o)
noncomputable def T0 (P:Params):BT:=Gz (boot_heap P).objs.toList 0 .nil
theorem KO (P:Params):absHeap (T0 P) 11 (boot_heap P).life = boot_heap P:=by kernel_rfl
theorem sz (P:Params):((boot_heap P).isNs mainGlobals,(boot_heap P).objs.size,(boot_heap P).nsMap mainGlobals "__annotations__") = (true,11,some (.ref 6)):=by kernel_rfl
noncomputable def S0 (w:World) (os:OsState):SharedT:=⟨T0 w.params,11,(boot_heap w.params).life,Array.mk [],boot_drawn,boot_toks,os⟩
theorem Hy {p q:Program} {loose:List Str} {Xt:Shared -> Bool} {α:Type} {Yf:Shared -> α} {Ya:World -> α} {N M:Nat} {g0:Bool}
  (open_:∀ w:World,(fencedOpening treeTable p w N).map (fun s=>(s.heap,s.gens,s.drawn,s.toks)) = some (boot_heap w.params,Array.mk [],boot_drawn,boot_toks)) (le:Nat.ble M N = true)
  (big:∀ w:World,(fun os=>(F1 (stepT (denote treeTable) p w) (stepOk 11 (some (.ref 6))) M (S0 w os) (topStub p)).map fun r=>((staticsOk (importedModules p.main.body) (boot_heap w.params) r.abs.heap && namesBound p r.abs.heap && gensDone r.abs && laidKept (boot_heap w.params) r.abs.heap),
    openSeen q loose (importedModules p.main.body) Xt g0 r.abs,Yf r.abs)) = fun _=>some (true,openGood q loose,Ya w)):LeftO p q loose Xt Yf Ya N g0:=fun w=>by
 obtain ⟨⟨h,gs,d,k,os⟩,e,e'⟩:=Option.map_eq_some_iff.mp (open_ w)
 obtain ⟨rfl,rfl,rfl,rfl⟩:h = boot_heap w.params /\ gs = Array.mk [] /\ d = boot_drawn /\ k = boot_toks:=by simpa using e'
 obtain ⟨z1,z2,z3⟩:_ /\ _ /\ _:=by simpa only [Prod.mk.injEq] using sz w.params
 obtain ⟨r,hr,hb⟩:=Option.map_eq_some_iff.mp (congrFun (big w) os)
 obtain ⟨l1,l2,l3⟩:_ /\ _ /\ _:=by simpa only [Prod.mk.injEq] using hb
 have ha:(S0 w os).abs = ⟨boot_heap w.params,Array.mk [],boot_drawn,boot_toks,os⟩:=by
  unfold S0 SharedT.abs
  dsimp only
  rw [KO]
 have t:=topRun_mono (N - M) _ _ _ _ (vQ _ _ _ _ hr)
 rw [show M + (N - M) = N by have:=Nat.le_of_ble_eq_true le;lia,ha] at t
 have t2:topFrom treeTable p w N ⟨boot_heap w.params,Array.mk [],boot_drawn,boot_toks,os⟩ = some r.abs:=by
  unfold topFrom
  dsimp only
  rw [z1,z2,z3,t]
  show (match staticsOk (importedModules p.main.body) (boot_heap w.params) r.abs.heap && namesBound p r.abs.heap && gensDone r.abs && laidKept (boot_heap w.params) r.abs.heap with | true=>_ | false=>_) = _
  rw [l1]
 unfold openEnds
 rw [e]
 show (topFrom treeTable p w N _).map _ = _
 rw [t2]
 exact OZ some (Prod.ext l2 l3)
theorem Hz {p q:Program} {loose:List Str} {Xt:Shared -> Bool} {α:Type} {Yf:Shared -> α} {Ya:World -> α} {g0:Bool}
  (open_:∀ w:World,(fencedOpening treeTable p w 100000).map (fun s=>(s.heap,s.gens,s.drawn,s.toks)) = some (boot_heap w.params,Array.mk [],boot_drawn,boot_toks))
  (big:∀ w:World,(fun os=>(F1 (Fast.tw10156331382660048174 (Fast.tw11892475500146522536 Fast.tw14364793385576792824) p w) (Fast.tw6613529449190102663 11 (some (.ref 6))) 100000 (S0 w os) (topStub p)).map fun r=>((staticsOk (Fast.tw5923862056798008813 p.main.body) (boot_heap w.params) r.abs.heap && namesBound p r.abs.heap && gensDone r.abs && laidKept (boot_heap w.params) r.abs.heap),
    Fast.tw4187177175401517315 q loose (Fast.tw5923862056798008813 p.main.body) Xt g0 r.abs,Yf r.abs)) = fun _=>some (true,openGood q loose,Ya w)):LeftO p q loose Xt Yf Ya 100000 g0:=by
 rw [<- Fast.te10156331382660048174,<- Fast.te11892475500146522536,<- Fast.te14364793385576792824,<- Fast.te6613529449190102663,<- Fast.te5923862056798008813,<- Fast.te4187177175401517315] at big
 exact Hy open_ rfl big
theorem Ie {l:OpenLaw} (h:Fast.tw9446332074065402090 l = true):l.wellSaid = true:=by
 rw [Fast.te9446332074065402090]
 exact h
end Hd
set_option Elab.async false
section
open PySem PySem.W PyProof.Rows
noncomputable def Hd.q : Program := view PySem.Challenge.pw_shapethin_k53_thinned_cell_by_cell [1, 2, 4, 5, 7, 8, 9, 10, 11, 13, 14, 15, 16, 18, 20, 21, 22, 23, 25, 26, 27, 28, 29, 30, 31]
local macro_rules | `(tactic| o_head $_)=>`(tactic| assumption)
set_option maxHeartbeats 0 in
theorem Hd.e0 : PySem.Challenge.rw_shapethin_k53_thinned_cell_by_cell.row.Holds -> PySem.Challenge.rw_shapethin_k53_thinned_cell_by_cell.row.Holds := by intro h; w_on; k_head
noncomputable def Hd.as:List Addr:=(Hd.e0.heap_1 { strHash:=fun _=>0,shareClass:=fun _=>0,mergeTok:=id,idOf:=fun _=>0,idOfShared:=fun _ _=>0,followText:=fun _=>true,idOfImm:=fun _=>0 }).map (·.1)
theorem Hd.ae (P:Params):Hd.as = (Hd.e0.heap_1 P).map (·.1):=by kernel_rfl
noncomputable abbrev Hd.H:Hook:=kHook Hd.e0.heap_1 Hd.as Hd.ae
set_option maxHeartbeats 0 in
theorem Hd.e1 : LeftO PySem.Challenge.rw_shapethin_k53_thinned_cell_by_cell.row.prog Hd.q ["thinned"] (fun s => xlAt Hd.q [] s && recOk (RowW.records (OpenRow.toRowW (OpenLaw.row PySem.Challenge.rw_shapethin_k53_thinned_cell_by_cell))) s) (Hook.obs Hd.H) (Hook.val Hd.H) 100000 := Hd.Hz (boot_open (by rfl) rfl (fun s => rfl)) (by intro w; kernel_rfl)
set_option maxHeartbeats 0 in
theorem Hd.e2 : PySem.Challenge.rw_shapethin_k53_thinned_cell_by_cell.wellSaid = true := Hd.Ie (by kernel_rfl)
end
set_option Elab.async false
set_option linter.all false
set_option maxRecDepth 100000
namespace L2
open PySem PySem.Spec PyProof.Rows
noncomputable abbrev Key:=Sum Int Str
noncomputable def vn:Key -> Value -> Bool
 | .inl k,v=>Value.isInt k v
 | .inr x,v=>Value.isStrOf x v
noncomputable def Mu (w:World):Key -> Int
 | .inl k=>hashInt k
 | .inr x=>hashStr w x
theorem b9:∀ {k:Key} {v:Value},vn k v = true -> (∃ i t,k = Sum.inl i /\ v = Value.int i t) \/ (∃ x t,k = Sum.inr x /\ v = Value.str x t)
 | .inl i,v,h=>by
  obtain ⟨t,e⟩:=Value.isInt_shape (k:=i) (v:=v) h
  exact .inl ⟨i,t,rfl,e⟩
 | .inr x,v,h=>by
  obtain ⟨t,e⟩:=Value.isStrOf_shape (x:=x) (v:=v) h
  exact .inr ⟨x,t,rfl,e⟩
theorem Dr (i:Int) (t:Tok):vn (.inl i) (.int i t) = true:=by simp [vn,Value.isInt]
theorem Ds (x:Str) (t:Tok):vn (.inr x) (.str x t) = true:=by simp [vn,Value.isStrOf]
theorem JQ (a b:Int):decide ((Sum.inl a:Key) = Sum.inl b) = (a == b):=by
 by_cases e:a = b
 ·subst e;simp
 ·have h:¬ (Sum.inl a:Key) = Sum.inl b:=fun q=>e (Sum.inl.inj q)
  rw [Pf h]
  exact (beq_eq_false_iff_ne.mpr e).symm
theorem JT (a b:Str):decide ((Sum.inr a:Key) = Sum.inr b) = decide (a = b):=by
 by_cases e:a = b
 ·subst e;simp
 ·have h:¬ (Sum.inr a:Key) = Sum.inr b:=fun q=>e (Sum.inr.inj q)
  rw [Pf h,Pf e]
theorem JR (a:Int) (b:Str):decide ((Sum.inl a:Key) = Sum.inr b) = false:=Pf (fun q=>nomatch q)
theorem JS (a:Str) (b:Int):decide ((Sum.inr a:Key) = Sum.inl b) = false:=Pf (fun q=>nomatch q)
noncomputable def bp (prog:Program) (w:World):PySem.KeyKind prog w Key where
 is:=vn
 hash:=Mu w
 inj:=fun v a b ha hb=>by
  rcases b9 ha with ⟨i,t,rfl,rfl⟩ | ⟨x,t,rfl,rfl⟩
  ·rcases b9 hb with ⟨j,u,rfl,e⟩ | ⟨y,u,rfl,e⟩
   ·injection e with e1 _;rw [e1]
   ·exact nomatch e
  ·rcases b9 hb with ⟨j,u,rfl,e⟩ | ⟨y,u,rfl,e⟩
   ·exact nomatch e
   ·injection e with e1 _;rw [e1]
 byValue:=fun k v h=>by
  rcases b9 h with ⟨i,t,rfl,rfl⟩ | ⟨x,t,rfl,rfl⟩ <;> rfl
 pyHash:=fun hv h=>by
  rcases b9 hv with ⟨i,t,rfl,rfl⟩ | ⟨x,t,rfl,rfl⟩
  ·exact wpAny_pyHash_int h
  ·exact wpAny_pyHash_str h
 eqBool:=fun hu hv h=>by
  rcases b9 hu with ⟨i,t,rfl,rfl⟩ | ⟨x,t,rfl,rfl⟩
  ·rcases b9 hv with ⟨j,u,rfl,rfl⟩ | ⟨y,u,rfl,rfl⟩
   ·rw [JQ] at h;exact wpAny_eqBool_int h
   ·rw [JR] at h;exact SeqAt.EqAt.int_str i t y u _ _ _ _ h
  ·rcases b9 hv with ⟨j,u,rfl,rfl⟩ | ⟨y,u,rfl,rfl⟩
   ·rw [JS] at h;exact SeqAt.EqAt.str_int x t j u _ _ _ _ h
   ·rw [JT] at h;exact wpAny_eqBool_str h
 «strs»:=fun k x t v h=>by
  rcases b9 h with ⟨i,u,rfl,e⟩ | ⟨y,u,rfl,e⟩
  ·exact nomatch e
  ·injection e with e1 _
   subst e1
   cases v <;> rfl
theorem yO (prog:Program) (w:World) (i:Int) (t:Tok):(bp prog w).is (.inl i) (.int i t) = true:=Dr i t
theorem yP (prog:Program) (w:World) (x:Str) (t:Tok):(bp prog w).is (.inr x) (.str x t) = true:=Ds x t
inductive V where
 | non | bl (b:Bool) | int (i:Int) | str (x:Str) | byt (b:Array UInt8) | flt (b:UInt64) | ref (a:Addr) | ty (n:String)
 deriving DecidableEq
noncomputable def RelV:V -> Value -> Prop
 | .non,u=>u = Value.none
 | .bl b,u=>u = Value.bool b
 | .int i,u=>∃ t,u = Value.int i t
 | .str x,u=>∃ t,u = Value.str x t
 | .byt b,u=>∃ t,u = Value.bytes b t
 | .flt b,u=>∃ t,u = Value.float b t
 | .ref a,u=>u = Value.ref a
 | .ty n,u=>u = Value.type n
noncomputable abbrev Vals:List V -> List Value -> Prop:=Paired RelV
theorem Vals.length {xs:List V} {us:List Value} (r:Vals xs us):xs.length = us.length:=P7 r
theorem Vals.get:∀ {xs:List V} {us:List Value} {i:Nat} {x:V},Vals xs us -> xs[i]? = some x -> ∃ u,us[i]? = some u /\ RelV x u
 | _,_,_,_,.nil,e=>by simp at e
 | _,_,0,_,.cons r _,e=>by simp at e;subst e;exact ⟨_,rfl,r⟩
 | _,_,i + 1,x,.cons _ t,e=>by
  obtain ⟨u,h1,h2⟩:=Vals.get (i:=i) (x:=x) t (by simpa using e)
  exact ⟨u,by simpa using h1,h2⟩
theorem Vals.set {x:V} {u:Value} (r:RelV x u):∀ {xs:List V} {us:List Value} (i:Nat),Vals xs us -> Vals (xs.set i x) (us.set i u)
 | _,_,_,.nil=>.nil
 | _,_,0,.cons _ t=>.cons r t
 | _,_,i + 1,.cons q t=>.cons q (Vals.set r i t)
theorem Vals.append:∀ {xs ys:List V} {us ws:List Value},Vals xs us -> Vals ys ws -> Vals (xs ++ ys) (us ++ ws)
 | _,_,_,_,.nil,s=>s
 | _,_,_,_,.cons r t,s=>.cons r (Vals.append t s)
theorem Vals.take:∀ {xs:List V} {us:List Value} (n:Nat),Vals xs us -> Vals (xs.take n) (us.take n)
 | _,_,0,_=>.nil
 | _,_,_ + 1,.nil=>.nil
 | _,_,n + 1,.cons r t=>.cons r (Vals.take n t)
theorem Vals.drop:∀ {xs:List V} {us:List Value} (n:Nat),Vals xs us -> Vals (xs.drop n) (us.drop n)
 | _,_,0,r=>r
 | _,_,_ + 1,.nil=>.nil
 | _,_,n + 1,.cons _ t=>Vals.drop n t
noncomputable def RelO:Option V -> Option Value -> Prop
 | some v,some u=>RelV v u
 | none,none=>True
 | _,_=>False
noncomputable def KV {κ:Type}:List (κ × V) -> List (κ × Value) -> Prop:=Paired fun (p:κ × V) (q:κ × Value)=>p.1 = q.1 /\ RelV p.2 q.2
noncomputable def kV:Key -> V
 | .inl i=>.int i
 | .inr x=>.str x
inductive HO where
  | lst (xs:List V)
  | tup (xs:List V)
  | dK (kvs:List (Key × V)) | dT (kvs:List (List Key × V))
  | set (S:Int -> Bool) (n:Nat)
  | ins (C dx:Addr) (fs:List (Str × V))
  | own (x:Addr)
  | xd (fs:List (Str × V))
  | met (f x:Addr)
  | rng (lo hi:Int)
  | frz (o:Obj) (u:HO)
  | tbl (ps:Array Value)
  | ext (φ:Heap -> Prop)
noncomputable abbrev Hp:=Addr -> Option HO
noncomputable def upd (H:Hp) (a:Addr) (o:HO):Hp:=fun b=>if b = a then some o else H b
theorem aB {H:Hp} {a:Addr} {o:HO}:upd H a o a = some o:=by unfold upd;rw [OC rfl]
theorem aD {H:Hp} {a b:Addr} {o:HO} (h:b ≠ a):upd H a o b = H b:=by unfold upd;rw [OB h]
theorem CM {H:Hp} {a:Addr} {o u:HO}:upd (upd H a o) a u = upd H a u:=by
 funext b;unfold upd;split <;> rfl
theorem vA {H:Hp} {a b:Addr} {o u:HO} (h:H a = some o) (h':H b = some u) (d:o ≠ u):a ≠ b:=by
 intro e;subst e;rw [h] at h';exact d (Pj h')
theorem a7 {H:Hp} {a b:Addr} {o:HO} (h:H a = some o) (h':H b = none):a ≠ b:=by
 intro e;subst e;rw [h] at h';cases h'
section
variable (P:Program) (w:World)
noncomputable def ObjOk (H:Hp) (h:Heap) (a:Addr):HO -> Prop
 | .lst xs=>xs.length <= sizeLine /\ ∃ (its:List Value) (n:Nat),Vals xs its /\ h.get? a = some { cls:=.type "list",data:=.seq its.toArray n }
 | .tup xs=>xs.length <= sizeLine /\ ∃ its:List Value,Vals xs its /\ IsTup h a its.toArray
 | .dK kvs=>kvs.length <= sizeLine /\ (a == sysModules) = false /\ ∃ vs,KV kvs vs /\ h.DictOf (bp P w) a vs
 | .dT kvs=>kvs.length <= sizeLine /\ (a == sysModules) = false /\ ∃ xs:List (List Key × Addr × Value),
   Paired (fun (p:List Key × V) (q:List Key × Addr × Value)=>p.1 = q.1 /\ H q.2.1 = some (.tup (p.1.map kV)) /\ RelV p.2 q.2.2) kvs xs /\
   ∃ o es ep,h.get? a = some o /\ o.ExactDict /\ o.data = .dict es ep /\ es.toList = xs.map (entryOfKey (tupleKind (bp P w))) /\ (xs.map (·.1)).Nodup
 | .set S n=>h.SetOf (intKind P w) a S n
 | .ins C dx fs=>H dx = some (.own a) /\ fs.length <= 1000 /\ dx ≠ a /\ h.get? a = some (W.instObj C dx) /\
   ∃ mA,h.Ns1 dx mA /\ (∀ f,RelO (fs.lookup f) (mA f)) /\ PySem.Within mA (fs.map (·.1))
 | .own _=>∃ o,h.get? a = some o
 | .xd fs=>∃ mA,h.Ns1 a mA /\ ∀ f,RelO (fs.lookup f) (mA f)
 | .rng lo hi=>∃ t u v,h.get? a = some { cls:=.type "range",data:=.fields #[.int lo t,.int hi u,.int 1 v] }
 | .frz o u=>h.get? a = some o /\ ObjOk H h a u
 | .tbl ps=>h.get? a = some { cls:=.none,data:=.fields ps }
 | .met f x=>h.get? a = some (W.methodObj (.ref f) (.ref x))
 | .ext φ=>φ h /\ (∃ o,h.get? a = some o) /\ ∀ h1 h2:Heap,φ h1 -> (∀ o,h1.get? a = some o -> h2.get? a = some o) -> φ h2
def HOk (H:Hp) (h:Heap):Prop:=∀ a o,H a = some o -> ObjOk P w H h a o
end
section
variable {P:Program} {w:World} {H H':Hp} {h h':Heap} {a:Addr} {o:HO}
theorem ObjOk.lt (x:ObjOk P w H h a o):a < h.objs.size:=by
 cases o with
 | lst xs=>obtain ⟨_,_,_,_,e⟩:=x;exact OS e
 | tup xs=>obtain ⟨_,_,_,p⟩:=x;exact p.lt
 | dK kvs=>obtain ⟨_,_,_,_,o,_,_,e,_⟩:=x;exact OS e
 | dT kvs=>obtain ⟨_,_,_,_,o,_,_,e,_⟩:=x;exact OS e
 | set S n=>obtain ⟨o,_,_,_,e,_⟩:=x;exact OS e
 | ins C dx fs=>obtain ⟨_,_,_,e,_⟩:=x;exact OS e
 | own y=>obtain ⟨_,e⟩:=x;exact OS e
 | xd fs=>obtain ⟨_,⟨_,_,_,e,_⟩,_⟩:=x;exact OS e
 | rng lo hi=>obtain ⟨_,_,_,e⟩:=x;exact OS e
 | frz ob u=>obtain ⟨e,_⟩:=x;exact OS e
 | tbl ps=>exact OS (show h.get? a = some _ from x)
 | met f y=>exact OS (show h.get? a = some _ from x)
 | ext φ=>obtain ⟨_,⟨_,e⟩,_⟩:=x;exact OS e
theorem Paired.mapP {α β:Type} {F G:α -> β -> Prop}:∀ {l₁:List α} {l₂:List β},Paired F l₁ l₂ -> (∀ a b,F a b -> G a b) -> Paired G l₁ l₂
 | _,_,.nil,_=>.nil
 | _,_,.cons r t,f=>.cons (f _ _ r) (Paired.mapP t f)
theorem ObjOk.stay (x:ObjOk P w H h a o) (k:∀ b u,(b = a \/ H b = some (.own a)) -> h.get? b = some u -> h'.get? b = some u)
  (ho:∀ b,H b = some (.own a) -> H' b = some (.own a)) (ht:∀ b xs,H b = some (.tup xs) -> H' b = some (.tup xs)):ObjOk P w H' h' a o:=by
 induction o with
 | lst xs=>obtain ⟨z,its,n,r,e⟩:=x;exact ⟨z,its,n,r,k _ _ (.inl rfl) e⟩
 | tup xs=>obtain ⟨z,its,r,ob,e,c⟩:=x;exact ⟨z,its,r,ob,k _ _ (.inl rfl) e,c⟩
 | dK kvs=>obtain ⟨z,y,vs,r,ob,es,ep,e,c⟩:=x;exact ⟨z,y,vs,r,ob,es,ep,k _ _ (.inl rfl) e,c⟩
 | dT kvs=>
  obtain ⟨z,y,xs,r,ob,es,ep,e,c⟩:=x
  exact ⟨z,y,xs,Paired.mapP r fun p q z=>⟨z.1,ht _ _ z.2.1,z.2.2⟩,ob,es,ep,k _ _ (.inl rfl) e,c⟩
 | set S n=>obtain ⟨ob,es,ep,t,e,c⟩:=x;exact ⟨ob,es,ep,t,k _ _ (.inl rfl) e,c⟩
 | ins C dx fs=>
  obtain ⟨d,z,ne,e,mA,⟨od,es,ep,e2,c⟩,r⟩:=x
  exact ⟨ho _ d,z,ne,k _ _ (.inl rfl) e,mA,⟨od,es,ep,k _ _ (.inr d) e2,c⟩,r⟩
 | own y=>obtain ⟨ob,e⟩:=x;exact ⟨ob,k _ _ (.inl rfl) e⟩
 | xd fs=>obtain ⟨mA,⟨od,es,ep,e,c⟩,r⟩:=x;exact ⟨mA,⟨od,es,ep,k _ _ (.inl rfl) e,c⟩,r⟩
 | rng lo hi=>obtain ⟨t,u,v,e⟩:=x;exact ⟨t,u,v,k _ _ (.inl rfl) e⟩
 | frz ob u ih=>obtain ⟨e,q⟩:=x;exact ⟨k _ _ (.inl rfl) e,ih q⟩
 | tbl ps=>
  have e:h.get? a = some { cls:=.none,data:=.fields ps }:=x
  show h'.get? a = some { cls:=.none,data:=.fields ps }
  exact k a _ (.inl rfl) e
 | met f y=>
  have e:h.get? a = some (W.methodObj (.ref f) (.ref y)):=x
  show h'.get? a = some (W.methodObj (.ref f) (.ref y))
  exact k a _ (.inl rfl) e
 | ext φ=>obtain ⟨p,⟨o,e⟩,st⟩:=x;exact ⟨st _ _ p fun o q=>k _ _ (.inl rfl) q,⟨o,k _ _ (.inl rfl) e⟩,st⟩
theorem HOk.lt (x:HOk P w H h) (e:H a = some o):a < h.objs.size:=(x a o e).lt
theorem HOk.fresh (x:HOk P w H h) (e:h.objs.size <= a):H a = none:=by
 cases q:H a with
 | none=>rfl
 | some u=>exact absurd (Pa (x.lt q) e) (Qy _)
theorem HOk.kept (x:HOk P w H h) (k:∀ b u,h.get? b = some u -> h'.get? b = some u):HOk P w H h':=fun a o e=>
 (x a o e).stay (fun b u _ q=>k b u q) (fun _ q=>q) fun _ _ q=>q
theorem HOk.laid (x:HOk P w H h) (k:∀ b u,h.get? b = some u -> h'.get? b = some u) (hp:h.objs.size <= a) (new:ObjOk P w (upd H a o) h' a o):HOk P w (upd H a o) h':=fun b u e=>by
 have hn:=x.fresh hp
 by_cases hb:b = a
 ·subst hb;rw [aB] at e;cases e;exact new
 ·rw [aD hb] at e
  exact (x b u e).stay (fun c v _ q=>k c v q) (fun c q=>by rw [aD (a7 q hn)];exact q) fun c xs q=>by rw [aD (a7 q hn)];exact q
end
def Rd (H:Hp) (a:Addr) (u:HO):Prop:=H a = some u \/ ∃ o,H a = some (.frz o u)
theorem Rd.ok {P:Program} {w:World} {H:Hp} {h:Heap} {a:Addr} {u:HO} (r:Rd H a u) (x:HOk P w H h):ObjOk P w H h a u:=by
 rcases r with r | ⟨o,r⟩
 ·exact x a u r
 ·obtain ⟨_,q⟩:=x a _ r
  exact q
noncomputable def Mut:Option HO -> Prop
 | some (.lst _)=>True
 | some (.dK _)=>True
 | some (.dT _)=>True
 | some (.set _ _)=>True
 | some (.ins _ _ _)=>True
 | some (.ext _)=>True
 | _=>False
section
variable {P:Program} {w:World} {H:Hp} {h h':Heap} {x e:Addr} {o':HO}
theorem HOk.write (ok:HOk P w H h) (mu:Mut (H x)) (he:e = x \/ H e = some (.own x)) (k:∀ b u,b ≠ e -> h.get? b = some u -> h'.get? b = some u) (heo:∃ u,h'.get? e = some u)
  (new:ObjOk P w (upd H x o') h' x o'):HOk P w (upd H x o') h':=fun b u q=>by
 have nown:∀ c y,H c = some (.own y) -> c ≠ x:=fun c y r z=>by subst z;rw [r] at mu;exact mu
 have ntup:∀ c xs,H c = some (.tup xs) -> c ≠ x:=fun c xs r z=>by subst z;rw [r] at mu;exact mu
 by_cases hb:b = x
 ·subst hb;rw [aB] at q;cases q;exact new
 ·rw [aD hb] at q
  by_cases hbe:b = e
  ·have q':H b = some (.own x):=by
    rcases he with z | z
    ·exact absurd (hbe.trans z) hb
    ·rw [hbe];exact z
   rw [q] at q';cases q'
   obtain ⟨v,hv⟩:=heo
   exact ⟨v,by rw [hbe];exact hv⟩
  ·refine (ok b u q).stay (fun c v hc r=>k c v ?_ r) (fun c r=>by rw [aD (nown c b r)];exact r) fun c xs r=>by rw [aD (ntup c xs r)];exact r
   rcases hc with rfl | hc
   ·exact hbe
   ·rintro rfl
    rcases he with z | z
    ·exact nown c b hc z
    ·rw [hc] at z;cases z;exact hb rfl
end
structure Un (fs ex:List Addr) (H H':Hp) (h h':Heap):Prop where
 keep:∀ b o,h.get? b = some o -> H b = none -> b ∉ fs -> b ∉ ex -> h'.get? b = some o
 slot:∀ b o,h.get? b = some o -> H b = none -> b ∈ fs -> b ∉ ex -> ∃ sl,h'.get? b = some { o with slots:=sl }
 free:∀ b o,h.get? b = some o -> H b = none -> b ∉ ex -> H' b = none
 there:∀ b o,h.get? b = some o -> b ∉ ex -> ∃ o',h'.get? b = some o'
 tups:∀ b xs,H b = some (.tup xs) -> H' b = some (.tup xs)
 frzs:∀ b o u,H b = some (.frz o u) -> H' b = some (.frz o u)
 tbls:∀ b ps,H b = some (.tbl ps) -> ∃ more,H' b = some (.tbl (ps ++ more))
section
variable {fs fs' ex ex':List Addr} {H H1 H2:Hp} {h h1 h2 h':Heap} {a x e:Addr} {o:HO}
theorem Un.any (u:Un fs ex H H1 h h1) {b:Addr} {ob:Obj} (q:h.get? b = some ob) (n:H b = none) (hx:b ∉ ex):∃ sl,h1.get? b = some { ob with slots:=sl }:=by
 by_cases hb:b ∈ fs
 ·exact u.slot b ob q n hb hx
 ·exact ⟨ob.slots,u.keep b ob q n hb hx⟩
theorem Un.trans (a:Un fs ex H H1 h h1) (b:Un fs ex H1 H2 h1 h2):Un fs ex H H2 h h2 where
 keep:=fun c ob q n hc hx=>b.keep c ob (a.keep c ob q n hc hx) (a.free c ob q n hx) hc hx
 slot:=fun c ob q n hc hx=>by
  obtain ⟨sl,e1⟩:=a.slot c ob q n hc hx
  obtain ⟨sl',e2⟩:=b.slot c _ e1 (a.free c ob q n hx) hc hx
  exact ⟨sl',e2⟩
 free:=fun c ob q n hx=>by
  obtain ⟨o',e1⟩:=a.there c ob q hx
  exact b.free c o' e1 (a.free c ob q n hx) hx
 there:=fun c ob q hx=>by
  obtain ⟨o',e1⟩:=a.there c ob q hx
  exact b.there c o' e1 hx
 tups:=fun c xs q=>b.tups c xs (a.tups c xs q)
 frzs:=fun c ob xs q=>b.frzs c ob xs (a.frzs c ob xs q)
 tbls:=fun c ps q=>by
  obtain ⟨m1,e1⟩:=a.tbls c ps q
  obtain ⟨m2,e2⟩:=b.tbls c _ e1
  exact ⟨m1 ++ m2,by rw [e2,Array.append_assoc]⟩
theorem Un.kept (k:∀ b u,h.get? b = some u -> h'.get? b = some u):Un fs ex H H h h':=
 ⟨fun b ob q _ _ _=>k b ob q,fun b ob q _ _ _=>⟨ob.slots,k b ob q⟩,fun _ _ _ n _=>n,fun b ob q _=>⟨ob,k b ob q⟩,fun _ _ q=>q,fun _ _ _ q=>q,fun _ ps q=>⟨#[],by rw [q];simp⟩⟩
theorem Un.refl:Un fs ex H H h h:=Un.kept fun _ _ q=>q
theorem Un.laid (k:∀ b u,h.get? b = some u -> h'.get? b = some u) (hp:h.objs.size <= a) (hn:H a = none):Un fs ex H (upd H a o) h h' where
 keep:=fun b u q _ _ _=>k b u q
 slot:=fun b u q _ _ _=>⟨u.slots,k b u q⟩
 free:=fun b u q n _=>by rw [aD (OX (Pa (OS q) hp))];exact n
 there:=fun b u q _=>⟨u,k b u q⟩
 tups:=fun b xs q=>by rw [aD (a7 q hn)];exact q
 frzs:=fun b u xs q=>by rw [aD (a7 q hn)];exact q
 tbls:=fun b ps q=>⟨#[],by rw [aD (a7 q hn),q];simp⟩
theorem Un.write (mu:Mut (H x)) (he:e = x \/ H e = some (.own x)) (k:∀ b u,b ≠ e -> h.get? b = some u -> h'.get? b = some u) (heo:∃ u,h'.get? e = some u):Un fs ex H (upd H x o) h h':=by
 have hx:∀ b,H b = none -> b ≠ x:=fun b n z=>by subst z;rw [n] at mu;exact mu
 have hb:∀ b,H b = none -> b ≠ e:=fun b n z=>by
  subst z
  rcases he with r | r
  ·exact hx b n r
  ·rw [n] at r;cases r
 have hm:∀ b u,H b = some u -> ¬ Mut (some u) -> b ≠ x:=fun b u q nm z=>by subst z;rw [q] at mu;exact nm mu
 refine ⟨fun b u q n _ _=>k b u (hb b n) q,fun b u q n _ _=>⟨u.slots,k b u (hb b n) q⟩,fun b u q n _=>by rw [aD (hx b n)];exact n,fun b u q _=>?_,
  fun b xs q=>by rw [aD (hm b _ q fun z=>z)];exact q,fun b u xs q=>by rw [aD (hm b _ q fun z=>z)];exact q,fun b ps q=>⟨#[],by rw [aD (hm b _ q fun z=>z),q];simp⟩⟩
 by_cases hbe:b = e
 ·subst hbe;exact heo
 ·exact ⟨u,k b u hbe q⟩
end
noncomputable def trk (h:Heap) (H:Hp):List Addr:=(List.range h.objs.size).filter fun a=>(H a).isSome
noncomputable def wO (h:Heap) (H:Hp):Heap:=W.hideAll h (trk h H)
theorem Di (h:Heap) (H:Hp):(wO h H).objs.size = h.objs.size:=W.hideAll_size _ _
theorem ET {h:Heap} {H:Hp} {b:Addr} {o:Obj} (e:h.get? b = some o) (n:H b = none):(wO h H).get? b = some o:=
 W.hideAll_get _ e fun hm=>by
  have q:(H b).isSome = true:=(Po.mp hm).2
  rw [n] at q;simp at q
theorem HG {h:Heap} {H:Hp} {b:Addr} {o:Obj} (e:(wO h H).get? b = some o):h.get? b = some o /\ H b = none:=by
 have e':h.get? b = some o:=W.of_hideAll (trk h H) e
 refine ⟨e',?_⟩
 cases q:H b with
 | none=>rfl
 | some x=>
  have hm:b ∈ trk h H:=Po.mpr ⟨P8.mpr (OS e'),by simp [q]⟩
  have z:(wO h H).get? b = none:=W.hideAll_none (trk h H) hm
  rw [z] at e;cases e
noncomputable def GY (g h:Heap) (L:Addr):List (Addr × Obj):=(List.range h.objs.size).filterMap fun a=>if a = L \/ (g.get? a).isSome = true then none else (h.get? a).map fun o=>(a,o)
noncomputable def fj (g h:Heap) (L d:Addr):List (Addr × Obj):=(GY g h L).filter fun p=>decide (p.1 ≠ d)
structure Mod (K:W.Frag) (mg:Str -> Option Value) (base:Heap):Prop where
 kin:K.In base
 glob:base.Ns mainGlobals mg
 blt:∃ mb,base.Ns builtinsNs mb /\ ∀ x:Str,x ≠ "__name__" -> mb x = bootBuiltins x
 nolimit:base.NoLimit
structure Cx where
 prog:Program
 w:World
 K:W.Frag
 mg:Str -> Option Value
 base:Heap
 A:Around
 N:List Str
 s₀:Shared
 H₀:Hp
 env:Env
 outer:List Env
 stack:List Env
 ex:List Addr
 fn:Str -> Bool
 calm:Bool
 pn:List (Addr × Obj)
 xe:Value -> Shared -> Prop
noncomputable def frs (l:List Env):List Addr:=l.filterMap (·.frame)
noncomputable abbrev Cx.fs (X:Cx):List Addr:=frs X.outer
def Vis (sc:Scope) (x:Str):Prop:=sc.names.lookup x = some .local \/ sc.names.lookup x = some .cell \/ sc.names.lookup x = some .free
def Loc (sc:Scope) (x:Str):Prop:=sc.names.lookup x = some .local \/ sc.names.lookup x = some .cell
def Ml (env:Env) (h:Heap) (m:Str -> Option Value) (x:Str) (u:Value):Prop:=
 (env.kindOf x = some .local /\ m x = some u) \/ ((env.kindOf x = some .cell \/ env.kindOf x = some .free) /\ ∃ c,env.cells.lookup x = some c /\ h.IsCell c (some u))
structure Cx.Ok (X:Cx):Prop where
 mod:Mod X.K X.mg X.base
 kind:X.env.scope.kind = .function
 glob:X.env.globals = mainGlobals
 blt:X.env.builtins = builtinsNs
 above:X.s₀.heap.objs.size <= X.env.locals
 inj:∀ x y c,X.env.cells.lookup x = some c -> X.env.cells.lookup y = some c -> x = y
 has:∀ x,(X.env.kindOf x = some .cell \/ X.env.kindOf x = some .free) -> ∃ c,X.env.cells.lookup x = some c
 cab:∀ x c,X.fn x = true -> X.env.cells.lookup x = some c -> X.s₀.heap.objs.size <= c
 hd:X.calm = true -> X.A.handled = none
 frames:X.A.frames = some X.stack
 stk:X.stack = X.outer \/ (X.stack = X.env :: X.outer /\ X.env.frame = some X.env.locals)
 exf:∀ b ∈ X.ex,b ≠ X.env.locals /\ ∀ x c,X.env.cells.lookup x = some c -> c ≠ b
 bs:∀ b o,X.base.get? b = some o -> X.s₀.heap.get? b = some o /\ X.H₀ b = none
 bsz:X.base.objs.size <= X.s₀.heap.objs.size
 noex:∀ b o,X.base.get? b = some o -> b ∉ X.ex
 exfs:∀ b ∈ X.ex,b ∉ X.fs
 funs:X.s₀.heap.FunFrames X.base X.outer
 frf:∀ b ∈ X.fs,X.H₀ b = none
structure Inv (X:Cx) (pins:List (Addr × Obj)) (σ:List (Option V)) (H:Hp) (s:Shared):Prop where
 ok:X.Ok
 os:s.os = X.s₀.os
 bare:AllBare s.gens
 base:Un X.fs X.ex X.H₀ H X.s₀.heap s.heap
 loc:∃ m,s.heap.Ns X.env.locals m /\ ∀ (i:Nat) (x:Str) (v:V),X.N[i]? = some x -> σ[i]? = some (some v) -> Vis X.env.scope x -> ∃ u,RelV v u /\ Ml X.env s.heap m x u
 cell:∀ x c,X.env.cells.lookup x = some c -> ∃ v,s.heap.IsCell c v
 free:H X.env.locals = none
 freeC:∀ x c,X.env.cells.lookup x = some c -> H c = none
 pin:∀ p ∈ X.pn ++ pins,s.heap.get? p.1 = some p.2 /\ H p.1 = none /\ p.1 ≠ X.env.locals /\ p.1 ∉ X.fs /\ ∀ v,p.2.data ≠ .cell v
 hok:HOk X.prog X.w H s.heap
 len:σ.length = X.N.length
section
variable {X:Cx} {pins:List (Addr × Obj)} {σ:List (Option V)} {H H':Hp} {s:Shared} {h':Heap}
theorem Cx.Ok.nofr (ok:X.Ok) {b:Addr} {o:Obj} (e:X.base.get? b = some o):b ∉ X.fs:=fun hb=>by
 have:=(ok.funs.mem hb).1
 rw [e] at this;cases this
theorem Inv.bs (I:Inv X pins σ H s):∀ b o,X.base.get? b = some o -> s.heap.get? b = some o /\ H b = none:=fun b o e=>
 ⟨I.base.keep b o (I.ok.bs b o e).1 (I.ok.bs b o e).2 (I.ok.nofr e) (I.ok.noex b o e),I.base.free b o (I.ok.bs b o e).1 (I.ok.bs b o e).2 (I.ok.noex b o e)⟩
theorem Inv.bk (I:Inv X pins σ H s):∀ b o,X.base.get? b = some o -> s.heap.get? b = some o:=fun b o e=>(I.bs b o e).1
theorem Inv.mod (I:Inv X pins σ H s):Mod X.K X.mg X.base:=I.ok.mod
theorem Inv.kIn (I:Inv X pins σ H s):X.K.In s.heap:=I.ok.mod.kin.keeps I.bk
theorem Inv.fr (I:Inv X pins σ H s):∃ m,Fr X.base X.env.locals s.heap m:=
 let ⟨m,hn,_⟩:=I.loc
 ⟨m,hn,I.bk,OW I.ok.bsz I.ok.above⟩
theorem Inv.lt (I:Inv X pins σ H s):X.env.locals < s.heap.objs.size:=let ⟨_,hn,_⟩:=I.loc;hn.lt
theorem Inv.sz (I:Inv X pins σ H s):X.s₀.heap.objs.size <= s.heap.objs.size:=OW I.ok.above (Pk I.lt)
theorem Inv.nofs (I:Inv X pins σ H s) {a:Addr} (h:s.heap.objs.size <= a):a ∉ X.fs:=fun hb=>by
 obtain ⟨_,o,ho,_⟩:=I.ok.funs.mem hb
 exact absurd (Pa (OS ho) (OW I.sz h)) (Qy _)
theorem Inv.cne (I:Inv X pins σ H s):∀ x c,X.env.cells.lookup x = some c -> c ≠ X.env.locals:=fun x c e z=>by
 obtain ⟨v,o,ho,hd⟩:=I.cell x c e
 obtain ⟨m,⟨o',es,ep,ho',hd',_⟩,_⟩:=I.loc
 rw [z,ho'] at ho;cases ho;rw [hd'] at hd;cases hd
theorem Inv.funs (I:Inv X pins σ H s):s.heap.FunFrames X.base X.outer:=by
 have all:∀ (l:List Env),(∀ b ∈ frs l,b ∈ X.fs) -> X.s₀.heap.FunFrames X.base l -> s.heap.FunFrames X.base l:=by
  intro l
  induction l with
  | nil=>intro _ _;trivial
  | cons env r ih=>
   intro hs hl
   obtain ⟨hk,⟨L,o,hf,hn,ho,hd⟩,hr⟩:=hl
   have hL:L ∈ X.fs:=hs L (by unfold frs;rw [Pc,hf];exact OI)
   obtain ⟨sl,e⟩:=I.base.slot L o ho (I.ok.frf L hL) hL fun z=>I.ok.exfs L z hL
   exact ⟨hk,⟨L,_,hf,hn,e,hd⟩,ih (fun b hb=>hs b (by unfold frs;rw [Pc,hf];exact OK _ hb)) hr⟩
 exact all X.outer (fun _ hb=>hb) I.ok.funs
theorem Inv.stack (I:Inv X pins σ H s):s.heap.FunFrames X.base X.stack:=by
 rcases I.ok.stk with e | ⟨e,hf⟩
 ·rw [e];exact I.funs
 ·rw [e]
  obtain ⟨m,hn,_⟩:=I.loc
  refine .cons (by rw [I.ok.kind];decide) hf hn ?_ I.funs
  exact Heap.get?_none_of_le (OW I.ok.bsz I.ok.above)
theorem Inv.stkSub (I:Inv X pins σ H s):∀ b ∈ frs X.stack,b ∈ X.env.locals :: X.fs:=fun b hb=>by
 rcases I.ok.stk with e | ⟨e,hf⟩
 ·rw [e] at hb;exact OK _ hb
 ·rw [e] at hb
  unfold frs at hb
  rw [Pc,hf] at hb
  exact hb
theorem Inv.stkFree (I:Inv X pins σ H s):∀ b ∈ frs X.stack,H b = none:=fun b hb=>by
 rcases OP.mp (I.stkSub b hb) with e | hb
 ·rw [e];exact I.free
 ·obtain ⟨_,o,ho,_⟩:=I.ok.funs.mem hb
  exact I.base.free b o ho (I.ok.frf b hb) fun z=>I.ok.exfs b z hb
theorem Inv.step {g':Array GenState} {t':Nat} {d':Drawn} {ch:List Addr} (I:Inv X pins σ H s)
  (hch:∀ b ∈ ch,(b ∈ X.ex \/ X.s₀.heap.objs.size <= b) /\ b ≠ X.env.locals /\ (∀ x c,X.env.cells.lookup x = some c -> c ≠ b) /\ ∀ p ∈ X.pn ++ pins,p.1 ≠ b)
  (keep:∀ b o,b ≠ X.env.locals -> b ∉ X.fs -> b ∉ ch -> s.heap.get? b = some o -> H b = none -> h'.get? b = some o)
  (slot:∀ b o,b ≠ X.env.locals -> b ∈ X.fs -> b ∉ ch -> s.heap.get? b = some o -> H b = none -> ∃ sl,h'.get? b = some { o with slots:=sl }) (free:∀ b o,b ∉ ch -> s.heap.get? b = some o -> H b = none -> H' b = none)
  (there:∀ b o,b ∉ ch -> s.heap.get? b = some o -> ∃ o',h'.get? b = some o')
  (tups:∀ b xs,H b = some (.tup xs) -> H' b = some (.tup xs)) (frzs:∀ b o u,H b = some (.frz o u) -> H' b = some (.frz o u)) (tbls:∀ b ps,H b = some (.tbl ps) -> ∃ more,H' b = some (.tbl (ps ++ more)))
  (ns:∀ m,s.heap.Ns X.env.locals m -> h'.Ns X.env.locals m) (hok:HOk X.prog X.w H' h') (hg:AllBare g') :
  Inv X pins σ H' { s with heap:=h',gens:=g',drawn:=d',toks:=t' }:=by
 have neL:∀ b o,X.s₀.heap.get? b = some o -> b ≠ X.env.locals:=fun b o e=>OX (Pa (OS e) I.ok.above)
 have neC:∀ b o,X.s₀.heap.get? b = some o -> b ∉ X.ex -> b ∉ ch:=fun b o e hx hb=>by
  rcases (hch b hb).1 with z | z
  ·exact hx z
  ·exact absurd (Pa (OS e) z) (Qy _)
 have cellK:∀ x c,X.env.cells.lookup x = some c -> ∀ v,s.heap.IsCell c v -> h'.IsCell c v:=fun x c e v hpt0=>by
  obtain ⟨o,ho,hd⟩:=hpt0
  have nch:c ∉ ch:=fun z=>(hch c z).2.2.1 x c e rfl
  by_cases hc:c ∈ X.fs
  ·obtain ⟨sl,q⟩:=slot c o (I.cne x c e) hc nch ho (I.freeC x c e)
   exact ⟨_,q,hd⟩
  ·exact ⟨o,keep c o (I.cne x c e) hc nch ho (I.freeC x c e),hd⟩
 refine ⟨I.ok,I.os,hg,⟨fun b o e n hb hx=>?_,fun b o e n hb hx=>?_,fun b o e n hx=>?_,fun b o e hx=>?_,fun b xs e=>tups b xs (I.base.tups b xs e),fun b o xs e=>frzs b o xs (I.base.frzs b o xs e),fun b ps e=>?_⟩,?_,fun x c e=>?_,?_,fun x c e=>?_,fun p hp=>?_,hok,I.len⟩
 ·exact keep b o (neL b o e) hb (neC b o e hx) (I.base.keep b o e n hb hx) (I.base.free b o e n hx)
 ·obtain ⟨sl,e1⟩:=I.base.slot b o e n hb hx
  obtain ⟨sl',e2⟩:=slot b _ (neL b o e) hb (neC b o e hx) e1 (I.base.free b o e n hx)
  exact ⟨sl',e2⟩
 ·obtain ⟨o',e1⟩:=I.base.there b o e hx
  exact free b o' (neC b o e hx) e1 (I.base.free b o e n hx)
 ·obtain ⟨o',e1⟩:=I.base.there b o e hx
  exact there b o' (neC b o e hx) e1
 ·obtain ⟨m1,e1⟩:=I.base.tbls b ps e
  obtain ⟨m2,e2⟩:=tbls b _ e1
  exact ⟨m1 ++ m2,by rw [e2,Array.append_assoc]⟩
 ·obtain ⟨m,hn,hl⟩:=I.loc
  refine ⟨m,ns m hn,fun i x v e1 e2 e3=>?_⟩
  obtain ⟨u,r,l⟩:=hl i x v e1 e2 e3
  refine ⟨u,r,?_⟩
  rcases l with l | ⟨k,c,e,z⟩
  ·exact .inl l
  ·exact .inr ⟨k,c,e,cellK x c e _ z⟩
 ·obtain ⟨v,z⟩:=I.cell x c e
  exact ⟨v,cellK x c e v z⟩
 ·obtain ⟨m,⟨o,_,_,ho,_⟩,_⟩:=I.loc
  exact free _ o (fun z=>(hch _ z).2.1 rfl) ho I.free
 ·obtain ⟨v,o,ho,hd⟩:=I.cell x c e
  exact free c o (fun z=>(hch c z).2.2.1 x c e rfl) ho (I.freeC x c e)
 ·obtain ⟨e,n,ne,nf,d⟩:=I.pin p hp
  have nch:p.1 ∉ ch:=fun z=>(hch p.1 z).2.2.2 p hp rfl
  exact ⟨keep p.1 p.2 ne nf nch e n,free p.1 p.2 nch e n,ne,nf,d⟩
theorem Inv.un {t':Nat} (I:Inv X pins σ H s) (u:Un X.fs [] H H' s.heap h') (hok:HOk X.prog X.w H' h'):Inv X pins σ H' { s with heap:=h',toks:=t' }:=by
 obtain ⟨m,⟨o,es,ep,ho,r⟩,_⟩:=id I.loc
 obtain ⟨sl,hL⟩:=u.any ho I.free (by simp)
 exact I.step (g':=s.gens) (d':=s.drawn) (ch:=[]) (fun _ z=>nomatch z) (fun b o _ hb _ e n=>u.keep b o e n hb (by simp)) (fun b o _ hb _ e n=>u.slot b o e n hb (by simp)) (fun b o _ e n=>u.free b o e n (by simp)) (fun b o _ e=>u.there b o e (by simp)) u.tups u.frzs u.tbls (fun m' hm=>by
  obtain ⟨o',es',ep',ho',r'⟩:=hm
  rw [ho] at ho';cases ho'
  exact ⟨_,es',ep',hL,r'⟩) hok I.bare
theorem Inv.call {g':Array GenState} {t':Nat} {d':Drawn} {ch:List Addr} (I:Inv X pins σ H s) (u:Un (frs X.stack) ch H H' s.heap h') (hok:HOk X.prog X.w H' h') (hg:AllBare g')
  (hch:∀ b ∈ ch,(b ∈ X.ex \/ X.s₀.heap.objs.size <= b) /\ b ≠ X.env.locals /\ (∀ x c,X.env.cells.lookup x = some c -> c ≠ b) /\ ∀ p ∈ X.pn ++ pins,p.1 ≠ b) :
  Inv X pins σ H' { s with heap:=h',gens:=g',drawn:=d',toks:=t' }:=by
 obtain ⟨m,⟨o,es,ep,ho,r⟩,_⟩:=id I.loc
 obtain ⟨sl,hL⟩:=u.any ho I.free fun z=>(hch _ z).2.1 rfl
 exact I.step (ch:=ch) hch (fun b o hL hb hc e n=>u.keep b o e n (fun z=>(OP.mp (I.stkSub b z)).elim hL hb) hc) (fun b o _ _ hc e n=>u.any e n hc) (fun b o hc e n=>u.free b o e n hc) (fun b o hc e=>u.there b o e hc) u.tups u.frzs u.tbls (fun m' hm=>by
  obtain ⟨o',es',ep',ho',r'⟩:=hm
  rw [ho] at ho';cases ho'
  exact ⟨_,es',ep',hL,r'⟩) hok hg
theorem Inv.turned {t':Nat} {it:Addr} (I:Inv X pins σ H s) (k:∀ b o,b ≠ it -> s.heap.get? b = some o -> h'.get? b = some o) (hn:H it = none) (hL:it ≠ X.env.locals)
  (h1:it ∈ X.ex \/ X.s₀.heap.objs.size <= it) (h2:∀ x c,X.env.cells.lookup x = some c -> c ≠ it) (h3:∀ p ∈ X.pn ++ pins,p.1 ≠ it):Inv X pins σ H { s with heap:=h',toks:=t' }:=by
 have nit:∀ b u,H b = some u -> b ≠ it:=fun b u e z=>by rw [z,hn] at e;cases e
 refine I.step (g':=s.gens) (d':=s.drawn) (ch:=[it]) (fun b hb=>?_) (fun b o _ _ hc e _=>k b o (fun z=>hc (by simp [z])) e) (fun b o _ _ hc e _=>⟨o.slots,k b o (fun z=>hc (by simp [z])) e⟩) (fun _ _ _ _ n=>n)
  (fun b o hc e=>⟨o,k b o (fun z=>hc (by simp [z])) e⟩) (fun _ _ e=>e) (fun _ _ _ e=>e) (fun b ps e=>⟨#[],by rw [e];simp⟩) (fun m hm=>?_) (fun b u e=>?_) I.bare
 ·have e:b = it:=by simpa using hb
  subst e
  exact ⟨h1,hL,h2,h3⟩
 ·obtain ⟨o,es,ep,ho,r⟩:=hm
  exact ⟨o,es,ep,k _ o (O8 hL) ho,r⟩
 ·refine (I.hok b u e).stay (fun c v hc q=>k c v ?_ q) (fun _ q=>q) fun _ _ q=>q
  rcases hc with z | z
  ·rw [z];exact nit b u e
  ·exact nit c _ z
theorem Inv.tok (I:Inv X pins σ H s) (t:Nat):Inv X pins σ H { s with toks:=t }:=I.un (h':=s.heap) (t':=t) Un.refl I.hok
theorem Inv.kept {t':Nat} (I:Inv X pins σ H s) (k:∀ b u,s.heap.get? b = some u -> h'.get? b = some u):Inv X pins σ H { s with heap:=h',toks:=t' }:=I.un (Un.kept k) (I.hok.kept k)
theorem Inv.laid {a:Addr} {o:HO} {t':Nat} (I:Inv X pins σ H s) (k:∀ b u,s.heap.get? b = some u -> h'.get? b = some u) (hp:s.heap.objs.size <= a) (new:ObjOk X.prog X.w (upd H a o) h' a o) :
  Inv X pins σ (upd H a o) { s with heap:=h',toks:=t' }:=I.un (Un.laid k hp (I.hok.fresh hp)) (I.hok.laid k hp new)
theorem Inv.write {x e:Addr} {o:HO} {t':Nat} (I:Inv X pins σ H s) (mu:Mut (H x)) (he:e = x \/ H e = some (.own x)) (k:∀ b u,b ≠ e -> s.heap.get? b = some u -> h'.get? b = some u) (heo:∃ u,h'.get? e = some u)
  (new:ObjOk X.prog X.w (upd H x o) h' x o):Inv X pins σ (upd H x o) { s with heap:=h',toks:=t' }:=I.un (Un.write mu he k heo) (I.hok.write mu he k heo new)
theorem Inv.weak {σ':List (Option V)} (I:Inv X pins σ H s) (hl:σ'.length = σ.length) (w:∀ (i:Nat) v,σ'[i]? = some (some v) -> σ[i]? = some (some v)):Inv X pins σ' H s:=
 ⟨I.ok,I.os,I.bare,I.base,let ⟨m,hn,hl'⟩:=I.loc;⟨m,hn,fun i x v e1 e2 e3=>hl' i x v e1 (w i v e2) e3⟩,I.cell,I.free,I.freeC,I.pin,I.hok,hl.trans I.len⟩
theorem Inv.pins_of {pins':List (Addr × Obj)} (I:Inv X pins σ H s) (h:∀ p ∈ pins',s.heap.get? p.1 = some p.2 /\ H p.1 = none /\ p.1 ≠ X.env.locals /\ p.1 ∉ X.fs /\ ∀ v,p.2.data ≠ .cell v):Inv X pins' σ H s:=
 ⟨I.ok,I.os,I.bare,I.base,I.loc,I.cell,I.free,I.freeC,fun p hp=>(OV.mp hp).elim (fun z=>I.pin p (OY _ z)) (h p),I.hok,I.len⟩
theorem yT {N:List Str} (hN:N.Nodup) {i j:Nat} {x:Str} (a:N[i]? = some x) (b:N[j]? = some x):i = j:=by
 obtain ⟨h1,e1⟩:=Pg.mp a
 obtain ⟨h2,e2⟩:=Pg.mp b
 exact (List.getElem_inj hN).mp (e1.trans e2.symm)
theorem D3 {M:Model} {A:Around} {E:Value -> Shared -> Prop} {i:Nat} {x:Str} {v:V} {u:Value} {Q:Unit -> Shared -> Prop} (I:Inv X pins σ H s) (hN:X.N.Nodup) (hi:X.N[i]? = some x) (hx:Loc X.env.scope x) (r:RelV v u)
  (h:∀ s',Inv X pins (σ.set i (some v)) H s' -> (∃ a,Heap.SameBut a s.heap s'.heap /\ (a = X.env.locals \/ X.env.cells.lookup x = some a)) -> Q () s') (hf:X.fn x = true \/ X.env.scope.names.lookup x = some .local:=by first | exact .inl rfl | exact .inr rfl | assumption):wpAny M A (storeName X.env x u) Q E s:=by
 obtain ⟨m,hn,hl⟩:=id I.loc
 have hcls:(X.env.scope.kind == .class || (X.env.scope.kind == .module && X.env.locals != X.env.globals)) = false:=by rw [I.ok.kind];rfl
 have hiσ:i < σ.length:=by rw [I.len];exact (Pg.mp hi).1
 have cne:=I.cne
 have tracked:∀ {a:Addr} {h':Heap},(∃ o,s.heap.get? a = some o /\ H a = none) -> Heap.SameBut a s.heap h' -> HOk X.prog X.w H h':=fun {a h'} ha hs b ob e=>by
  obtain ⟨_,_,hfree⟩:=ha
  refine (I.hok b ob e).stay (fun c w' hc q=>(hs.2 c ?_).trans q) (fun _ q=>q) fun _ _ q=>q
  rintro rfl
  rcases hc with rfl | hc
  ·rw [hfree] at e;cases e
  ·rw [hfree] at hc;cases hc
 rcases hx with hk | hk
 ·refine wpAny_storeName_local hk hn (fun h' hn' hs=>?_) hcls
  obtain ⟨oL,_,_,hoL,_⟩:=id hn
  refine h _ ⟨I.ok,I.os,I.bare,⟨fun b o e n hb hx=>?_,fun b o e n hb hx=>?_,I.base.free,fun b o e hx=>?_,I.base.tups,I.base.frzs,I.base.tbls⟩,⟨_,hn',fun j y v' e1 e2 e3=>?_⟩,fun y c e=>?_,I.free,I.freeC,fun p hp=>?_,tracked ⟨oL,hoL,I.free⟩ hs,by simpa using I.len⟩ ⟨_,hs,.inl rfl⟩
  ·exact (hs.2 b (OX (Pa (OS e) I.ok.above))).trans (I.base.keep b o e n hb hx)
  ·obtain ⟨sl,e1⟩:=I.base.slot b o e n hb hx
   exact ⟨sl,(hs.2 b (OX (Pa (OS e) I.ok.above))).trans e1⟩
  ·obtain ⟨o',e1⟩:=I.base.there b o e hx
   exact ⟨o',(hs.2 b (OX (Pa (OS e) I.ok.above))).trans e1⟩
  ·by_cases hj:j = i
   ·subst hj
    rw [hi] at e1;cases e1
    rw [QK hiσ] at e2
    cases e2
    exact ⟨u,r,.inl ⟨hk,by simp⟩⟩
   ·rw [PF (O8 hj)] at e2
    obtain ⟨u',r',q⟩:=hl j y v' e1 e2 e3
    refine ⟨u',r',?_⟩
    rcases q with ⟨k,e⟩ | ⟨k,c,e,z⟩
    ·refine .inl ⟨k,?_⟩
     have:y ≠ x:=fun e=>hj (yT hN e1 (e ▸ hi))
     simp [this,e]
    ·exact .inr ⟨k,c,e,z.sameBut hs (cne y c e)⟩
  ·obtain ⟨w',z⟩:=I.cell y c e
   exact ⟨w',z.sameBut hs (cne y c e)⟩
  ·obtain ⟨e,n,ne,nf,d⟩:=I.pin p hp
   exact ⟨(hs.2 p.1 ne).trans e,n,ne,nf,d⟩
 ·have hfn:X.fn x = true:=by
   rcases hf with z | z
   ·exact z
   ·rw [z] at hk;cases hk
  obtain ⟨c,hc⟩:=I.ok.has x (.inl hk)
  obtain ⟨w',z⟩:=I.cell x c hc
  refine wpAny_storeName_cell I.ok.kind hk hc z (fun h' hc' hs=>?_)
  obtain ⟨oc,hoc,hocd⟩:=id z
  refine h { s with heap:=h' } ⟨I.ok,I.os,I.bare,⟨fun b o e n hb hx=>?_,fun b o e n hb hx=>?_,I.base.free,fun b o e hx=>?_,I.base.tups,I.base.frzs,I.base.tbls⟩,⟨m,hn.sameBut hs (O8 (cne x c hc)),fun j y v' e1 e2 e3=>?_⟩,fun y c' e=>?_,I.free,I.freeC,fun p hp=>?_,tracked ⟨oc,hoc,I.freeC x c hc⟩ hs,by simpa using I.len⟩ ⟨c,hs,.inr hc⟩
  ·exact (hs.2 b (OX (Pa (OS e) (I.ok.cab x c hfn hc)))).trans (I.base.keep b o e n hb hx)
  ·obtain ⟨sl,e1⟩:=I.base.slot b o e n hb hx
   exact ⟨sl,(hs.2 b (OX (Pa (OS e) (I.ok.cab x c hfn hc)))).trans e1⟩
  ·obtain ⟨o',e1⟩:=I.base.there b o e hx
   exact ⟨o',(hs.2 b (OX (Pa (OS e) (I.ok.cab x c hfn hc)))).trans e1⟩
  ·by_cases hj:j = i
   ·subst hj
    rw [hi] at e1;cases e1
    rw [QK hiσ] at e2
    cases e2
    exact ⟨u,r,.inr ⟨.inl hk,c,hc,hc'⟩⟩
   ·rw [PF (O8 hj)] at e2
    obtain ⟨u',r',q⟩:=hl j y v' e1 e2 e3
    refine ⟨u',r',?_⟩
    rcases q with q | ⟨k,c',e,z'⟩
    ·exact .inl q
    ·refine .inr ⟨k,c',e,z'.sameBut hs ?_⟩
     rintro rfl
     exact hj (yT hN e1 (I.ok.inj _ _ _ e hc ▸ hi))
  ·by_cases hcc:c' = c
   ·subst hcc;exact ⟨_,hc'⟩
   ·obtain ⟨w2,z2⟩:=I.cell y c' e
    exact ⟨w2,z2.sameBut hs hcc⟩
  ·obtain ⟨e,n,ne,nf,d⟩:=I.pin p hp
   refine ⟨(hs.2 p.1 ?_).trans e,n,ne,nf,d⟩
   intro q
   rw [q,hoc] at e
   have q':oc = p.2:=Pj e
   exact d w' (by rw [<- q'];exact hocd)
theorem zM {M:Model} {A:Around} {E:Value -> Shared -> Prop} {i:Nat} {x:Str} {v:V} {u:Value} {Q:Unit -> Shared -> Prop} (I:Inv X pins σ H s) (hN:X.N.Nodup) (hi:X.N[i]? = some x) (hx:Loc X.env.scope x) (r:RelV v u)
  (h:∀ s',Inv X pins (σ.set i (some v)) H s' -> Q () s') (hf:X.fn x = true \/ X.env.scope.names.lookup x = some .local:=by first | exact .inl rfl | exact .inr rfl | assumption):wpAny M A (storeName X.env x u) Q E s:=
 D3 I hN hi hx r (fun s' I' _=>h s' I') hf
theorem Inv.call' {s':Shared} {ch:List Addr} (I:Inv X pins σ H s) (ho:s'.os = s.os) (u:Un (frs X.stack) ch H H' s.heap s'.heap) (hok:HOk X.prog X.w H' s'.heap) (hg:AllBare s'.gens)
  (hch:∀ b ∈ ch,(b ∈ X.ex \/ X.s₀.heap.objs.size <= b) /\ b ≠ X.env.locals /\ (∀ x c,X.env.cells.lookup x = some c -> c ≠ b) /\ ∀ p ∈ X.pn ++ pins,p.1 ≠ b):Inv X pins σ H' s':=by
 obtain ⟨h',g',d',t',o'⟩:=s'
 have e:o' = s.os:=ho
 subst e
 exact I.call (g':=g') (t':=t') (d':=d') u hok hg hch
end
noncomputable abbrev XK:=Value -> Option Addr -> Hp -> Prop
noncomputable abbrev St:=List (Option V)
noncomputable abbrev VK:=V -> Hp -> Prop
noncomputable abbrev TE:=St -> Hp -> VK -> Prop
noncomputable abbrev TT:=St -> Hp -> (Bool -> Hp -> Prop) -> Prop
noncomputable abbrev TA:=St -> Hp -> (List V -> Hp -> Prop) -> Prop
structure Ends where
 nx:St -> Hp -> Prop
 rt:VK
 bk:St -> Hp -> Prop:=fun _ _=>False
 ct:St -> Hp -> Prop:=fun _ _=>False
noncomputable abbrev TS:=Ends -> St -> Hp -> Prop
def EP (X:Cx) (pins:List (Addr × Obj)) (σ:St) (Q:VK) (u:Value) (s':Shared):Prop:=∃ v H',Inv X pins σ H' s' /\ RelV v u /\ Q v H'
def TP (X:Cx) (pins:List (Addr × Obj)) (σ:St) (Q:Bool -> Hp -> Prop) (b:Bool) (s':Shared):Prop:=∃ H',Inv X pins σ H' s' /\ Q b H'
def AP (X:Cx) (pins:List (Addr × Obj)) (σ:St) (Q:List V -> Hp -> Prop) (us:List Value) (s':Shared):Prop:=∃ vs H',Inv X pins σ H' s' /\ Vals vs us /\ Q vs H'
def SP (X:Cx) (pins:List (Addr × Obj)) (D:Ends) (f:Flow) (s':Shared):Prop:=
 match f with
 | .next=>∃ σ' H',Inv X pins σ' H' s' /\ D.nx σ' H'
 | .brk=>∃ σ' H',Inv X pins σ' H' s' /\ D.bk σ' H'
 | .cont=>∃ σ' H',Inv X pins σ' H' s' /\ D.ct σ' H'
 | .ret u=>∃ v σ' H',Inv X pins σ' H' s' /\ RelV v u /\ D.rt v H'
def PE (X:Cx) (e:Expr) (t:TE):Prop:=
 ∀ (pins:List (Addr × Obj)) (s:Shared) (σ:St) (H:Hp) (Q:VK),Inv X pins σ H s -> t σ H Q -> wpAny (model X.prog X.w) X.A (eval e X.env) (EP X pins σ Q) X.xe s
def PT (X:Cx) (e:Expr) (t:TT):Prop:=
 ∀ (pins:List (Addr × Obj)) (s:Shared) (σ:St) (H:Hp) (Q:Bool -> Hp -> Prop),Inv X pins σ H s -> t σ H Q -> wpAny (model X.prog X.w) X.A (isTrue e X.env (eval e X.env)) (TP X pins σ Q) X.xe s
def PW (X:Cx) (e:Expr) (t:TT):Prop:=
 ∀ (whole:Sem Value) (pins:List (Addr × Obj)) (s:Shared) (σ:St) (H:Hp) (Q:Bool -> Hp -> Prop),Inv X pins σ H s -> t σ H Q -> wpAny (model X.prog X.w) X.A (isTrue e X.env whole) (TP X pins σ Q) X.xe s
theorem PW.pt {X:Cx} {e:Expr} {t:TT} (h:PW X e t):PT X e t:=h _
def PA (X:Cx) (es:List Expr) (t:TA):Prop:=
 ∀ (pos:Pos) (pins:List (Addr × Obj)) (s:Shared) (σ:St) (H:Hp) (Q:List V -> Hp -> Prop),Inv X pins σ H s -> t σ H Q -> wpAny (model X.prog X.w) X.A (spliced (backTo pos (starEach es X.env))) (AP X pins σ Q) X.xe s
def PS (X:Cx) (st:Stmt) (t:TS):Prop:=
 ∀ (pins:List (Addr × Obj)) (s:Shared) (σ:St) (H:Hp) (D:Ends),Inv X pins σ H s -> t D σ H -> wpAny (model X.prog X.w) X.A (exec st X.env) (SP X pins D) X.xe s
def PSs (X:Cx) (st:List Stmt) (t:TS):Prop:=
 ∀ (pins:List (Addr × Obj)) (s:Shared) (σ:St) (H:Hp) (D:Ends),Inv X pins σ H s -> t D σ H -> wpAny (model X.prog X.w) X.A (execs st X.env) (SP X pins D) X.xe s
theorem thn {α:Type} {t:Sem α} {Q Q':α -> Shared -> Prop} {M:Model} {A:Around} {E:Value -> Shared -> Prop} {s:Shared} (h:wpAny M A t Q E s) (hQ:∀ a s,Q a s -> Q' a s):wpAny M A t Q' E s:=PZ h hQ fun _ _ x=>x
section
variable {X:Cx}
noncomputable def g6 (i:Nat):TE:=fun σ H Q=>∃ v,σ[i]? = some (some v) /\ Q v H
noncomputable def tC (v:V):TE:=fun _ H Q=>Q v H
theorem J9 {i:Nat} {x:Str} {pos:Pos} (hN:X.N[i]? = some x) (hv:Vis X.env.scope x) (hd:(x == ("__debug__" : Str)) = false:=by decide) (hcd:(x == ("__classdict__" : Str)) = false:=by decide):PE X (.Name x pos) (g6 i):=by
 intro pins s σ H Q I h
 obtain ⟨v,e,h⟩:=h
 obtain ⟨m,hn,hl⟩:=I.loc
 obtain ⟨u,r,l⟩:=hl i x v hN e hv
 have fin:EP X pins σ Q u s:=⟨v,H,I,r,h⟩
 rcases l with ⟨hk,hm⟩ | ⟨hk,c,hc,hcell⟩
 ·exact wpAny_Name (wpAny_loadName_local I.ok.kind hk hn hm fin) hd
 ·rcases hk with hk | hk
  ·exact wpAny_Name (wpAny_loadName_cell I.ok.kind hk hc hcell fin) hd
  ·exact wpAny_Name (wpAny_loadName_free I.ok.kind hk hc hcell fin hcd) hd
theorem ai {i j pos}:PE X (.Constant (.int i) j pos) (tC (.int i)):=fun _ _ _ H _ I h=>wpAny_Constant_int ⟨.int i,H,I.tok _,⟨_,rfl⟩,h⟩
theorem zh {b j pos}:PE X (.Constant (.bool b) j pos) (tC (.bl b)):=fun _ _ _ H _ I h=>Constant_bool ⟨.bl b,H,I,rfl,h⟩
theorem xk {j pos}:PE X (.Constant .none j pos) (tC .non):=fun _ _ _ H _ I h=>Constant_none ⟨.non,H,I,rfl,h⟩
def Gl (X:Cx) (x:Str):Prop:=X.env.kindOf x = some .globalImplicit
theorem Cd {E:Value -> Shared -> Prop} {pins:List (Addr × Obj)} {s:Shared} {σ:St} {H:Hp} {x:Str} {u:Value} {pos:Pos} {Q:Value -> Shared -> Prop} (I:Inv X pins σ H s) (hg:Gl X x) (hm:X.mg x = some u) (h:Q u s)
  (hd:(x == ("__debug__" : Str)) = false:=by decide):wpAny (model X.prog X.w) X.A (eval (.Name x pos) X.env) Q E s:=
 Calls.Name_function_global I.ok.kind hg (Calls.loadGlobal_global (by rw [I.ok.glob];exact I.mod.glob.keeps I.bk) hm h) hd
theorem mL {E:Value -> Shared -> Prop} {pins:List (Addr × Obj)} {s:Shared} {σ:St} {H:Hp} {x:Str} {u:Value} {pos:Pos} {Q:Value -> Shared -> Prop} (I:Inv X pins σ H s) (hg:Gl X x) (hm:X.mg x = none) (hv:bootBuiltins x = some u) (h:Q u s)
  (hn:x ≠ "__name__" := by decide) (hd:(x == ("__debug__" : Str)) = false:=by decide):wpAny (model X.prog X.w) X.A (eval (.Name x pos) X.env) Q E s:=by
 obtain ⟨mb,h1,h2⟩:=I.mod.blt
 exact Calls.Name_function_global I.ok.kind hg (Calls.loadGlobal_builtin (by rw [I.ok.glob];exact I.mod.glob.keeps I.bk) hm (by rw [I.ok.blt];exact h1.keeps I.bk) ((h2 x hn).trans hv) h) hd
theorem Cm {x:Str} {v:V} {u:Value} {pos:Pos} (hg:Gl X x) (hm:X.mg x = some u) (r:RelV v u) (hd:(x == ("__debug__" : Str)) = false:=by decide):PE X (.Name x pos) (tC v):=
 fun _ _ _ H _ I h=>Cd I hg hm ⟨v,H,I,r,h⟩ hd
theorem qZ {x:Str} {v:V} {u:Value} {pos:Pos} (hg:Gl X x) (hm:X.mg x = none) (hv:bootBuiltins x = some u) (r:RelV v u) (hn:x ≠ "__name__" := by decide) (hd:(x == ("__debug__" : Str)) = false:=by decide):PE X (.Name x pos) (tC v):=
 fun _ _ _ H _ I h=>mL I hg hm hv ⟨v,H,I,r,h⟩ hn hd
variable {a b:Expr} {ta tb:TE} {pos:Pos}
def PC (X:Cx) (op:CmpOp) (a b:Expr) (t:TE):Prop:=
 ∀ (pins:List (Addr × Obj)) (s:Shared) (σ:St) (H:Hp) (Q:VK),Inv X pins σ H s -> t σ H Q ->
  wpAny (model X.prog X.w) X.A (eval a X.env) (fun v s₁=>wpAny (model X.prog X.w) X.A (eval b X.env) (fun u s₂=>wpAny (model X.prog X.w) X.A (compareOp op v u) (EP X pins σ Q) X.xe s₂) X.xe s₁) X.xe s
noncomputable def tB (t:TE):TT:=fun σ H Q=>t σ H fun x H1=>∃ c,x = .bl c /\ Q c H1
theorem J7 {op:CmpOp} {t:TE} (h:PC X op a b t) (h1:behindInMarks op b = false:=by first | exact nobehind _ (by decide) (by decide) | rfl):PE X (.Compare a [op] [b] pos) t:=fun pins s σ H Q I hw=>wpAny_Compare1 (h pins s σ H Q I hw) h1
theorem Bg {op:CmpOp} {t:TE} (h:PC X op a b t) (h1:behindInMarks op b = false:=by first | exact nobehind _ (by decide) (by decide) | rfl):PT X (.Compare a [op] [b] pos) (tB t):=by
 intro pins s σ H Q I hw
 refine wpAny_isTrue_Compare1 (thn (h pins s σ H _ I hw) fun v s1 h1=>thn h1 fun u s2 h2=>thn h2 fun c s3 hpt9=>?_) h1
 obtain ⟨x,H1,I1,r1,q1⟩:=hpt9
 obtain ⟨d,rfl,q⟩:=q1
 cases r1
 exact QL ⟨H1,I1,q⟩
variable {tA tB':TT} {fj:List Expr}
noncomputable def LN (t u:TT):TT:=fun σ H Q=>t σ H fun c H1=>if c = true then u σ H1 Q else Q false H1
noncomputable def tOr (t u:TT):TT:=fun σ H Q=>t σ H fun c H1=>if c = true then Q true H1 else u σ H1 Q
noncomputable def LQ (t:TT):TT:=fun σ H Q=>t σ H fun c H1=>Q (!c) H1
theorem lv (ha:PT X a tA):PW X (.BoolOp .And [a] pos) tA:=by
 intro wh pins s σ H Q I h
 refine isTrue_and (thn (ha pins s σ H Q I h) fun c s1 e=>?_)
 cases c with
 | true=>exact isTrue_and_nil e
 | false=>exact e
theorem pj (ha:PT X a tA):PW X (.BoolOp .Or [a] pos) tA:=by
 intro wh pins s σ H Q I h
 refine isTrue_or (thn (ha pins s σ H Q I h) fun c s1 e=>?_)
 cases c with
 | false=>exact isTrue_or_nil e
 | true=>exact e
theorem pi (ha:PT X a tA) (hb:PW X (.BoolOp .And (b :: fj) pos) tB'):PW X (.BoolOp .And (a :: b :: fj) pos) (LN tA tB'):=by
 intro wh pins s σ H Q I h
 refine isTrue_and (thn (ha pins s σ H _ I h) fun c s1 hpt9=>?_)
 obtain ⟨H1,I1,q1⟩:=hpt9
 cases c with
 | true=>exact hb wh pins s1 σ H1 Q I1 q1
 | false=>exact ⟨H1,I1,q1⟩
theorem nR (ha:PT X a tA) (hb:PW X (.BoolOp .Or (b :: fj) pos) tB'):PW X (.BoolOp .Or (a :: b :: fj) pos) (tOr tA tB'):=by
 intro wh pins s σ H Q I h
 refine isTrue_or (thn (ha pins s σ H _ I h) fun c s1 hpt9=>?_)
 obtain ⟨H1,I1,q1⟩:=hpt9
 cases c with
 | true=>exact ⟨H1,I1,q1⟩
 | false=>exact hb wh pins s1 σ H1 Q I1 q1
theorem ph (ha:PT X a tA):PT X (.UnaryOp .Not a pos) (LQ tA):=by
 intro pins s σ H Q I h
 exact isTrue_not (ha pins s σ H (fun c H1=>Q (!c) H1) I h)
noncomputable def Jd (ta tb:TE):TE:=fun σ H Q=>ta σ H fun x H1=>∃ c,x = .bl c /\ if c = true then tb σ H1 Q else Q (.bl false) H1
noncomputable def LS (ta tb:TE):TE:=fun σ H Q=>ta σ H fun x H1=>∃ c,x = .bl c /\ if c = true then Q (.bl true) H1 else tb σ H1 Q
noncomputable def Jg (ta:TE):TE:=fun σ H Q=>ta σ H fun x H1=>∃ c,x = .bl c /\ Q (.bl (!c)) H1
theorem Bb {op} {t:TE} (h:PE X a t):PE X (.BoolOp op [a] pos) t:=fun pins s σ H Q I hw=>BoolOp_one (h pins s σ H Q I hw)
theorem Ba (ha:PE X a ta) (hb:PE X (.BoolOp .And (b :: fj) pos) tb):PE X (.BoolOp .And (a :: b :: fj) pos) (Jd ta tb):=by
 intro pins s σ H Q I h
 refine BoolOp_and (thn (ha pins s σ H _ I h) fun v s1 hpt9=>?_)
 obtain ⟨x,H1,I1,r1,q1⟩:=hpt9
 obtain ⟨c,rfl,q1⟩:=q1
 cases r1
 refine QL ?_
 cases c with
 | true=>exact hb pins s1 σ H1 Q I1 q1
 | false=>exact ⟨.bl false,H1,I1,rfl,q1⟩
theorem Lb (ha:PE X a ta) (hb:PE X (.BoolOp .Or (b :: fj) pos) tb):PE X (.BoolOp .Or (a :: b :: fj) pos) (LS ta tb):=by
 intro pins s σ H Q I h
 refine BoolOp_or (thn (ha pins s σ H _ I h) fun v s1 hpt9=>?_)
 obtain ⟨x,H1,I1,r1,q1⟩:=hpt9
 obtain ⟨c,rfl,q1⟩:=q1
 cases r1
 refine QL ?_
 cases c with
 | false=>exact hb pins s1 σ H1 Q I1 q1
 | true=>exact ⟨.bl true,H1,I1,rfl,q1⟩
theorem J8 (ha:PE X a ta):PE X (.UnaryOp .Not a pos) (Jg ta):=by
 intro pins s σ H Q I h
 refine UnaryOp_ (thn (ha pins s σ H _ I h) fun v s1 hpt9=>?_)
 obtain ⟨x,H1,I1,r1,q1⟩:=hpt9
 obtain ⟨c,rfl,q1⟩:=q1
 cases r1
 exact not_of (QL ⟨.bl (!c),H1,I1,rfl,q1⟩)
end
def SqL (K:W.Frag) (H:Hp) (a:Addr) (xs:List V):Prop:=
 Rd H a (.lst xs) \/
  ∃ (o:Obj) (its:Array Value) (n:Nat),K.lookup a = some o /\ o.cls = .type "list" /\ o.dict = none /\ o.data = .seq its n /\ its.size <= sizeLine /\ Vals xs its.toList
def SqT (K:W.Frag) (H:Hp) (a:Addr) (xs:List V):Prop:=
 Rd H a (.tup xs) \/
  ∃ (o:Obj) (its:Array Value) (n:Nat),K.lookup a = some o /\ o.cls = .type "tuple" /\ o.data = .seq its n /\ its.size <= sizeLine /\ Vals xs its.toList
noncomputable def Mo:Value -> Option V
 | .none=>some .non
 | .bool b=>some (.bl b)
 | .int i _=>some (.int i)
 | .str x _=>some (.str x)
 | .bytes b _=>some (.byt b)
 | .float b _=>some (.flt b)
 | .ref a=>some (.ref a)
 | .type n=>some (.ty n)
 | _=>none
theorem RelV.abs {x:V} {u:Value} (r:RelV x u):Mo u = some x:=by
 cases x with
 | non=>cases r;rfl
 | bl _=>cases r;rfl
 | int _=>obtain ⟨t,rfl⟩:=r;rfl
 | str _=>obtain ⟨t,rfl⟩:=r;rfl
 | byt _=>obtain ⟨t,rfl⟩:=r;rfl
 | flt _=>obtain ⟨t,rfl⟩:=r;rfl
 | ref _=>cases r;rfl
 | ty _=>cases r;rfl
theorem RelV.inj {x y:V} {u:Value} (r:RelV x u) (q:RelV y u):x = y:=Pj (r.abs.symm.trans q.abs)
theorem Vals.inj {xs ys:List V} {us:List Value} (h:Vals xs us) (k:Vals ys us):xs = ys:=by
 induction h generalizing ys with
 | nil=>cases k;rfl
 | cons r t ih=>
  cases k with
  | cons r' t'=>rw [r.inj r',ih t']
section
variable {X:Cx} {pins:List (Addr × Obj)} {σ:St} {H:Hp} {s:Shared} {a:Addr} {xs ys:List V}
theorem SqL.of {K:W.Frag} (h:H a = some (.lst xs)):SqL K H a xs:=.inl (.inl h)
theorem SqT.of {K:W.Frag} (h:H a = some (.tup xs)):SqT K H a xs:=.inl (.inl h)
theorem Inv.list (I:Inv X pins σ H s) (h:SqL X.K H a xs):∃ its:List Value,Vals xs its /\ PlainL s.heap a its.toArray /\ xs.length <= sizeLine:=by
 rcases h with h | ⟨o,its,n,hk,hc,hd,hs,hz,r⟩
 ·obtain ⟨z,its,n,r,e⟩:=h.ok I.hok
  exact ⟨its,r,⟨_,n,e,rfl,rfl,rfl⟩,z⟩
 ·refine ⟨its.toList,r,⟨o,n,I.kIn a o hk,hc,hd,by simpa using hs⟩,?_⟩
  have e:=r.length
  simp only [Ph] at e
  lia
theorem Inv.tuple (I:Inv X pins σ H s) (h:SqT X.K H a xs):∃ its:List Value,Vals xs its /\ IsTup s.heap a its.toArray /\ xs.length <= sizeLine:=by
 rcases h with h | ⟨o,its,n,hk,hc,hs,hz,r⟩
 ·obtain ⟨z,its,r,p⟩:=h.ok I.hok
  exact ⟨its,r,p,z⟩
 ·refine ⟨its.toList,r,⟨o,I.kIn a o hk,hc,n,by simpa using hs⟩,?_⟩
  have e:=r.length
  simp only [Ph] at e
  lia
theorem Inv.list_inj (I:Inv X pins σ H s) (h:SqL X.K H a xs) (h':SqL X.K H a ys):xs = ys:=by
 obtain ⟨its,r,⟨o,n,e,_,_,d⟩,_⟩:=I.list h
 obtain ⟨its',r',⟨o',n',e',_,_,d'⟩,_⟩:=I.list h'
 rw [e] at e';cases e'
 rw [d] at d'
 injection d' with d1 _
 have:its = its':=by simpa using OZ Array.toList d1
 subst this
 exact r.inj r'
theorem Inv.tuple_inj (I:Inv X pins σ H s) (h:SqT X.K H a xs) (h':SqT X.K H a ys):xs = ys:=by
 obtain ⟨its,r,⟨o,e,_,n,d⟩,_⟩:=I.tuple h
 obtain ⟨its',r',⟨o',e',_,n',d'⟩,_⟩:=I.tuple h'
 rw [e] at e';cases e'
 rw [d] at d'
 injection d' with d1 _
 have:its = its':=by simpa using OZ Array.toList d1
 subst this
 exact r.inj r'
end
noncomputable abbrev Cx.wish (X:Cx) (E:Value -> Shared -> Prop):Cx:={ X with xe:=E }
noncomputable abbrev Cx.nox (X:Cx):Cx:=X.wish fun _ _=>False
theorem Cx.Ok.wish {X:Cx} (ok:X.Ok) (E:Value -> Shared -> Prop):(X.wish E).Ok:=
 ⟨ok.mod,ok.kind,ok.glob,ok.blt,ok.above,ok.inj,ok.has,ok.cab,ok.hd,ok.frames,ok.stk,ok.exf,ok.bs,ok.bsz,ok.noex,ok.exfs,ok.funs,ok.frf⟩
theorem Cx.Ok.unwish {X:Cx} {E:Value -> Shared -> Prop} (ok:(X.wish E).Ok):X.Ok:=
 ⟨ok.mod,ok.kind,ok.glob,ok.blt,ok.above,ok.inj,ok.has,ok.cab,ok.hd,ok.frames,ok.stk,ok.exf,ok.bs,ok.bsz,ok.noex,ok.exfs,ok.funs,ok.frf⟩
section
variable {X:Cx} {pins:List (Addr × Obj)} {σ:St} {H:Hp} {s:Shared} {E:Value -> Shared -> Prop}
theorem Inv.wish (I:Inv X pins σ H s) (E:Value -> Shared -> Prop):Inv (X.wish E) pins σ H s:=⟨I.ok.wish E,I.os,I.bare,I.base,I.loc,I.cell,I.free,I.freeC,I.pin,I.hok,I.len⟩
theorem Inv.unwish (I:Inv (X.wish E) pins σ H s):Inv X pins σ H s:=⟨I.ok.unwish,I.os,I.bare,I.base,I.loc,I.cell,I.free,I.freeC,I.pin,I.hok,I.len⟩
theorem SP.unwish {D:Ends} {f:Flow} {s':Shared} (h:SP (X.wish E) pins D f s'):SP X pins D f s':=by
 cases f with
 | next=>obtain ⟨σ',H',I,q⟩:=h;exact ⟨σ',H',I.unwish,q⟩
 | brk=>obtain ⟨σ',H',I,q⟩:=h;exact ⟨σ',H',I.unwish,q⟩
 | cont=>obtain ⟨σ',H',I,q⟩:=h;exact ⟨σ',H',I.unwish,q⟩
 | ret u=>obtain ⟨v,σ',H',I,r,q⟩:=h;exact ⟨v,σ',H',I.unwish,r,q⟩
theorem PSs.nox {st:List Stmt} {t:TS} (h:PSs X.nox st t):PSs X st t:=fun pins s σ H D I hw=>
 PZ (h pins s σ H D (I.wish _) hw) (fun _ _ q=>q.unwish) fun _ _ z=>False.elim z
end
section
variable {X:Cx} {st:Stmt} {fj:List Stmt} {t u:TS} {e:Expr} {te:TE} {pos:Pos}
noncomputable def Jf:TS:=fun D σ H=>D.nx σ H
noncomputable def LU (t u:TS):TS:=fun D σ H=>t { D with nx:=u D } σ H
theorem dr:PSs X [] Jf:=fun _ _ σ H _ I h=>RF ⟨σ,H,I,h⟩
theorem ap (h1:PS X st t) (h2:PSs X fj u):PSs X (st :: fj) (LU t u):=by
 intro pins s σ H D I h
 refine wpAny_execs_cons (thn (h1 pins s σ H { D with nx:=u D } I h) fun f s1 q=>?_)
 cases f with
 | next=>
  obtain ⟨σ',H',I',q⟩:=q
  exact h2 pins s1 σ' H' D I' q
 | ret v=>exact q
 | brk=>exact q
 | cont=>exact q
theorem az (h1:PS X st t):PSs X [st] t:=by
 intro pins s σ H D I h
 refine wpAny_execs_cons (thn (h1 pins s σ H D I h) fun f s1 q=>?_)
 cases f with
 | next=>exact RF q
 | ret v=>exact q
 | brk=>exact q
 | cont=>exact q
theorem Inv.quiet {pins:List (Addr × Obj)} {σ:St} {H:Hp} {s:Shared} (I:Inv X pins σ H s):interactive X.env = false:=by simp [interactive,I.ok.kind]
noncomputable def zO (te:TE):TS:=fun D σ H=>te σ H fun _ H1=>D.nx σ H1
theorem cQ (he:PE X e te) (hs:swapsWith e none pos.line X.env = pure false:=by rfl):PS X (.Expr e pos) (zO te):=by
 intro pins s σ H D I h
 exact wpAny_Expr_any (thn (he pins s σ H _ I h) fun v s1 ⟨x,H1,I1,r1,q1⟩=>⟨σ,H1,I1,q1⟩) I.quiet hs
noncomputable def D5 (te:TE):TS:=fun D σ H=>te σ H D.rt
theorem bo (he:PE X e te):PS X (.Return (some e) pos) (D5 te):=by
 intro pins s σ H D I h
 exact wpAny_Return_some (thn (he pins s σ H _ I h) fun v s1 ⟨x,H1,I1,r1,q1⟩=>⟨x,σ,H1,I1,r1,q1⟩)
noncomputable def LP (c:TT) (t u:TS):TS:=fun D σ H=>c σ H fun b H1=>if b = true then t D σ H1 else u D σ H1
theorem gN {c:Expr} {a b:List Stmt} {tc:TT} (hc:PT X c tc) (ha:PSs X a t) (hb:PSs X b u):PS X (.If c a b pos) (LP tc t u):=by
 intro pins s σ H D I h
 refine wpAny_If (thn (hc pins s σ H _ I h) fun d s1 hpt9=>?_)
 obtain ⟨H1,I1,q1⟩:=hpt9
 cases d with
 | true=>exact ha pins s1 σ H1 D I1 q1
 | false=>exact hb pins s1 σ H1 D I1 q1
noncomputable def Gw:TS:=fun _ _ _=>False
theorem FI:PS X st Gw:=fun _ _ _ _ _ _ h=>h.elim
end
noncomputable abbrev TG:=V -> St -> Hp -> (St -> Hp -> Prop) -> Prop
noncomputable abbrev TGs:=List V -> St -> Hp -> (St -> Hp -> Prop) -> Prop
def PG (X:Cx) (target:Expr) (t:TG):Prop:=
 ∀ (pins:List (Addr × Obj)) (s:Shared) (σ:St) (H:Hp) (v:V) (u:Value) (Q:St -> Hp -> Prop),Inv X pins σ H s -> RelV v u -> t v σ H Q ->
  wpAny (model X.prog X.w) X.A (assign target X.env u) (fun _ s'=>∃ σ' H',Inv X pins σ' H' s' /\ Q σ' H') X.xe s
def PGs (X:Cx) (ts:List Expr) (t:TGs):Prop:=
 ∀ (pins:List (Addr × Obj)) (s:Shared) (σ:St) (H:Hp) (vs:List V) (us:List Value) (Q:St -> Hp -> Prop),Inv X pins σ H s -> Vals vs us -> t vs σ H Q ->
  wpAny (model X.prog X.w) X.A (assignInOrder ((assignEach ts X.env).map (·.2)) us) (fun _ s'=>∃ σ' H',Inv X pins σ' H' s' /\ Q σ' H') X.xe s
noncomputable abbrev Jn:=V -> V -> V -> Hp -> (Hp -> Prop) -> Prop
def KN (X:Cx) (t:Jn):Prop:=
 ∀ (pins:List (Addr × Obj)) (s:Shared) (σ:St) (H:Hp) (o i v:V) (ov iv u:Value) (Q:Hp -> Prop),Inv X pins σ H s -> RelV o ov -> RelV i iv -> RelV v u -> t o i v H Q ->
  wpAny (model X.prog X.w) X.A (setItem ov iv u) (fun _ s'=>∃ H',Inv X pins σ H' s' /\ Q H') X.xe s
section
variable {X:Cx} {pos:Pos}
noncomputable def lW (i:Nat):TG:=fun v σ H Q=>Q (σ.set i (some v)) H
theorem aw {i:Nat} {x:Str} (hN:X.N.Nodup) (hi:X.N[i]? = some x) (hx:Loc X.env.scope x) (hf:X.fn x = true \/ X.env.scope.names.lookup x = some .local:=by first | exact .inl rfl | exact .inr rfl | assumption):PG X (.Name x pos) (lW i):=by
 intro pins s σ H v u Q I r h
 exact wpAny_assign_Name (zM I hN hi hx r (fun s' I'=>⟨_,H,I',h⟩) hf)
noncomputable def JK:TGs:=fun vs σ H Q=>vs = [] /\ Q σ H
noncomputable def EO (t:TG) (u:TGs):TGs:=fun vs σ H Q=>∃ v r,vs = v :: r /\ t v σ H fun σ' H'=>u r σ' H' Q
theorem bR:PGs X [] JK:=by
 intro pins s σ H vs us Q I r h
 obtain ⟨e,h⟩:=h
 subst e
 cases r
 exact assignInOrder_nil ⟨σ,H,I,h⟩
theorem aC {e:Expr} {es:List Expr} {t:TG} {u:TGs} (h1:PG X e t) (h2:PGs X es u)
  (hs:(assignEach (e :: es) X.env).map (·.2) = assign e X.env :: (assignEach es X.env).map (·.2):=by rfl):PGs X (e :: es) (EO t u):=by
 intro pins s σ H vs us Q I r h
 obtain ⟨v,vr,e1,h⟩:=h
 subst e1
 cases r with
 | cons r rr=>
  rw [hs]
  refine assignInOrder_cons (thn (h1 pins s σ H _ _ _ I r h) fun _ s1 hpt9=>?_)
  obtain ⟨σ1,H1,I1,q1⟩:=hpt9
  exact h2 pins s1 σ1 H1 _ _ Q I1 rr q1
noncomputable def Hl (K:W.Frag) (n:Nat) (t:TGs):TG:=fun v σ H Q=>∃ a xs,v = .ref a /\ SqT K H a xs /\ xs.length = n /\ t xs σ H Q
theorem cZ {es:List Expr} {k:Nat} {t:TGs} {n:Nat} (hc:X.calm = true) (h:PGs X es t)
  (hn:(assignEach es X.env).length = n:=by rfl) (hst:(assignEach es X.env).findIdx? (·.1) = none:=by rfl):PG X (.Tuple es k pos) (Hl X.K n t):=by
 intro pins s σ H v u Q I r hw
 obtain ⟨a,xs,e1,hq,hl,hw⟩:=hw
 subst e1
 cases r
 obtain ⟨its,rv,ht,hz⟩:=I.tuple hq
 refine assign_Tuple_tuple (I.ok.hd hc) ht (by simp [hn,<- hl,rv.length]) hst fun h' hx=>?_
 have I1:Inv X pins σ H { s with heap:=h' }:=I.kept (t':=s.toks) fun b o e=>hx b o (OX (OS e)) e
 exact h pins _ σ H xs _ Q I1 (by simpa using rv) hw
noncomputable def K4 (to ti:TE) (t:Jn):TG:=fun v σ H Q=>to σ H fun o H1=>ti σ H1 fun i H2=>t o i v H2 fun H3=>Q σ H3
theorem Fz {o i:Expr} {to ti:TE} {t:Jn} (ho:PE X o to) (hi:PE X i ti) (hs:KN X t)
  (ha:∀ v,assign (.Subscript o i pos) X.env v = (do
   let ov ← holding [v] (eval o X.env)
   let iv ← holding [v,ov] (eval i X.env)
   standAt pos
   holding [v,ov,iv] (setItem ov iv v)
   release [v,ov,iv] []):=by intro _;rfl):PG X (.Subscript o i pos) (K4 to ti t):=by
 intro pins s σ H v u Q I r h
 rw [ha]
 refine OA (Pp (thn (ho pins s σ H _ I h) fun ov s1 hpt9=>?_))
 obtain ⟨x,H1,I1,r1,q1⟩:=hpt9
 refine OA (Pp (thn (hi pins s1 σ H1 _ I1 q1) fun iv s2 hpt9=>?_))
 obtain ⟨y,H2,I2,r2,q2⟩:=hpt9
 refine OA (wpAny_standAt (OA (Pp (thn (hs pins s2 σ H2 x y v ov iv u _ I2 r1 r2 r q2) fun _ s3 hpt9=>?_))))
 obtain ⟨H3,I3,q3⟩:=hpt9
 exact wpAny_release ⟨σ,H3,I3,q3⟩
noncomputable def Bz (te:TE) (g:TG):TS:=fun D σ H=>te σ H fun x H1=>g x σ H1 D.nx
theorem FH {tg e:Expr} {te:TE} {g:TG} (he:PE X e te) (hg:PG X tg g) (hs:swapsWithSole [tg] e pos.line X.env = pure false:=by rfl) (hw:swappedStores [tg] e X.env = pure none:=by rfl)
  (h1:(assignEach [tg] X.env).map (·.2) = [assign tg X.env]:=by rfl):PS X (.Assign [tg] e pos) (Bz te g):=by
 intro pins s σ H D I h
 refine wpAny_Assign_stores (thn (he pins s σ H _ I h) fun v s1 hpt9=>?_) hs hw
 obtain ⟨x,H1,I1,r1,q1⟩:=hpt9
 rw [h1]
 exact thn (hg pins s1 σ H1 x v _ I1 r1 q1) fun _ s2 q=>q
theorem a9 {i:Nat} {x:Str} {e:Expr} {te:TE} {pos':Pos} (hN:X.N.Nodup) (hi:X.N[i]? = some x) (hx:Loc X.env.scope x) (he:PE X e te) (hs:swapsWith e (some (.Name x pos')) pos.line X.env = pure false:=by rfl) (hf:X.fn x = true \/ X.env.scope.names.lookup x = some .local:=by first | exact .inl rfl | exact .inr rfl | assumption) :
  PS X (.Assign [.Name x pos'] e pos) (Bz te (lW i)):=by
 intro pins s σ H D I h
 refine wpAny_Assign_Name (thn (he pins s σ H _ I h) fun v s1 hpt9=>?_) hs
 obtain ⟨y,H1,I1,r1,q1⟩:=hpt9
 exact zM I1 hN hi hx r1 (fun s2 I2=>⟨_,H1,I2,q1⟩) hf
end
section
variable {X:Cx} {pos:Pos}
noncomputable def Gx (c:TT) (tb:TS):TS:=fun D σ H=>∃ W:Nat -> St -> Hp -> Prop,(∃ m,W m σ H) /\ ∀ m σ H,W m σ H ->
 c σ H fun b H1=>if b = true then ∃ N:St -> Hp -> Prop,(∀ σ' H',N σ' H' -> ∃ m',m' < m /\ W m' σ' H') /\ tb { D with nx:=N,ct:=N,bk:=D.nx } σ H1 else D.nx σ H1
theorem FJ {c:Expr} {body:List Stmt} {tc:TT} {tb:TS} (hp:PassesOwn (model X.prog X.w) X.A X.env X.xe) (hc:PT X c tc) (hb:PSs X body tb):PS X (.While c body [] pos) (Gx tc tb):=by
 intro pins s σ H D I h
 obtain ⟨W,⟨m0,w0⟩,turn⟩:=h
 refine wpAny_While (codeAny_whileLoop (fun n s'=>∃ σ' H',Inv X pins σ' H' s' /\ W n σ' H') ?_ m0 ⟨σ,H,I,w0⟩)
 rintro n s1 ⟨σ1,H1,I1,w1⟩
 refine Qz hp (thn (hc pins s1 σ1 H1 _ I1 (turn n σ1 H1 w1)) fun b s2 hpt9=>?_)
 obtain ⟨H2,I2,q2⟩:=hpt9
 cases b with
 | true=>
  obtain ⟨N,hN,q2⟩:=q2
  rw [OC rfl]
  refine Qz hp (thn (hb pins s2 σ1 H2 _ I2 q2) fun f s3 q3=>?_)
  cases f with
  | next=>
   obtain ⟨σ3,H3,I3,n3⟩:=q3
   obtain ⟨m',hm,w3⟩:=hN σ3 H3 n3
   exact ⟨m',hm,σ3,H3,I3,w3⟩
  | cont=>
   obtain ⟨σ3,H3,I3,n3⟩:=q3
   obtain ⟨m',hm,w3⟩:=hN σ3 H3 n3
   exact ⟨m',hm,σ3,H3,I3,w3⟩
  | brk=>exact q3
  | ret v=>exact q3
 | false=>
  rw [OB Px]
  exact RF ⟨σ1,H2,I2,q2⟩
end
structure It where
 go:Nat -> Hp -> Prop
 yld:Nat -> Hp -> V -> Hp -> Prop
 stop:Nat -> Hp -> Prop
def rp (X:Cx) (pins:List (Addr × Obj)) (H:Hp) (b:Addr):Prop:=
 H b = none /\ b ≠ X.env.locals /\ b ∉ X.fs /\ (b ∈ X.ex \/ X.s₀.heap.objs.size <= b) /\ (∀ x c,X.env.cells.lookup x = some c -> c ≠ b) /\ ∀ p ∈ X.pn ++ pins,p.1 ≠ b
theorem Inv.fpOk {X:Cx} {pins:List (Addr × Obj)} {σ:St} {H H':Hp} {s:Shared} {b:Addr} (I:Inv X pins σ H s) (hb:s.heap.objs.size <= b) (hn:H' b = none):rp X pins H' b:=by
 refine ⟨hn,Qh (Pa I.lt hb),I.nofs hb,.inr (OW I.sz hb),fun x c e z=>?_,fun p hp z=>?_⟩
 ·obtain ⟨v,q⟩:=I.cell x c e
  exact absurd (Pa q.lt (by rw [z];exact hb)) (Qy _)
 ·exact absurd (Pa (OS (I.pin p hp).1) (by rw [z];exact hb)) (Qy _)
structure Turn (P:Program) (w:World) (K:W.Frag) (tg:Expr) (J:It) (fp:List Addr) (it:Addr) (tn:Nat -> Heap -> Prop):Prop where
 mem:it ∈ fp
 obj:∀ i h,tn i h -> ∀ b ∈ fp,∃ o,h.get? b = some o /\ ∀ v,o.data ≠ .cell v
 keep:∀ i h h',tn i h -> (∀ b ∈ fp,∀ o,h.get? b = some o -> h'.get? b = some o) -> tn i h'
 item:∀ (X:Cx),X.prog = P -> X.w = w -> X.K = K -> X.calm = true -> ∀ (i:Nat) (pins:List (Addr × Obj)) (s:Shared) (σ:St) (H:Hp) (E:Value -> Shared -> Prop),Inv X pins σ H s -> (∀ b ∈ fp,rp X pins H b) -> tn i s.heap -> J.go i H ->
  wpAny (model P w) X.A (pyNext (.ref it)) (fun r s1=>∃ u,r = some u /\
   wpAny (model P w) X.A (letOwnedTupleGo tg (.ref it) u) (fun _ s2=>∃ x H',Inv X pins σ H' s2 /\ RelV x u /\ J.yld i H x H' /\ tn (i + 1) s2.heap /\ ∀ b ∈ fp,H' b = none) E s1) E s
 done:∀ (X:Cx),X.prog = P -> X.w = w -> X.K = K -> X.calm = true -> ∀ (i:Nat) (pins:List (Addr × Obj)) (s:Shared) (σ:St) (H:Hp) (E:Value -> Shared -> Prop),Inv X pins σ H s -> (∀ b ∈ fp,rp X pins H b) -> tn i s.heap -> J.stop i H ->
  wpAny (model P w) X.A (pyNext (.ref it)) (fun r s1=>r = none /\ Inv X pins σ H s1) E s
 self:∀ (A:Around) (i:Nat) (s:Shared) (Q:Value -> Shared -> Prop) (E:Value -> Shared -> Prop),tn i s.heap -> Q (.ref it) s -> wpAny (model P w) A (pyIter (.ref it)) Q E s
noncomputable abbrev TI:=St -> Hp -> (It -> Hp -> Prop) -> Prop
def PIE (X:Cx) (pins:List (Addr × Obj)) (σ:St) (tg:Expr) (R:It -> Hp -> Prop) (itv:Value) (s2:Shared):Prop:=
 ∃ (it:Addr) (fp:List Addr) (tn:Nat -> Heap -> Prop) (J:It) (H':Hp),itv = .ref it /\ Inv X pins σ H' s2 /\ Turn X.prog X.w X.K tg J fp it tn /\ tn 0 s2.heap /\ (∀ b ∈ fp,rp X pins H' b) /\ R J H'
def PI (X:Cx) (tg iter:Expr) (wi:TI):Prop:=
 ∀ (pins:List (Addr × Obj)) (s:Shared) (σ:St) (H:Hp) (R:It -> Hp -> Prop),Inv X pins σ H s -> wi σ H R ->
  wpAny (model X.prog X.w) X.A (eval iter X.env) (fun v s1=>wpAny (model X.prog X.w) X.A (pyIter v) (PIE X pins σ tg R) X.xe s1) X.xe s
theorem yz {M:Model} {A:Around} {E:Value -> Shared -> Prop} {s:Shared} {tg:Expr} {it:Addr} {u:Value} {o:Obj} {n:String} {vs:Array Value} {Q:Unit -> Shared -> Prop} (ho:s.heap.get? it = some o) (hc:o.cls = .type n) (hd:o.data = .fields vs)
  (hn:["enumerate", "zip", "dict_itemiterator", "dict_reverseitemiterator", "odict_iterator", "itertools.zip_longest", "itertools.pairwise"].contains n = false) (hQ:Q () s):wpAny M A (letOwnedTupleGo tg (.ref it) u) Q E s:=by
 unfold letOwnedTupleGo
 cases tg <;> first
  | exact OE hQ
  | (cases u <;> first
    | exact OE hQ
    | (refine OA (wpAny_load ho ?_)
       rw [hc,hd]
       show wpAny M A (if (["enumerate", "zip", "dict_itemiterator", "dict_reverseitemiterator", "odict_iterator", "itertools.zip_longest", "itertools.pairwise"].contains n && vs[0]? == some (rawInt _)) = true then _ else _) Q E s
       rw [OB (by intro h;rw [hn,Bool.false_and] at h;cases h)]
       exact OE hQ))
noncomputable def Itl (K:W.Frag) (a:Addr):It:=
 ⟨fun i H=>∃ xs x,SqL K H a xs /\ xs[i]? = some x,fun i H x H'=>H' = H /\ ∀ xs,SqL K H a xs -> xs[i]? = some x,fun i H=>∃ xs,SqL K H a xs /\ xs.length <= i⟩
noncomputable def Itt (K:W.Frag) (a:Addr):It:=
 ⟨fun i H=>∃ xs x,SqT K H a xs /\ xs[i]? = some x,fun i H x H'=>H' = H /\ ∀ xs,SqT K H a xs -> xs[i]? = some x,fun i H=>∃ xs,SqT K H a xs /\ xs.length <= i⟩
noncomputable def Itr (lo:Int) (n:Nat):It:=⟨fun i _=>i < n,fun i H x H'=>H' = H /\ x = .int (lo + i),fun i _=>n <= i⟩
theorem D8 {P:Program} {w:World} {K:W.Frag} {tg:Expr} (a it:Addr):Turn P w K tg (Itl K a) [it] it (fun i h=>h.IsListIter it a i) where
 mem:=by simp
 obj:=fun i h st b hb=>by
  have e:b = it:=by simpa using hb
  subst e
  obtain ⟨o,e,c,d⟩:=st
  exact ⟨o,e,fun v z=>by rw [d] at z;cases z⟩
 keep:=fun i h h' st k=>st.at fun o e=>k it (by simp) o e
 item:=by
  intro X hP hw hK hc i pins s σ H E I hf st hg
  subst hP hw hK
  obtain ⟨xs,x,hq,hx⟩:=hg
  obtain ⟨its,rv,p,hz⟩:=I.list hq
  obtain ⟨u,hu,ru⟩:=rv.get hx
  obtain ⟨f0,f1,f2,f3,f4,f5⟩:=hf it (by simp)
  refine wpAny_pyNext_list_item st p.isList (x:=u) (by simpa using hu) fun h' st' sb=>?_
  have I1:Inv X pins σ H { s with heap:=h' }:=I.turned (t':=s.toks) (fun b o hb e=>(sb.2 b hb).trans e) f0 f1 f3 f4 f5
  obtain ⟨o,e,c,d⟩:=id st'
  exact ⟨u,rfl,yz (s:={ s with heap:=h' }) e c d (by decide) ⟨x,H,I1,ru,⟨rfl,fun ys hy=>by rw [I.list_inj hy hq];exact hx⟩,st',fun b hb=>(hf b hb).1⟩⟩
 done:=by
  intro X hP hw hK hc i pins s σ H E I hf st hg
  subst hP hw hK
  obtain ⟨xs,hq,hx⟩:=hg
  obtain ⟨its,rv,p,hz⟩:=I.list hq
  obtain ⟨f0,f1,f2,f3,f4,f5⟩:=hf it (by simp)
  have hl:=rv.length
  exact wpAny_pyNext_list_end (I.ok.hd hc) st p.isList (by simp;lia) fun h' eb=>⟨rfl,I.turned (t':=s.toks) (fun b o hb e=>eb b o hb e) f0 f1 f3 f4 f5⟩
 self:=fun _ _ _ _ _ st h=>wpAny_pyIter_listiter st h
theorem BB {P:Program} {w:World} {K:W.Frag} {tg:Expr} (a it:Addr):Turn P w K tg (Itt K a) [it] it (fun i h=>h.IsTupleIter it a i) where
 mem:=by simp
 obj:=fun i h st b hb=>by
  have e:b = it:=by simpa using hb
  subst e
  obtain ⟨o,e,c,d⟩:=st
  exact ⟨o,e,fun v z=>by rw [d] at z;cases z⟩
 keep:=fun i h h' st k=>st.at fun o e=>k it (by simp) o e
 item:=by
  intro X hP hw hK hc i pins s σ H E I hf st hg
  subst hP hw hK
  obtain ⟨xs,x,hq,hx⟩:=hg
  obtain ⟨its,rv,p,hz⟩:=I.tuple hq
  obtain ⟨u,hu,ru⟩:=rv.get hx
  obtain ⟨f0,f1,f2,f3,f4,f5⟩:=hf it (by simp)
  refine wpAny_pyNext_tuple_item st (show s.heap.IsTuple a its.toArray from p) (x:=u) (by simpa using hu) fun h' st' sb=>?_
  have I1:Inv X pins σ H { s with heap:=h' }:=I.turned (t':=s.toks) (fun b o hb e=>(sb.2 b hb).trans e) f0 f1 f3 f4 f5
  obtain ⟨o,e,c,d⟩:=id st'
  exact ⟨u,rfl,yz (s:={ s with heap:=h' }) e c d (by decide) ⟨x,H,I1,ru,⟨rfl,fun ys hy=>by rw [I.tuple_inj hy hq];exact hx⟩,st',fun b hb=>(hf b hb).1⟩⟩
 done:=by
  intro X hP hw hK hc i pins s σ H E I hf st hg
  subst hP hw hK
  obtain ⟨xs,hq,hx⟩:=hg
  obtain ⟨its,rv,p,hz⟩:=I.tuple hq
  obtain ⟨f0,f1,f2,f3,f4,f5⟩:=hf it (by simp)
  have hl:=rv.length
  exact wpAny_pyNext_tuple_end (I.ok.hd hc) st (show s.heap.IsTuple a its.toArray from p) (by simp;lia) fun h' eb=>⟨rfl,I.turned (t':=s.toks) (fun b o hb e=>eb b o hb e) f0 f1 f3 f4 f5⟩
 self:=fun _ _ _ _ _ st h=>wpAny_pyIter_tupleiter st h
theorem tQ {P:Program} {w:World} {K:PySem.W.Frag} {tg:Expr} (it:Addr) (lo:Int) (n:Nat):Turn P w K tg (Itr lo n) [it] it (fun i h=>IsRangeIter h it (lo + (i:Nat) * 1) ((n:Int) - (i:Nat)) 1) where
 mem:=by simp
 obj:=fun i h st b hb=>by
  have e:b = it:=by simpa using hb
  subst e
  exact ⟨_,st,fun v z=>by
   have z':Data.fields _ = Data.cell v:=z
   cases z'⟩
 keep:=fun i h h' st k=>k it (by simp) _ st
 item:=by
  intro X hP hw hK hc i pins s σ H E I hf st hg
  subst hP hw hK
  obtain ⟨f0,f1,f2,f3,f4,f5⟩:=hf it (by simp)
  have W:=Walks.range (prog:=X.prog) (w:=X.w) (I.ok.hd hc) it lo 1 n
  refine W.item i s _ _ hg st fun v h' tk hv st' kk=>?_
  obtain ⟨t,rfl⟩:=hv
  have I1:Inv X pins σ H { s with heap:=h',toks:=tk }:=I.turned (fun b o hb e=>kk b o (by simpa using hb) e) f0 f1 f3 f4 f5
  refine ⟨_,rfl,yz (s:={ s with heap:=h',toks:=tk }) (n := "range_iterator") st' rfl rfl (by decide) ⟨.int (lo + i),H,I1,⟨t,?_⟩,⟨rfl,rfl⟩,st',fun b hb=>(hf b hb).1⟩⟩
  rw [Int.mul_one]
 done:=by
  intro X hP hw hK hc i pins s σ H E I hf st hg
  subst hP hw hK
  obtain ⟨f0,f1,f2,f3,f4,f5⟩:=hf it (by simp)
  exact wpAny_pyNext_range_end (I.ok.hd hc) st (by have:n <= i:=hg;lia) fun h' eb=>⟨rfl,I.turned (t':=s.toks) (fun b o hb e=>eb b o hb e) f0 f1 f3 f4 f5⟩
 self:=fun _ _ _ _ _ st h=>wpAny_pyIter_rangeiter st h
section
variable {X:Cx} {tg:Expr}
theorem FP {pins:List (Addr × Obj)} {σ:St} {H:Hp} {s:Shared} {R:It -> Hp -> Prop} {E:Value -> Shared -> Prop} {lo hi:Int} {t u v:Tok} {tk:Nat} (I:Inv X pins σ H s) (h1:-(2 ^ 62) <= lo) (h2:lo < 2 ^ 62) (h3:-(2 ^ 62) <= hi) (h4:hi < 2 ^ 62)
  (q:R (Itr lo (hi - lo).toNat) H):wpAny (model X.prog X.w) X.A (pyIter (.ref s.heap.objs.size)) (PIE X pins σ tg R) E { s with heap:=s.heap.push { cls:=.type "range",data:=.fields #[.int lo t,.int hi u,.int 1 v] },toks:=tk }:=by
 refine wpAny_pyIter_range (IsRange.new ..) (small_one h1 h2 h3 h4) ?_
 have I1:Inv X pins σ H { s with heap:=s.heap.push { cls:=.type "range",data:=.fields #[.int lo t,.int hi u,.int 1 v] },toks:=tk }:=I.kept fun b o e=>OT _ e
 refine ⟨(s.heap.push { cls:=.type "range",data:=.fields #[.int lo t,.int hi u,.int 1 v] }).objs.size,[(s.heap.push { cls:=.type "range",data:=.fields #[.int lo t,.int hi u,.int 1 v] }).objs.size],_,_,H,rfl,
  I1.kept (t':=tk) fun b o e=>OT _ e,tQ _ lo (hi - lo).toNat,?_,fun b hb=>?_,q⟩
 ·have e1:lo + ((0:Nat):Int) * 1 = lo:=by simp
  have e2:(((hi - lo).toNat:Nat):Int) - ((0:Nat):Int) = Builtin.Range.rangeSize lo hi 1:=by rw [rangeSize_one];split <;> lia
  show IsRangeIter _ _ (lo + ((0:Nat):Int) * 1) ((((hi - lo).toNat:Nat):Int) - ((0:Nat):Int)) 1
  rw [e1,e2]
  exact O3 _ rfl
 ·have e:b = (s.heap.push { cls:=.type "range",data:=.fields #[.int lo t,.int hi u,.int 1 v] }).objs.size:=by simpa using hb
  subst e
  exact I1.fpOk (OH _) (I1.hok.fresh (OH _))
noncomputable def IG (ta:TA):TI:=fun σ H R=>ta σ H fun vs H1=>∃ j:Int,vs = [.int j] /\ -(2 ^ 62) <= j /\ j < 2 ^ 62 /\ R (Itr 0 j.toNat) H1
theorem vH {a:Expr} {ta:TA} {p pos:Pos} (hg:Gl X "range") (hm:X.mg "range" = none) (ha:PA X [a] ta) (hs:starEach [a] X.env = [(false,eval a X.env)]:=by rfl):PI X tg (.Call (.Name "range" p) [a] [] pos) (IG ta):=by
 intro pins s σ H R I h
 refine Call_ (mL I hg hm boot_range (RG (thn (ha pos pins s σ H _ I h) fun us s1 hpt9=>?_) hs rfl))
 obtain ⟨vs,H1,I1,r1,q1⟩:=hpt9
 obtain ⟨j,e,q1,q2,q⟩:=q1
 subst e
 cases r1 with
 | cons r rr=>
  cases rr
  obtain ⟨t,rfl⟩:=r
  exact call_range_1 (FP I1 (by lia) (by lia) q1 q2 (by simpa using q))
noncomputable def Ip (wi:TI) (g:TG) (tb:TS):TS:=fun D σ H=>wi σ H fun J H1=>∃ W:Nat -> Nat -> St -> Hp -> Prop,(∃ m,W 0 m σ H1) /\ ∀ i m σ H,W i m σ H ->
 (J.stop i H /\ D.nx σ H) \/ (J.go i H /\ ∃ N:St -> Hp -> Prop,(∀ σ' H',N σ' H' -> ∃ m',m' < m /\ W (i + 1) m' σ' H') /\ ∀ x H',J.yld i H x H' -> g x σ H' fun σ2 H2=>tb { D with nx:=N,ct:=N,bk:=D.nx } σ2 H2)
noncomputable def pf (fp:List Addr) (h:Heap):List (Addr × Obj):=fp.filterMap fun b=>(h.get? b).map fun o=>(b,o)
theorem gI {fp:List Addr} {h:Heap} {b:Addr} {o:Obj} (hb:b ∈ fp) (e:h.get? b = some o):(b,o) ∈ pf fp h:=RH.mpr ⟨b,hb,by rw [e];rfl⟩
theorem DG {fp:List Addr} {h:Heap} {p:Addr × Obj} (hp:p ∈ pf fp h):p.1 ∈ fp /\ h.get? p.1 = some p.2:=by
 obtain ⟨b,hb,e⟩:=RH.mp hp
 cases q:h.get? b with
 | none=>rw [q] at e;cases e
 | some o=>
  rw [q] at e
  have e':(b,o) = p:=Pj e
  subst e'
  exact ⟨hb,q⟩
theorem Inv.pinned {pins:List (Addr × Obj)} {σ:St} {H:Hp} {s:Shared} {fp:List Addr} (I:Inv X pins σ H s) (hf:∀ b ∈ fp,rp X pins H b) (ho:∀ b ∈ fp,∃ o,s.heap.get? b = some o /\ ∀ v,o.data ≠ .cell v):Inv X (pins ++ pf fp s.heap) σ H s:=
 I.pins_of fun p hp=>(OV.mp hp).elim (fun z=>I.pin p (OU _ z)) fun z=>by
  obtain ⟨hb,e⟩:=DG z
  obtain ⟨f0,f1,f2,_⟩:=hf p.1 hb
  obtain ⟨o,e',d⟩:=ho p.1 hb
  rw [e] at e';cases e'
  exact ⟨e,f0,f1,f2,d⟩
theorem Inv.unpinned {pins pl:List (Addr × Obj)} {σ:St} {H:Hp} {s:Shared} (I:Inv X (pins ++ pl) σ H s):Inv X pins σ H s:=I.pins_of fun p hp=>I.pin p (OU _ (OY _ hp))
theorem d6 {iter:Expr} {body:List Stmt} {wi:TI} {g:TG} {tb:TS} {pos:Pos} (hp:PassesOwn (model X.prog X.w) X.A X.env X.xe) (hc:X.calm = true) (hi:PI X tg iter wi) (hg:PG X tg g) (hb:PSs X body tb)
  (hs:∀ x,foldedSetIterable iter X.env x = pure x:=by intro _;rfl):PS X (.For tg iter body [] pos) (Ip wi g tb):=by
 intro pins s σ H D I h
 refine wpAny_For (thn (hi pins s σ H _ I h) fun v s1 h1=>thn h1 fun itv s2 h2=>?_) hs
 obtain ⟨it,fp,tn,J,H2,e,I2,T,st2,f2,W,⟨m0,w0⟩,turn⟩:=h2
 subst e
 -- what stays true of the iterator's objects through the loop
 have stat:∀ {H':Hp},(∀ b ∈ fp,H' b = none) -> ∀ b ∈ fp,rp X pins H' b:=fun hn b hb=>⟨hn b hb,(f2 b hb).2⟩
 refine codeAny_forLoop_any (fun n s'=>∃ i σ' H',Inv X pins σ' H' s' /\ tn i s'.heap /\ (∀ b ∈ fp,H' b = none) /\ W i n σ' H') ?_ m0 ⟨0,σ,H2,I2,st2,fun b hb=>(f2 b hb).1,w0⟩
 rintro n s3 ⟨i,σ3,H3,I3,st3,fr3,w3⟩
 rcases turn i n σ3 H3 w3 with ⟨stop,qn⟩ | ⟨go,N,hN,step⟩
 ·refine Qz hp (thn (T.done X rfl rfl rfl hc i pins s3 σ3 H3 X.xe I3 (stat fr3) st3 stop) fun r s4 ⟨hr,I4⟩=>?_)
  subst hr
  exact RF ⟨σ3,H3,I4,qn⟩
 ·refine Qz hp (thn (T.item X rfl rfl rfl hc i pins s3 σ3 H3 X.xe I3 (stat fr3) st3 go) fun r s4 ⟨u,hr,h4⟩=>?_)
  subst hr
  refine Qz hp (thn h4 fun _ s5 hpt9=>?_)
  obtain ⟨x,H5,I5,r5,y5,st5,fr5⟩:=hpt9
  have I5':=I5.pinned (stat fr5) (T.obj _ _ st5)
  refine Qz hp (thn (hg _ s5 σ3 H5 x u _ I5' r5 (step x H5 y5)) fun _ s6 hpt9=>?_)
  obtain ⟨σ6,H6,I6,q6⟩:=hpt9
  refine Qz hp (thn (hb _ s6 σ6 H6 _ I6 q6) fun f s7 q7=>?_)
  have again:∀ {σ7:St} {H7:Hp},Inv X (pins ++ pf fp s5.heap) σ7 H7 s7 -> N σ7 H7 -> ∃ m,m < n /\ ∃ i σ' H',Inv X pins σ' H' s7 /\ tn i s7.heap /\ (∀ b ∈ fp,H' b = none) /\ W i m σ' H':=fun {σ7 H7} I7 n7=>by
   obtain ⟨m',hm,w7⟩:=hN σ7 H7 n7
   refine ⟨m',hm,i + 1,σ7,H7,I7.unpinned,T.keep _ _ _ st5 fun b hb o e=>(I7.pin (b,o) (OU _ (OU _ (gI hb e)))).1,fun b hb=>?_,w7⟩
   obtain ⟨o,e,d⟩:=T.obj _ _ st5 b hb
   exact (I7.pin (b,o) (OU _ (OU _ (gI hb e)))).2.1
  cases f with
  | next=>obtain ⟨σ7,H7,I7,n7⟩:=q7;exact again I7 n7
  | cont=>obtain ⟨σ7,H7,I7,n7⟩:=q7;exact again I7 n7
  | brk=>obtain ⟨σ7,H7,I7,q7⟩:=q7;exact ⟨σ7,H7,I7.unpinned,q7⟩
  | ret v=>obtain ⟨x7,σ7,H7,I7,r7,q7⟩:=q7;exact ⟨x7,σ7,H7,I7.unpinned,r7,q7⟩
end
noncomputable abbrev R2:=V -> V -> Hp -> VK -> Prop
def OpR (X:Cx) (f:Value -> Value -> Sem Value) (r:R2):Prop:=
 ∀ (pins:List (Addr × Obj)) (s:Shared) (σ:St) (H:Hp) (x y:V) (v u:Value) (Q:VK),Inv X pins σ H s -> RelV x v -> RelV y u -> r x y H Q ->
  wpAny (model X.prog X.w) X.A (f v u) (EP X pins σ Q) X.xe s
def UnR (X:Cx) (f:Value -> Sem Value) (r:V -> Hp -> VK -> Prop):Prop:=
 ∀ (pins:List (Addr × Obj)) (s:Shared) (σ:St) (H:Hp) (x:V) (v:Value) (Q:VK),Inv X pins σ H s -> RelV x v -> r x H Q ->
  wpAny (model X.prog X.w) X.A (f v) (EP X pins σ Q) X.xe s
def CallR (X:Cx) (f:Value) (r:List V -> Hp -> VK -> Prop):Prop:=
 ∀ (pins:List (Addr × Obj)) (s:Shared) (σ:St) (H:Hp) (xs:List V) (us:List Value) (Q:VK),Inv X pins σ H s -> Vals xs us -> r xs H Q ->
  wpAny (model X.prog X.w) X.A (call f us) (EP X pins σ Q) X.xe s
def Mn (X:Cx) (r:V -> Hp -> (Bool -> Hp -> Prop) -> Prop):Prop:=
 ∀ (pins:List (Addr × Obj)) (s:Shared) (σ:St) (H:Hp) (x:V) (v:Value) (Q:Bool -> Hp -> Prop),Inv X pins σ H s -> RelV x v -> r x H Q ->
  wpAny (model X.prog X.w) X.A (truthy v) (TP X pins σ Q) X.xe s
noncomputable def tOp (r:R2) (ta tb:TE):TE:=fun σ H Q=>ta σ H fun x H1=>tb σ H1 fun y H2=>r x y H2 Q
noncomputable def tUn (r:V -> Hp -> VK -> Prop) (ta:TE):TE:=fun σ H Q=>ta σ H fun x H1=>r x H1 Q
noncomputable def rI (C:Int -> Int -> Prop) (g:Int -> Int -> V):R2:=fun x y H Q=>∃ i j,x = .int i /\ y = .int j /\ C i j /\ Q (g i j) H
noncomputable def rI0 (g:Int -> Int -> V):R2:=fun x y H Q=>∃ i j,x = .int i /\ y = .int j /\ Q (g i j) H
noncomputable def rU (g:Int -> V):V -> Hp -> VK -> Prop:=fun x H Q=>∃ i,x = .int i /\ Q (g i) H
section
variable {X:Cx} {a b c:Expr} {ta tb tc:TE} {pos:Pos}
theorem Jz (ha:PE X a ta) (hb:PE X b tb) {pins:List (Addr × Obj)} {s:Shared} {σ:St} {H:Hp} {R:V -> V -> Hp -> Prop} (I:Inv X pins σ H s)
  (h:ta σ H fun x H1=>tb σ H1 fun y H2=>R x y H2) {Q:Value -> Shared -> Prop} {f:Value -> Value -> Sem Value}
  (hf:∀ v u s2 x y H2,Inv X pins σ H2 s2 -> RelV x v -> RelV y u -> R x y H2 -> wpAny (model X.prog X.w) X.A (f v u) Q X.xe s2) :
  wpAny (model X.prog X.w) X.A (eval a X.env) (fun v s₁=>wpAny (model X.prog X.w) X.A (eval b X.env) (fun u s₂=>wpAny (model X.prog X.w) X.A (f v u) Q X.xe s₂) X.xe s₁) X.xe s:=by
 refine thn (ha pins s σ H _ I h) fun v s1 hpt9=>?_
 obtain ⟨x,H1,I1,r1,q1⟩:=hpt9
 refine thn (hb pins s1 σ H1 _ I1 q1) fun u s2 hpt9=>?_
 obtain ⟨y,H2,I2,r2,q2⟩:=hpt9
 exact hf v u s2 x y H2 I2 r1 r2 q2
theorem aO {op:Operator} {r:R2} (ho:OpR X (binaryOp op) r) (ha:PE X a ta) (hb:PE X b tb):PE X (.BinOp a op b pos) (tOp r ta tb):=by
 intro pins s σ H Q I h
 exact wpAny_BinOp (Jz ha hb I h fun v u s2 x y H2 I2 rx ry q=>ho pins s2 σ H2 x y v u Q I2 rx ry q)
theorem f7 {op:UnaryOp} {r:V -> Hp -> VK -> Prop} (ho:UnR X (unaryOp op) r) (ha:PE X a ta):PE X (.UnaryOp op a pos) (tUn r ta):=by
 intro pins s σ H Q I h
 exact UnaryOp_ (thn (ha pins s σ H _ I h) fun v s1 ⟨x,H1,I1,r1,q1⟩=>ho pins s1 σ H1 x v Q I1 r1 q1)
theorem opI {f:Value -> Value -> Sem Value} {C:Int -> Int -> Prop} {g:Int -> Int -> Int}
  (rule:∀ (i j:Int) (t u:Tok) (s:Shared) (Q:Value -> Shared -> Prop) (E:Value -> Shared -> Prop),C i j -> Q (.int (g i j) s.toks) { s with toks:=s.toks + 1 } -> wpAny (model X.prog X.w) X.A (f (.int i t) (.int j u)) Q E s) :
  OpR X f (rI C fun i j=>.int (g i j)):=by
 intro pins s σ H x y v u Q I rx ry h
 obtain ⟨i,j,rfl,rfl,hc,q⟩:=h
 obtain ⟨t,rfl⟩:=rx
 obtain ⟨t',rfl⟩:=ry
 exact rule i j t t' s _ _ hc ⟨.int (g i j),H,I.tok _,⟨_,rfl⟩,q⟩
theorem JZ {f:Value -> Value -> Sem Value} {g:Int -> Int -> Int}
  (rule:∀ (i j:Int) (t u:Tok) (s:Shared) (Q:Value -> Shared -> Prop) (E:Value -> Shared -> Prop),Q (.int (g i j) s.toks) { s with toks:=s.toks + 1 } -> wpAny (model X.prog X.w) X.A (f (.int i t) (.int j u)) Q E s) :
  OpR X f (rI0 fun i j=>.int (g i j)):=by
 intro pins s σ H x y v u Q I rx ry h
 obtain ⟨i,j,rfl,rfl,q⟩:=h
 obtain ⟨t,rfl⟩:=rx
 obtain ⟨t',rfl⟩:=ry
 exact rule i j t t' s _ _ ⟨.int (g i j),H,I.tok _,⟨_,rfl⟩,q⟩
theorem HK {f:Value -> Value -> Sem Value} {g:Int -> Int -> Bool}
  (rule:∀ (i j:Int) (t u:Tok) (s:Shared) (Q:Value -> Shared -> Prop) (E:Value -> Shared -> Prop),Q (.bool (g i j)) s -> wpAny (model X.prog X.w) X.A (f (.int i t) (.int j u)) Q E s) :
  OpR X f (rI0 fun i j=>.bl (g i j)):=by
 intro pins s σ H x y v u Q I rx ry h
 obtain ⟨i,j,rfl,rfl,q⟩:=h
 obtain ⟨t,rfl⟩:=rx
 obtain ⟨t',rfl⟩:=ry
 exact rule i j t t' s _ _ ⟨.bl (g i j),H,I,rfl,q⟩
def KI (i j:Int):Prop:=0 < j /\ j < 1073741824
def Jl (i j:Int):Prop:=0 <= j /\ j <= 1000000 /\ i.natAbs < 2 ^ 64
def CMul (i j:Int):Prop:=(-(2 ^ 64) < i /\ i < 2 ^ 64) \/ (-(2 ^ 64) < j /\ j < 2 ^ 64)
theorem CMul.ok {i j:Int} (h:CMul i j):IntMulOk i j:=by
 rcases h with ⟨h1,h2⟩ | ⟨h1,h2⟩
 ·exact .of_left (intBits_le_64 h1 h2)
 ·exact .of_right (intBits_le_64 h1 h2)
theorem op_add:OpR X (binaryOp .Add) (rI0 fun i j=>.int (i + j)):=JZ fun _ _ _ _ _ _ _ q=>add_int q
theorem xi:OpR X (binaryOp .Sub) (rI0 fun i j=>.int (i - j)):=JZ fun _ _ _ _ _ _ _ q=>sub_int q
theorem o9:OpR X (binaryOp .Mult) (rI CMul fun i j=>.int (i * j)):=opI fun _ _ _ _ _ _ _ hc q=>mul_int q hc.ok
theorem ie:OpR X (binaryOp .FloorDiv) (rI KI fun i j=>.int (i / j)):=opI fun i j _ _ _ _ _ hc q=>by
 have h1:(0:Int) < j:=hc.1
 have h2:j < 1073741824:=hc.2
 exact floordiv_int (by lia) (by rw [Int.fdiv_eq_ediv_of_nonneg i (by lia)];exact q) (.inl (PyProof.noPylong_small (by lia)))
theorem fW:OpR X (binaryOp .Mod) (rI (fun _ j=>0 < j) fun i j=>.int (i % j)):=opI fun i j _ _ _ _ _ hc q=>by
 have h1:(0:Int) < j:=hc
 exact mod_int' (by lia) (by rw [Int.fmod_eq_emod_of_nonneg i (by lia)];exact q)
theorem J4:OpR X (binaryOp .Pow) (rI Jl fun i j=>.int (i ^ j.toNat)):=opI fun _ _ _ _ _ _ _ hc q=>pow_int_small hc.1 hc.2.1 hc.2.2 q
theorem A8:OpR X (binaryOp .BitAnd) (rI0 fun i j=>.int (Builtin.bitAnd i j)):=JZ fun _ _ _ _ _ _ _ q=>and_int q
theorem unI {f:Value -> Sem Value} {g:Int -> Int}
  (rule:∀ (i:Int) (t:Tok) (s:Shared) (Q:Value -> Shared -> Prop) (E:Value -> Shared -> Prop),Q (.int (g i) s.toks) { s with toks:=s.toks + 1 } -> wpAny (model X.prog X.w) X.A (f (.int i t)) Q E s) :
  UnR X f (rU fun i=>.int (g i)):=by
 intro pins s σ H x v Q I rx h
 obtain ⟨i,rfl,q⟩:=h
 obtain ⟨t,rfl⟩:=rx
 exact rule i t s _ _ ⟨.int (g i),H,I.tok _,⟨_,rfl⟩,q⟩
theorem dE:UnR X (unaryOp .USub) (rU fun i=>.int (-i)):=unI fun _ _ _ _ _ q=>neg_int q
end
section
variable {X:Cx} {a b c:Expr} {ta tb tc:TE} {pos:Pos}
theorem JI {pins:List (Addr × Obj)} {σ:St} {H:Hp} {s:Shared} {Q:VK} {k k':Bool} (I:Inv X pins σ H s) (q:Q (.bl k) H) (e:k = k'):EP X pins σ Q (.bool k') s:=by
 subst e
 exact ⟨.bl k,H,I,rfl,q⟩
theorem IM:OpR X (compareOp .Lt) (rI0 fun i j=>.bl (decide (i < j))):=HK fun _ _ _ _ _ _ _ q=>lt_int q
theorem Ft:OpR X (compareOp .LtE) (rI0 fun i j=>.bl (decide (i <= j))):=HK fun _ _ _ _ _ _ _ q=>le_int q
theorem Ch:OpR X (compareOp .Gt) (rI0 fun i j=>.bl (decide (j < i))):=HK fun _ _ _ _ _ _ _ q=>gt_int q
theorem La:OpR X (compareOp .GtE) (rI0 fun i j=>.bl (decide (j <= i))):=HK fun _ _ _ _ _ _ _ q=>ge_int q
theorem J2:OpR X (compareOp .Is) (fun x y H Q=>y = .non /\ Q (.bl (decide (x = .non))) H):=by
 intro pins s σ H x y v u Q I rx ry h
 obtain ⟨rfl,q⟩:=h
 cases ry
 refine is_none_gen (JI I q ?_)
 cases x <;> first
  | (cases rx;rfl)
  | (obtain ⟨t,rfl⟩:=rx;rfl)
theorem OpR.or {f:Value -> Value -> Sem Value} {r r':R2} (h:OpR X f r) (h':OpR X f r'):OpR X f (fun x y H Q=>r x y H Q \/ r' x y H Q):=by
 intro pins s σ H x y v u Q I rx ry q
 rcases q with q | q
 ·exact h pins s σ H x y v u Q I rx ry q
 ·exact h' pins s σ H x y v u Q I rx ry q
theorem bg (b:Expr) {op:CmpOp} (h:op ≠ .In:=by decide) (h2:op ≠ .NotIn:=by decide):behindInMarks op b = false:=by
 have e1:(op == CmpOp.In) = false:=by cases op <;> first | rfl | exact absurd rfl h
 have e2:(op == CmpOp.NotIn) = false:=by cases op <;> first | rfl | exact absurd rfl h2
 cases b <;> simp [behindInMarks,e1,e2]
theorem ig {op:CmpOp} {r:R2} (ho:OpR X (compareOp op) r) (ha:PE X a ta) (hb:PE X b tb) (hm:behindInMarks op b = false):PE X (.Compare a [op] [b] pos) (tOp r ta tb):=by
 intro pins s σ H Q I h
 exact wpAny_Compare1 (Jz ha hb I h fun v u s2 x y H2 I2 rx ry q=>ho pins s2 σ H2 x y v u Q I2 rx ry q) hm
noncomputable def Ji (t:TE):TT:=fun σ H Q=>t σ H fun x H'=>∃ k,x = .bl k /\ Q k H'
theorem bf {op:CmpOp} {r:R2} (ho:OpR X (compareOp op) r) (ha:PE X a ta) (hb:PE X b tb) (hm:behindInMarks op b = false):PT X (.Compare a [op] [b] pos) (Ji (tOp r ta tb)):=by
 intro pins s σ H Q I h
 refine wpAny_isTrue_Compare1 (thn (ha pins s σ H _ I h) fun v s1 ⟨x,H1,I1,r1,q1⟩=>thn (hb pins s1 σ H1 _ I1 q1) fun u s2 ⟨y,H2,I2,r2,q2⟩=>
  thn (ho pins s2 σ H2 x y v u _ I2 r1 r2 q2) fun c s3 ⟨z,H3,I3,r3,k,e,q3⟩=>?_) hm
 subst e
 cases r3
 exact QL ⟨H3,I3,q3⟩
def Eh (K:W.Frag) (x:V) (H:Hp) (k:Bool):Prop:=
 match x with
 | .non=>k = false
 | .bl b=>k = b
 | .int i=>k = (i != 0)
 | .str y=>y.length <= sizeLine /\ k = ((y.length:Int) != 0)
 | .byt y=>y.size <= sizeLine /\ k = ((y.size:Int) != 0)
 | .ref p=>(∃ xs,SqL K H p xs /\ k = !xs.isEmpty) \/ (∃ xs,SqT K H p xs /\ k = !xs.isEmpty) \/ ∃ kvs,H p = some (.dK kvs) /\ k = !kvs.isEmpty
 | _=>False
theorem AK {κ:Type} {kvs:List (κ × V)} {vs:List (κ × Value)} (r:KV kvs vs):(!vs.isEmpty) = !kvs.isEmpty:=by
 cases r <;> rfl
theorem sn {xs:List V} {its:List Value} (r:Vals xs its):(!its.toArray.isEmpty) = !xs.isEmpty:=by
 cases r <;> simp
theorem oY:(sizeLine:Nat) < 2 ^ 63:=by rw [O2];decide
theorem KA:Mn X (fun x H Q=>∃ k,Eh X.K x H k /\ Q k H):=by
 intro pins s σ H x v Q I rx h
 obtain ⟨k,e,q⟩:=h
 have hl:=oY
 have hs:sizeLine = 16777216:=O2
 cases x with
 | non=>
  cases rx
  have e':k = false:=e
  subst e'
  exact truthy_none ⟨H,I,q⟩
 | bl b=>
  cases rx
  have e':k = b:=e
  subst e'
  exact QL ⟨H,I,q⟩
 | int i=>
  obtain ⟨t,rfl⟩:=rx
  have e':k = (i != 0):=e
  subst e'
  exact PySem.P.truthy_int ⟨H,I,q⟩
 | str y=>
  obtain ⟨t,rfl⟩:=rx
  obtain ⟨hy,e'⟩:y.length <= sizeLine /\ k = ((y.length:Int) != 0):=e
  subst e'
  exact PySem.P.truthy_str (by lia) ⟨H,I.tok _,q⟩
 | byt y=>
  obtain ⟨t,rfl⟩:=rx
  obtain ⟨hy,e'⟩:y.size <= sizeLine /\ k = ((y.size:Int) != 0):=e
  subst e'
  exact W.truthy_bytes (by lia) ⟨H,I.tok _,q⟩
 | ref p=>
  cases rx
  have e':(∃ xs,SqL X.K H p xs /\ k = !xs.isEmpty) \/ (∃ xs,SqT X.K H p xs /\ k = !xs.isEmpty) \/ ∃ kvs,H p = some (.dK kvs) /\ k = !kvs.isEmpty:=e
  rcases e' with ⟨xs,hx,e'⟩ | ⟨xs,hx,e'⟩ | ⟨kvs,hx,e'⟩
  ·subst e'
   obtain ⟨its,r,pl,hz⟩:=I.list hx
   have hlen:=r.length
   exact wpAny_truthy_list pl.isList (by simp only [O0];lia) ⟨H,I.tok _,by rw [sn r];exact q⟩
  ·subst e'
   obtain ⟨its,r,pl,hz⟩:=I.tuple hx
   have hlen:=r.length
   exact truthy_tuple pl (by simp only [O0];lia) ⟨H,I.tok _,by rw [sn r];exact q⟩
  ·subst e'
   obtain ⟨hz,hS,vs,r,m⟩:kvs.length <= sizeLine /\ (p == sysModules) = false /\ ∃ vs,KV kvs vs /\ s.heap.DictOf (bp X.prog X.w) p vs:=I.hok p _ hx
   have hlen:kvs.length = vs.length:=P7 r
   exact wpAny_truthy_dict hS m (by lia) ⟨H,I.tok _,by rw [AK r];exact q⟩
 | _=>exact (show False from e).elim
theorem dJ (ha:PE X a ta) (he:∀ whole,isTrue a X.env whole = (do let v ← whole;standAt a.pos;holding [v] (truthy v))) :
  PT X a (fun σ H Q=>ta σ H fun x H'=>∃ k,Eh X.K x H' k /\ Q k H'):=by
 intro pins s σ H Q I h
 exact isTrue_plain (thn (ha pins s σ H _ I h) fun v s1 ⟨x,H1,I1,r1,q1⟩=>KA pins s1 σ H1 x v Q I1 r1 q1) (he _)
theorem A7:OpR X (binaryOp .Add) (fun x y H Q=>∃ i j,x = .str i /\ y = .str j /\ i.length + j.length <= sizeLine /\ Q (.str (i ++ j)) H):=by
 intro pins s σ H x y v u Q I rx ry h
 obtain ⟨i,j,rfl,rfl,hz,q⟩:=h
 obtain ⟨t,rfl⟩:=rx
 obtain ⟨t',rfl⟩:=ry
 exact add_str (fun t' tk=>⟨.str (i ++ j),H,I.tok _,⟨_,rfl⟩,q⟩) hz
theorem zY {x:V} {us:List Value} (r:Vals [x] us):∃ u,us = [u] /\ RelV x u:=by
 cases r with
 | cons r1 r2=>cases r2;exact ⟨_,rfl,r1⟩
theorem L3 {x y:V} {us:List Value} (r:Vals [x,y] us):∃ u w',us = [u,w'] /\ RelV x u /\ RelV y w':=by
 cases r with
 | cons r1 r2=>
  cases r2 with
  | cons r3 r4=>cases r4;exact ⟨_,_,rfl,r1,r3⟩
theorem C5 (hc:X.calm = true):CallR X (.builtin "max") (fun xs H Q=>∃ i j,xs = [.int i,.int j] /\ Q (.int (if j > i then j else i)) H):=by
 intro pins s σ H xs us Q I r h
 obtain ⟨i,j,rfl,q⟩:=h
 obtain ⟨u,w',rfl,⟨t,rfl⟩,⟨t',rfl⟩⟩:=L3 r
 refine max_two_ints (I.ok.hd hc) fun h' tk k=>⟨_,H,I.kept k,?_,q⟩
 by_cases hj:j > i
 ·rw [OC hj,OC hj];exact ⟨_,rfl⟩
 ·rw [OB hj,OB hj];exact ⟨_,rfl⟩
theorem C4:CallR X (.type "int") (fun xs H Q=>(∃ i,xs = [.int i] /\ Q (.int i) H) \/ ∃ k,xs = [.bl k] /\ Q (.int (if k then 1 else 0)) H):=by
 intro pins s σ H xs us Q I r h
 rcases h with ⟨i,rfl,q⟩ | ⟨k,rfl,q⟩
 ·obtain ⟨u,rfl,t,rfl⟩:=zY r
  exact call_int_int ⟨.int i,H,I,⟨_,rfl⟩,q⟩
 ·obtain ⟨u,rfl,r1⟩:=zY r
  cases r1
  exact call_int_bool ⟨.int (if k then 1 else 0),H,I.tok _,⟨_,rfl⟩,q⟩
def KL (K:W.Frag) (x:V) (H:Hp) (n:Nat):Prop:=
 match x with
 | .str y=>y.length <= sizeLine /\ n = y.length
 | .byt y=>y.size <= sizeLine /\ n = y.size
 | .ref p=>(∃ xs,SqL K H p xs /\ n = xs.length) \/ ∃ xs,SqT K H p xs /\ n = xs.length
 | _=>False
theorem En:CallR X (.builtin "len") (fun xs H Q=>∃ x n,xs = [x] /\ KL X.K x H n /\ Q (.int n) H):=by
 intro pins s σ H xs us Q I r h
 obtain ⟨x,n,rfl,e,q⟩:=h
 obtain ⟨u,rfl,rx⟩:=zY r
 have hl:=oY
 have hs:sizeLine = 16777216:=O2
 cases x with
 | str y=>
  obtain ⟨t,rfl⟩:=rx
  obtain ⟨hy,e'⟩:y.length <= sizeLine /\ n = y.length:=e
  subst e'
  exact len_str (by lia) ⟨.int _,H,I.tok _,⟨_,rfl⟩,q⟩
 | byt y=>
  obtain ⟨t,rfl⟩:=rx
  obtain ⟨hy,e'⟩:y.size <= sizeLine /\ n = y.size:=e
  subst e'
  exact W.len_bytes (by lia) ⟨.int _,H,I.tok _,⟨_,rfl⟩,q⟩
 | ref p=>
  cases rx
  have e':(∃ xs,SqL X.K H p xs /\ n = xs.length) \/ ∃ xs,SqT X.K H p xs /\ n = xs.length:=e
  rcases e' with ⟨xs,hx,e'⟩ | ⟨xs,hx,e'⟩
  ·subst e'
   obtain ⟨its,r',pl,hz⟩:=I.list hx
   have hlen:=r'.length
   exact Calls.call_len_list pl.isList (by simp only [O0];lia) ⟨.int xs.length,H,I.tok _,⟨_,by simp only [O0];rw [hlen]⟩,q⟩
  ·subst e'
   obtain ⟨its,r',pl,hz⟩:=I.tuple hx
   have hlen:=r'.length
   exact len_tuple pl (by simp only [O0];lia) ⟨.int xs.length,H,I.tok _,⟨_,by simp only [O0];rw [hlen]⟩,q⟩
 | _=>exact (show False from e).elim
end
structure ObjM (h:Heap) (x dx C:Addr) (mA:Str -> Option Value):Prop where
 obj:h.get? x = some (W.instObj C dx)
 ns:h.Ns1 dx mA
 ne:dx ≠ x
theorem Dv {h:Heap} {dx:Addr} {mA:Str -> Option Value} (n:h.Ns1 dx mA):∃ od,h.get? dx = some od /\ ∀ name,W.lookIn name od = some (mA name):=by
 obtain ⟨o,es,ep,ho,hd,hk,_,hm⟩:=n
 refine ⟨o,ho,fun name=>?_⟩
 have e:=hm name
 unfold nsFind findBy at e
 rw [<- Array.find?_toList] at e
 unfold W.lookIn
 rw [hd]
 dsimp only
 split
 ·rename_i y q
  rw [q] at e
  exact OZ some e
 ·rename_i q
  rw [q] at e
  have a:es.toList.any (·.refKey) = false:=by
   rw [List.any_eq_false]
   intro y hy
   obtain ⟨z,t,hkey⟩:=hk y (Array.mem_toList_iff.mp hy)
   simp [DictEntry.refKey,hkey]
  have a':¬ es.toList.any (·.refKey) = true:=by rw [a];exact Px
  rw [OB a']
  exact OZ some e
theorem ObjM.look {h:Heap} {x dx C:Addr} {mA:Str -> Option Value} (I:ObjM h x dx C mA):∃ od,W.InstAt h x (W.instObj C dx) C (some od) /\ ∀ name,W.lookIn name od = some (mA name):=
 let ⟨od,ho,hl⟩:=Dv I.ns
 ⟨od,⟨I.obj,rfl,rfl,ho⟩,hl⟩
section
variable {prog:Program} {w:World} {A:Around} {E:Value -> Shared -> Prop} {s:Shared} {K:W.Frag} {x dx C f:Addr} {mA:Str -> Option Value} {name:Str} {v:Value}
end
section
variable {P:Program} {w:World} {H H':Hp} {h h':Heap} {a C dx:Addr} {fs fs':List (Str × V)}
theorem Ht (hok:HOk P w H h) (e:H a = some (.ins C dx fs)):∃ mA,ObjM h a dx C mA /\ (∀ f,RelO (fs.lookup f) (mA f)) /\ PySem.Within mA (fs.map (·.1)) /\ fs.length <= 1000 /\ H dx = some (.own a):=by
 obtain ⟨d,z,ne,ob,mA,n,r,q⟩:=(show ObjOk P w H h a (.ins C dx fs) from hok a _ e)
 exact ⟨mA,⟨ob,n,ne⟩,r,q,z,d⟩
end
structure Cls (K:W.Frag) (C:Addr):Prop where
 pg:W.plainGet K C Str.empty = true
 hd:W.hasDictIn K C = true
 po:W.plainOver K C = true
 sa:W.findIn K (.ref C) "__setattr__" = some (some (.builtin "object.__setattr__"))
theorem Cls.get {K:W.Frag} {C:Addr} (c:Cls K C) (f:Str):W.plainGet K C f = true:=c.pg
section
variable {X:Cx} {pins:List (Addr × Obj)} {σ:St} {H:Hp} {s:Shared} {a C dx:Addr} {fs:List (Str × V)} {f:Str} {v:V} {A:Around} {E:Value -> Shared -> Prop}
end
section
variable {X:Cx} {o e value:Expr} {f:Str} {pos pos' tpos:Pos} {ta tv:TE}
end
section
variable {X:Cx} {pins:List (Addr × Obj)} {σ:St} {H:Hp} {s:Shared} {A:Around} {E:Value -> Shared -> Prop} {Q:Value -> Shared -> Prop} {c:Value} {b:Bool}
inductive TyOf (K:W.Frag) (H:Hp):V -> Value -> Prop where
 | non:TyOf K H .non (.type "NoneType")
 | bl (x:Bool):TyOf K H (.bl x) (.type "bool")
 | int (i:Int):TyOf K H (.int i) (.type "int")
 | str (x:Str):TyOf K H (.str x) (.type "str")
 | flt (x:UInt64):TyOf K H (.flt x) (.type "float")
 | lst {a:Addr} {xs:List V} (e:H a = some (.lst xs)):TyOf K H (.ref a) (.type "list")
 | frz {a:Addr} {o:Obj} {xs:List V} (e:H a = some (.frz o (.lst xs))):TyOf K H (.ref a) (.type "list")
 | tup {a:Addr} {xs:List V} (e:H a = some (.tup xs)):TyOf K H (.ref a) (.type "tuple")
 | dK {a:Addr} {kvs:List (Key × V)} (e:H a = some (.dK kvs)):TyOf K H (.ref a) (.type "dict")
 | dT {a:Addr} {kvs:List (List Key × V)} (e:H a = some (.dT kvs)):TyOf K H (.ref a) (.type "dict")
 | ins {a C dx:Addr} {fs:List (Str × V)} (e:H a = some (.ins C dx fs)) (cl:Cls K C) (ha:W.findIn K (.ref C) "__class__" = some (some (.builtin "object.__class__")))
   (hn:W.specialIn K (.builtin "object.__class__") "__get__" = some (some (.builtin "getset_descriptor.__get__"))) (htk:W.takesIn K (.builtin "object.__class__") = some true)
   (hm:W.mroIn K C (.type "object") = some true):TyOf K H (.ref a) (.ref C)
theorem lj {x:V} {u t:Value} (I:Inv X pins σ H s) (rx:RelV x u) (ty:TyOf X.K H x t) (e:W.kitOne X.K t c = some b) (h:∀ tk,Q (.bool b) { s with toks:=tk }) :
  wpAny (model X.prog X.w) A (call (.builtin "isinstance") [u,c]) Q E s:=by
 cases ty with
 | non=>cases (show u = Value.none from rx);exact Py W.kitx_none I.kIn True.intro e (fun z=>nomatch z) h
 | bl y=>cases (show u = Value.bool y from rx);exact Py W.kitx_bool I.kIn True.intro e (fun z=>nomatch z) h
 | int i=>obtain ⟨t,q⟩:=(show ∃ t,u = Value.int i t from rx);cases q;exact Py W.kitx_int I.kIn True.intro e (fun z=>nomatch z) h
 | str y=>obtain ⟨t,q⟩:=(show ∃ t,u = Value.str y t from rx);cases q;exact Py W.kitx_str I.kIn True.intro e (fun z=>nomatch z) h
 | flt y=>obtain ⟨t,q⟩:=(show ∃ t,u = Value.float y t from rx);cases q;exact Py W.kitx_float I.kIn True.intro e (fun z=>nomatch z) h
 | @lst a xs ea=>
  cases (show u = Value.ref a from rx)
  obtain ⟨_,_,n,_,h1⟩:=(show ObjOk X.prog X.w H s.heap a (.lst xs) from I.hok a _ ea)
  exact Py W.kitx_list I.kIn ⟨_,h1,rfl⟩ e (fun z=>nomatch z) h
 | @frz a ob xs ea=>
  cases (show u = Value.ref a from rx)
  obtain ⟨_,_,_,n,_,h1⟩:=(show ObjOk X.prog X.w H s.heap a (.frz ob (.lst xs)) from I.hok a _ ea)
  exact Py W.kitx_list I.kIn ⟨_,h1,rfl⟩ e (fun z=>nomatch z) h
 | @tup a xs ea=>
  cases (show u = Value.ref a from rx)
  obtain ⟨_,_,_,p⟩:=(show ObjOk X.prog X.w H s.heap a (.tup xs) from I.hok a _ ea)
  obtain ⟨o,h1,h2,_⟩:=p
  exact Py W.kitx_tuple I.kIn ⟨o,h1,h2⟩ e (fun z=>nomatch z) h
 | @dK a kvs ea=>
  cases (show u = Value.ref a from rx)
  obtain ⟨_,_,vs,_,p⟩:=(show ObjOk X.prog X.w H s.heap a (.dK kvs) from I.hok a _ ea)
  obtain ⟨o,es,ep,h1,h2,_⟩:=p
  exact Py W.kitx_dict I.kIn ⟨o,h1,h2.1⟩ e (fun z=>nomatch z) h
 | @dT a kvs ea=>
  cases (show u = Value.ref a from rx)
  obtain ⟨_,_,xs,_,o,es,ep,h1,h2,_⟩:=(show ObjOk X.prog X.w H s.heap a (.dT kvs) from I.hok a _ ea)
  exact Py W.kitx_dict I.kIn ⟨o,h1,h2.1⟩ e (fun z=>nomatch z) h
 | @ins a C dx fs ea cl ha hn htk hm=>
  cases (show u = Value.ref a from rx)
  obtain ⟨mA,O,_⟩:=Ht I.hok ea
  obtain ⟨od,J,_⟩:=O.look
  exact Py (W.kitx_own (cl.get _) cl.hd ha hn htk hm) I.kIn J e (fun z=>nomatch z) h
end
structure Room (k:Nat) (A:Around):Prop where
 hd:A.handled = none
 dp:A.depth + 3 * k + 5 < recursionLimit
 un:A.units + 16 * k + 200 < cLine
theorem Room.mono {j k:Nat} {A:Around} (r:Room k A) (h:j <= k):Room j A:=⟨r.hd,by have:=r.dp;lia,by have:=r.un;lia⟩
theorem Room.deeper {k:Nat} {A:Around} (r:Room (k + 1) A) (env:Env):Room k (A.deeper env):=
 ⟨r.hd,by have:=r.dp;show A.depth + 1 + 3 * k + 5 < _;lia,by have:=r.un;show A.units + 3 + 16 * k + 200 < _;lia⟩
theorem Room.depth {k:Nat} {A:Around} (r:Room k A):A.depth < recursionLimit:=by have:=r.dp;lia
theorem Room.units {k:Nat} {A:Around} (r:Room k A):A.units + 64 < cLine:=by have:=r.un;lia
noncomputable def mV:TA:=fun _ H Q=>Q [] H
noncomputable def eW (ta:TE) (tr:TA):TA:=fun σ H Q=>ta σ H fun x H1=>tr σ H1 fun xs H2=>Q (x :: xs) H2
section
variable {X:Cx} {e:Expr} {es:List Expr} {te:TE} {t:TA} {pos:Pos}
theorem ah:PA X [] mV:=fun _ _ _ _ H Q I h=>Calls.spliced_nil ⟨[],H,I,.nil,h⟩
theorem ab (ha:PE X e te) (hr:PA X es t) (hs:starEach (e :: es) X.env = (false,eval e X.env) :: starEach es X.env:=by rfl):PA X (e :: es) (eW te t):=by
 intro pos pins s σ H Q I h
 rw [hs]
 show wpAny _ _ (spliced ((false,eval e X.env) :: backTo pos (starEach es X.env))) _ _ s
 refine Calls.spliced_cons (thn (ha pins s σ H _ I h) fun u s1 hpt9=>?_)
 obtain ⟨x,H1,I1,r1,q1⟩:=hpt9
 exact thn (hr pos pins s1 σ H1 _ I1 q1) fun us s2 ⟨xs,H2,I2,r2,q2⟩=>⟨x :: xs,H2,I2,.cons r1 r2,q2⟩
noncomputable def Iq (t:TA):TE:=fun σ H Q=>t σ H fun xs H1=>xs.length <= sizeLine /\ ∀ p,H1 p = none -> Q (.ref p) (upd H1 p (.tup xs))
noncomputable def Kz (t:TA):TE:=fun σ H Q=>t σ H fun xs H1=>xs.length <= sizeLine /\ ∀ p,H1 p = none -> Q (.ref p) (upd H1 p (.lst xs))
theorem aU {x1} (h:PA X es t):PE X (.Tuple es x1 pos) (Iq t):=by
 intro pins s σ H Q I hq
 refine wpAny_Tuple_spliced (thn (h pos pins s σ H _ I hq) fun us s1 ⟨xs,H1,I1,r,z,q⟩=>⟨by rw [<- r.length];exact z,?_⟩)
 have hf:H1 s1.heap.objs.size = none:=I1.hok.fresh (OH _)
 refine ⟨.ref s1.heap.objs.size,upd H1 s1.heap.objs.size (.tup xs),I1.laid (t':=s1.toks) (fun b u e=>OT _ e) (OH _) ?_,rfl,q _ hf⟩
 exact ⟨z,us,r,⟨_,O3 _ rfl,rfl,_,rfl⟩⟩
theorem dZ (h:PA X es t):PE X (.List es pos) (Kz t):=by
 intro pins s σ H Q I hq
 refine wpAny_List_spliced (thn (h pos pins s σ H _ I hq) fun us s1 ⟨xs,H1,I1,r,z,q⟩=>⟨by rw [<- r.length];exact z,?_⟩)
 have hf:H1 s1.heap.objs.size = none:=I1.hok.fresh (OH _)
 refine ⟨.ref s1.heap.objs.size,upd H1 s1.heap.objs.size (.lst xs),I1.laid (t':=s1.toks) (fun b u e=>OT _ e) (OH _) ?_,rfl,q _ hf⟩
 exact ⟨z,us,0,r,O3 _ rfl⟩
end
noncomputable abbrev Sp:=List V -> Hp -> VK -> XK -> Prop
noncomputable abbrev CXT:=List Env -> Hp -> Shared -> XK -> Value -> Shared -> Prop
structure Env0 (P:Program) (w:World) (K:W.Frag) (mg:Str -> Option Value) (base:Heap) (A:Around) (outer:List Env) (s:Shared) (H:Hp):Prop where
 frames:A.frames = some outer
 mod:Mod K mg base
 bs:∀ b o,base.get? b = some o -> s.heap.get? b = some o /\ H b = none
 bsz:base.objs.size <= s.heap.objs.size
 funs:s.heap.FunFrames base outer
 frf:∀ b ∈ frs outer,H b = none
 hok:HOk P w H s.heap
 bare:AllBare s.gens
def CE (outer:List Env) (P:Program) (w:World) (H:Hp) (s:Shared) (Q:VK) (u:Value) (s':Shared):Prop:=
 ∃ v H',s'.os = s.os /\ AllBare s'.gens /\ Un (frs outer) [] H H' s.heap s'.heap /\ HOk P w H' s'.heap /\ RelV v u /\ Q v H'
def CR (CX:CXT) (outer:List Env) (P:Program) (w:World) (H:Hp) (s:Shared) (Q:VK) (E:XK) (r:Result) (s':Shared):Prop:=
 match r with
 | .ok (.ret u)=>CE outer P w H s Q u s'
 | .ok _=>False
 | .error e=>CX outer H s E e s'
structure FnOk (P:Program) (w:World) (K:W.Frag) (mg:Str -> Option Value) (base:Heap) (CX:CXT) (k:Nat) (f:Addr) (fd:FuncData) (ps:List Str) (sp:Sp):Prop where
 len:∀ vs H Q E,sp vs H Q E -> vs.length = ps.length
 run:∀ (A:Around) (outer:List Env) (s:Shared) (H:Hp) (args:Args) (us:List Value) (vs:List V) (Q:VK) (E:XK),Room k A -> Env0 P w K mg base A outer s H -> BindsTo s fd args (ps.zip us) -> Vals vs us -> sp vs H Q E ->
  codeAny (model P w) A (.call (.ref f) args) (CR CX outer P w H s Q E) s
section
variable {X:Cx} {pins:List (Addr × Obj)} {σ:St} {H:Hp} {s s':Shared}
theorem Inv.env0 (I:Inv X pins σ H s):Env0 X.prog X.w X.K X.mg X.base X.A X.stack s H:=
 ⟨I.ok.frames,I.ok.mod,I.bs,OW I.ok.bsz I.sz,I.stack,I.stkFree,I.hok,I.bare⟩
theorem Inv.after {Q:VK} {u:Value} (I:Inv X pins σ H s) (h:CE X.stack X.prog X.w H s Q u s'):EP X pins σ Q u s':=by
 obtain ⟨v,H',os,bare,un,hok,r,q⟩:=h
 obtain ⟨hh,g,d,t,os'⟩:=s'
 obtain rfl:os' = s.os:=os
 exact ⟨v,H',I.call (h':=hh) (g':=g) (d':=d) (t':=t) (ch:=[]) un hok bare (fun b z=>absurd z (by simp)),r,q⟩
end
noncomputable def tP (sp:Sp) (dvs:List V) (E:XK) (t:TA):TE:=fun σ H Q=>t σ H fun vs H1=>sp (vs ++ dvs) H1 Q E
def Binds (K:W.Frag) (fd:FuncData) (ps:List Str) (ds:List Value):Prop:=
 ∀ (s:Shared) (us:List Value),K.In s.heap -> (us ++ ds).length = ps.length -> BindsTo s fd ⟨us,[]⟩ (ps.zip (us ++ ds))
theorem Binds.all {K:W.Frag} {fd:FuncData} {ps:List Str} (h:∀ us:List Value,us.length = ps.length -> bindArgs fd ⟨us,[]⟩ = pure (ps.zip us)):Binds K fd ps []:=fun s us _ hl=>by
 rw [Pd] at hl ⊢
 exact .of_eq (h us hl)
def Ac (CX:CXT) (X:Cx) (E:XK):Prop:=∀ (pins:List (Addr × Obj)) (σ:St) (H:Hp) (s:Shared) (e:Value) (s':Shared),Inv X pins σ H s -> CX X.stack H s E e s' -> X.xe e s'
section
variable {X:Cx} {CX:CXT} {k:Nat} {f C:Addr} {fd:FuncData} {ps:List Str} {sp:Sp} {dvs:List V} {ds:List Value} {E:XK} {x m:Str} {p pos apos:Pos} {e o:Expr} {es:List Expr} {ta:TE} {t:TA}
theorem Kh {pins:List (Addr × Obj)} {σ:St} {H:Hp} {s:Shared} {Q:VK} {us:List Value} {vs:List V} (F:FnOk X.prog X.w X.K X.mg X.base CX k f fd ps sp) (hr:Room k X.A) (hb:Binds X.K fd ps ds) (hd:Vals dvs ds) (hx:Ac CX X E)
  (I:Inv X pins σ H s) (r:Vals vs us) (h:sp (vs ++ dvs) H Q E):wpAny (model X.prog X.w) X.A (call (.ref f) us) (EP X pins σ Q) X.xe s:=by
 have r2:Vals (vs ++ dvs) (us ++ ds):=r.append hd
 have hl:(us ++ ds).length = ps.length:=by rw [<- r2.length];exact F.len _ _ _ _ h
 refine wpAny_call (Rb (F.run X.A X.stack s H ⟨us,[]⟩ (us ++ ds) (vs ++ dvs) Q E hr I.env0 (hb s us I.kIn hl) r2 h) fun r s' hq=>?_)
 cases r with
 | error e=>exact hx pins σ H s e s' I hq
 | ok fl=>
  cases fl with
  | ret u=>exact I.after hq
  | next=>exact False.elim hq
  | brk=>exact False.elim hq
  | cont=>exact False.elim hq
theorem aX (F:FnOk X.prog X.w X.K X.mg X.base CX k f fd ps sp) (hr:Room k X.A) (hg:Gl X x) (hm:X.mg x = some (.ref f)) (hk:W.keepIn X.K (.ref f) = true) (hb:Binds X.K fd ps ds) (hd:Vals dvs ds) (hx:Ac CX X E)
  (ha:PA X (e :: es) t) (hdb:(x == ("__debug__" : Str)) = false:=by decide) (he:starEach (e :: es) X.env = (false,eval e X.env) :: starEach es X.env:=by rfl) (hpl:(backTo pos (starEach es X.env)).any (·.1) = false:=by rfl) :
  PE X (.Call (.Name x p) (e :: es) [] pos) (tP sp dvs E t):=by
 intro pins s σ H Q I h
 refine Rc (Cd I hg hm ?_ hdb)
 refine W.callWith_K (h₀:=X.base) I.ok.mod.kin hk (thn (ha pos pins s σ H _ I h) fun us s1 ⟨vs,H1,I1,r,q⟩=>⟨I1.kIn,?_⟩) he hpl
 exact Kh F hr hb hd hx I1 r q
end
section
variable {X:Cx} {CX:CXT} {k:Nat} {f C:Addr} {fd:FuncData} {ps ks:List Str} {sp:Sp} {E:XK} {x m:Str} {p pos apos kpos:Pos} {e o:Expr} {es:List Expr} {kws:List Keyword} {te ta:TE} {t tk:TA} {nm:Option Str}
variable {g:List Value -> List Value -> List Value} {gV:List V -> List V -> List V}
end
structure FnScope (N P:List Str) (sc:Scope):Prop where
 kind:sc.kind = .function
 co:sc.isCoroutine = false
 gen:sc.isGenerator = false
 nd:N.Nodup
 pre:N.take P.length = P
 par:∀ x ∈ P,sc.names.lookup x = some .local \/ sc.names.lookup x = some .cell
 nofree:∀ y ∈ sc.names,y.2 ≠ .free
theorem uW {kindOf:Str -> Option NameKind} {x:Str}:∀ {binds:List (Str × Value)} {m:Str -> Option Value},(∀ v,(x,v) ∉ binds) -> bindL kindOf binds m x = m x
 | [],_,_=>rfl
 | (n,v) :: r,m,h=>by
  unfold bindL
  rw [uW fun w hw=>h w (OK _ hw)]
  split
  ·have:x ≠ n:=by rintro rfl;exact h v OI
   simp [this]
  ·rfl
theorem uU {kindOf:Str -> Option NameKind} {x:Str}:∀ {binds:List (Str × Value)} {m:Str -> Option Value},(∀ v,(x,v) ∉ binds) -> bindC kindOf binds m x = m x
 | [],_,_=>rfl
 | (n,v) :: r,m,h=>by
  unfold bindC
  rw [uU fun w hw=>h w (OK _ hw)]
  split
  ·rfl
  ·have:x ≠ n:=by rintro rfl;exact h v OI
   simp [this]
theorem uV {kindOf:Str -> Option NameKind} {x:Str} {v:Value}:∀ {P:List Str} {vs:List Value} {i:Nat} {m:Str -> Option Value},P.Nodup -> P[i]? = some x -> vs[i]? = some v -> kindOf x = some .local ->
  bindL kindOf (P.zip vs) m x = some v
 | [],_,_,_,_,h,_,_=>by simp at h
 | _ :: _,[],_,_,_,_,h,_=>by simp at h
 | p :: P,w :: vs,0,m,nd,h1,h2,hk=>by
  simp at h1 h2;subst h1;subst h2
  show bindL kindOf ((p,w) :: P.zip vs) m p = _
  unfold bindL
  rw [uW fun v hv=>(O4.mp nd).1 (List.of_mem_zip hv).1,OC hk]
  simp
 | p :: P,w :: vs,i + 1,m,nd,h1,h2,hk=>by
  show bindL kindOf ((p,w) :: P.zip vs) m x = _
  unfold bindL
  exact uV (i:=i) (O4.mp nd).2 (by simpa using h1) (by simpa using h2) hk
theorem uT {kindOf:Str -> Option NameKind} {x:Str} {v:Value}:∀ {P:List Str} {vs:List Value} {i:Nat} {m:Str -> Option Value},P.Nodup -> P[i]? = some x -> vs[i]? = some v -> kindOf x ≠ some .local ->
  bindC kindOf (P.zip vs) m x = some v
 | [],_,_,_,_,h,_,_=>by simp at h
 | _ :: _,[],_,_,_,_,h,_=>by simp at h
 | p :: P,w :: vs,0,m,nd,h1,h2,hk=>by
  simp at h1 h2;subst h1;subst h2
  show bindC kindOf ((p,w) :: P.zip vs) m p = _
  unfold bindC
  rw [uU fun v hv=>(O4.mp nd).1 (List.of_mem_zip hv).1,OB hk]
  simp
 | p :: P,w :: vs,i + 1,m,nd,h1,h2,hk=>by
  show bindC kindOf ((p,w) :: P.zip vs) m x = _
  unfold bindC
  exact uT (i:=i) (O4.mp nd).2 (by simpa using h1) (by simpa using h2) hk
noncomputable def bi (N:List Str) (vs:List V):St:=vs.map some ++ List.replicate (N.length - vs.length) none
noncomputable def Au (CX:CXT) (P:Program) (w:World) (K:W.Frag) (mg:Str -> Option Value) (base:Heap) (N:List Str) (qual:Str) (scope:Scope) (f:Addr) (cd:Value) (A:Around) (outer:List Env) (s:Shared) (H:Hp) (E:XK):Cx where
 prog:=P
 w:=w
 K:=K
 mg:=mg
 base:=base
 A:=A.deeper (envOfC qual scope s.heap.objs.size f cd)
 N:=N
 s₀:=s
 H₀:=H
 env:=envOfC qual scope s.heap.objs.size f cd
 outer:=outer
 stack:=envOfC qual scope s.heap.objs.size f cd :: outer
 ex:=[]
 calm:=true
 fn:=fun _=>true
 pn:=[]
 xe:=fun e s'=>wpAny (model P w) (A.deeper (envOfC qual scope s.heap.objs.size f cd)) (leaving (envOfC qual scope s.heap.objs.size f cd) e) (fun _ s''=>CX outer H s E e s'') (fun e' s''=>CX outer H s E e' s'') s'
theorem x4 {sc:Scope} {n:Nat} {x:Str} (h:sc.names.lookup x = some .cell):∃ c,(cellsFrom n sc.names []).lookup x = some c:=by
 have q:=W.cellsFrom_some sc.names n [] (.inl h)
 exact Re.mp q
theorem Dl {CX:CXT} {P:Program} {w:World} {K:W.Frag} {mg:Str -> Option Value} {base:Heap} {N ps:List Str} {qual:Str} {scope:Scope} {f:Addr} {cd:Value} {A:Around} {outer:List Env} {s s1:Shared} {H:Hp} {E:XK} {us:List Value} {vs:List V}
  (S:FnScope N ps scope) (hd:A.handled = none) (e0:Env0 P w K mg base A outer s H) (hl:vs.length = ps.length) (r:Vals vs us)
  (x:InCallC s s.heap.objs.size (bindL (envOfC qual scope s.heap.objs.size f cd).kindOf (ps.zip us) fun _=>none) (cellsFrom (s.heap.objs.size + 1) scope.names []) (bindC (envOfC qual scope s.heap.objs.size f cd).kindOf (ps.zip us) fun _=>none) s1) :
  Inv (Au CX P w K mg base N qual scope f cd A outer s H E) [] (bi N vs) H s1:=by
 have hpl:ps.length <= N.length:=by have:=OZ List.length S.pre;rw [Qi] at this;lia
 obtain ⟨h1,tk,rfl,hk⟩:=x.done
 have noA:∀ b:Addr,b ∉ (Au CX P w K mg base N qual scope f cd A outer s H E).ex:=fun b z=>absurd (show b ∈ ([]:List Addr) from z) (by simp)
 refine ⟨⟨e0.mod,S.kind,rfl,rfl,OH _,fun y z c h1 h2=>?_,fun y hy=>?_,fun y c _ h=>?_,fun _=>hd,Around.frames_deeper e0.frames,.inr ⟨rfl,rfl⟩,fun b z=>absurd z (noA b),e0.bs,e0.bsz,fun b _ _=>noA b,fun b z=>absurd z (noA b),e0.funs,e0.frf⟩,
  rfl,e0.bare,Un.kept hk,⟨_,x.toInCall.ns,fun i y v h1 h2 h3=>?_⟩,fun y c h=>⟨_,x.cell y c h⟩,e0.hok.fresh (OH _),fun y c h=>?_,fun p hp=>absurd (show p ∈ ([]:List (Addr × Obj)) from hp) (by simp),e0.hok.kept hk,?_⟩
 ·exact name_of_addr x.apart (QM h1) (QM h2)
 ·have hy:scope.names.lookup y = some .cell \/ scope.names.lookup y = some .free:=hy
  rcases hy with hy | hy
  ·exact x4 hy
  ·exact absurd rfl (S.nofree _ (QM hy))
 ·exact Pk (x.above y c (QM h))
 ·have hi:i < vs.length:=by
   unfold bi at h2
   by_cases hi:i < vs.length
   ·exact hi
   ·rw [QA (by simpa using hi)] at h2
    rw [Sa] at h2
    split at h2 <;> cases h2
  have ha:vs[i]? = some v:=by
   unfold bi at h2
   rw [QB (by simpa using hi),O6] at h2
   cases e:vs[i]? with
   | none=>rw [e] at h2;cases h2
   | some a=>rw [e] at h2;cases h2;rfl
  obtain ⟨u,hu,rv⟩:=r.get ha
  have hp:ps[i]? = some y:=by
   rw [<- S.pre,List.getElem?_take_of_lt (by lia)];exact h1
  have ndP:ps.Nodup:=by rw [<- S.pre];exact S.nd.sublist (List.take_sublist _ _)
  refine ⟨u,rv,?_⟩
  rcases S.par y (Rf hp) with k | k
  ·exact .inl ⟨k,uV ndP hp hu k⟩
  ·obtain ⟨c,e⟩:=x4 (n:=s.heap.objs.size + 1) k
   refine .inr ⟨.inl k,c,e,?_⟩
   have q:=x.cell y c e
   rw [uT ndP hp hu (by show scope.names.lookup y ≠ _;rw [k];decide)] at q
   exact q
 ·exact e0.hok.fresh (Pk (x.above y c (QM h)))
 ·unfold bi
  show _ = N.length
  rw [OM,OJ,RI]
  lia
theorem IA {CX:CXT} {P:Program} {w:World} {K:W.Frag} {mg:Str -> Option Value} {base:Heap} {k:Nat} {f:Addr} {name qual:Str} {params:Arguments} {body:List Stmt} {scope:Scope} {dV kV doc pm cdv ct oc:Value} {an od:Option Addr}
  {osl:Array (Option Value)} {N ps:List Str} {sp:Sp} (lk:K.lookup f = some ⟨oc,od,.func (W.fnOf name qual params body scope dV kV doc pm an cdv ct),osl⟩) (hcd:W.codeIn K cdv qual = true) (S:FnScope N ps scope)
  (len:∀ vs H Q E,sp vs H Q E -> vs.length = ps.length)
  (hbody:∀ (A:Around) (outer:List Env) (s:Shared) (H:Hp) (vs:List V) (Q:VK) (E:XK),Room k (A.deeper (envOfC qual scope s.heap.objs.size f cdv)) -> sp vs H Q E ->
   ∃ t,PSs (Au CX P w K mg base N qual scope f cdv A outer s H E) body t /\ t { nx:=fun _ H'=>Q .non H',rt:=Q } (bi N vs) H) :
  FnOk P w K mg base CX (k + 1) f (W.fnOf name qual params body scope dV kV doc pm an cdv ct) ps sp:=by
 refine ⟨len,fun A outer s H args us vs Q E hr e0 hb r hsp=>?_⟩
 have hl:=len _ _ _ _ hsp
 have KX:K.In s.heap:=e0.mod.kin.keeps fun b o e=>(e0.bs b o e).1
 have lim:s.heap.NoLimit:=e0.mod.nolimit.keeps fun b o e=>(e0.bs b o e).1
 have hkind:∀ y ∈ ps.zip us,scope.names.lookup y.1 = some .local \/ (scope.names.lookup y.1 = some .cell /\ ((cellsFrom (s.heap.objs.size + 1) scope.names []).lookup y.1).isSome = true):=fun hpt0 hy=>by
  obtain ⟨n,v⟩:=hpt0
  rcases S.par n (List.of_mem_zip hy).1 with q | q
  ·exact .inl q
  ·exact .inr ⟨q,W.cellsFrom_some _ _ _ (.inl q)⟩
 refine codeAny_call_function hr.depth (KX _ _ lk) rfl S.co S.gen rfl (W.codeRec_of KX hcd) (hb _ _ _ _ ?_)
 refine wpAny_newFunctionEnv_cells S.kind hkind fun env he s1 x=>?_
 subst he
 refine ⟨lim.keeps x.toInCall.keep,codeAny_func ?_⟩
 obtain ⟨t,ht,hq⟩:=hbody A outer s H vs Q E (hr.deeper _) hsp
 have I:Inv (Au CX P w K mg base N qual scope f cdv A outer s H E) [] (bi N vs) H s1:=Dl S hr.hd e0 hl r x
 refine PZ (ht [] s1 (bi N vs) H _ I hq) (fun fl s' hs=>?_) fun e s' hs=>hs
 have fin:∀ {σ':St} {H':Hp} {v:V} {u:Value},Inv (Au CX P w K mg base N qual scope f cdv A outer s H E) [] σ' H' s' -> RelV v u -> Q v H' -> CE outer P w H s Q u s':=
  fun {σ' H' v u} J rv q=>⟨v,H',J.os,J.bare,J.base,J.hok,rv,q⟩
 cases fl with
 | ret u=>
  obtain ⟨v,σ',H',J,rv,q⟩:=hs
  exact fin J rv q
 | next=>
  obtain ⟨σ',H',J,q⟩:=hs
  exact fin (v:=V.non) (u:=Value.none) J rfl q
 | brk=>
  obtain ⟨_,_,_,q⟩:=hs
  exact False.elim q
 | cont=>
  obtain ⟨_,_,_,q⟩:=hs
  exact False.elim q
section
variable {X:Cx} {x:Str} {p pos:Pos} {e:Expr} {es:List Expr} {t:TA} {id T:String} {r:List V -> Hp -> VK -> Prop}
noncomputable def tCB (r:List V -> Hp -> VK -> Prop) (t:TA):TE:=fun σ H Q=>t σ H fun vs H1=>r vs H1 Q
theorem bm (hc:CallR X (.builtin id) r) (hg:Gl X x) (hm:X.mg x = none) (hv:bootBuiltins x = some (.builtin id)) (ha:PA X (e :: es) t) (hn:x ≠ "__name__" := by decide) (hdb:(x == ("__debug__" : Str)) = false:=by decide)
  (he:starEach (e :: es) X.env = (false,eval e X.env) :: starEach es X.env:=by rfl) (hpl:(backTo pos (starEach es X.env)).any (·.1) = false:=by rfl):PE X (.Call (.Name x p) (e :: es) [] pos) (tCB r t):=by
 intro pins s σ H Q I h
 refine Rc (mL I hg hm hv ?_ hn hdb)
 exact PyProof.Rows.callWith_builtin1 (thn (ha pos pins s σ H _ I h) fun us s1 ⟨vs,H1,I1,r1,q1⟩=>hc pins s1 σ H1 vs us Q I1 r1 q1) he hpl
theorem eA (hc:CallR X (.type T) r) (hg:Gl X x) (hm:X.mg x = none) (hv:bootBuiltins x = some (.type T)) (ha:PA X (e :: es) t) (hn:x ≠ "__name__" := by decide) (hdb:(x == ("__debug__" : Str)) = false:=by decide)
  (he:starEach (e :: es) X.env = (false,eval e X.env) :: starEach es X.env:=by rfl) (hpl:(backTo pos (starEach es X.env)).any (·.1) = false:=by rfl):PE X (.Call (.Name x p) (e :: es) [] pos) (tCB r t):=by
 intro pins s σ H Q I h
 refine Rc (mL I hg hm hv ?_ hn hdb)
 exact RG (thn (ha pos pins s σ H _ I h) fun us s1 ⟨vs,H1,I1,r1,q1⟩=>hc pins s1 σ H1 vs us Q I1 r1 q1) he hpl
end
end L2
namespace HT
open PySem PyProof.Rows
noncomputable def cz:List Int -> List Int -> Bool
 | [],[]=>false
 | [],_ :: _=>true
 | _ :: _,[]=>false
 | x :: xs,y :: ys=>if x = y then cz xs ys else decide (x < y)
theorem AR (x y:Int) (xs ys:List Int):cz (x :: xs) (y :: ys) = if x = y then cz xs ys else decide (x < y):=rfl
section
open PySem.SeqAt
open PySem.AutoSeq1 (wpAny_loadPart')
open PySem.MeetsSeq PySem.MeetsSeq2 PySem.MeetsSeq3
end
section
variable {prog:Program} {w:World} {A:Around} {E:Value -> Shared -> Prop} {s:Shared}
theorem G5 {t b:Addr} {vs ws:List Value} {Q:Value -> Shared -> Prop} (ht:IsTup s.heap t vs.toArray) (hb:IsTup s.heap b ws.toArray) (hv:vs ≠ [])
  (h1:ws = [] -> Q (.ref t) s) (h2:ws ≠ [] -> Q (.ref s.heap.objs.size) { s with heap:=s.heap.push { cls:=.type "tuple",data:=.seq (vs ++ ws).toArray } })
  (hsz:vs.length + ws.length <= sizeLine):wpAny (model prog w) A (binaryOp .Add (.ref t) (.ref b)) Q E s:=by
 obtain ⟨⟨cls,dd,data,sl⟩,ho,hc,n,hd⟩:=id ht
 obtain ⟨⟨cls2,dd2,data2,sl2⟩,ho2,hc2,n2,hd2⟩:=id hb
 simp only at hc hd hc2 hd2
 subst hc hd hc2 hd2
 have e:vs.toArray ++ ws.toArray = (vs ++ ws).toArray:=by simp
 by_cases hw:ws = []
 ·exact concat_meets ⟨_,ho,rfl⟩ ⟨_,ho2,rfl⟩ noFill_tuple_add seq_tuple_add Sb Sc (Sd _ _)
   (tuple_addW1 t b vs.toArray ws.toArray n n2 dd dd2 sl sl2 (by simpa using hv) (by simp [hw])) ⟨ho,ho2,h1 hw⟩
 ·refine concat_meets ⟨_,ho,rfl⟩ ⟨_,ho2,rfl⟩ noFill_tuple_add seq_tuple_add Sb Sc (Sd _ _)
   (tuple_addW2 t b vs.toArray ws.toArray n n2 dd dd2 sl sl2 (by simpa using hv) (by simpa using hw) (by rw [O0,O0];exact hsz)) ⟨ho,ho2,?_⟩
  rw [e]
  exact h2 hw
noncomputable def sIx (n d:Nat):Option Int -> Nat
 | none=>d
 | some v=>if v < 0 then (v + (n:Int)).toNat else min v.toNat n
theorem Ki (n d:Nat) (hd:d <= n) (o:Option Int):sIx n d o <= n:=by
 cases o with
 | none=>exact hd
 | some v=>
  show (if v < 0 then (v + (n:Int)).toNat else min v.toNat n) <= n
  by_cases hv:v < 0
  ·rw [OC hv];lia
  ·rw [OB hv];exact Nat.min_le_right _ _
theorem BX (v:Int) (n d:Nat):(if v < 0 then max (v + (n:Int)) 0 else min v (n:Int)) = ((sIx n d (some v):Nat):Int):=by
 show (if v < 0 then max (v + (n:Int)) 0 else min v (n:Int)) = (((if v < 0 then (v + (n:Int)).toNat else min v.toNat n):Nat):Int)
 by_cases hv:v < 0
 ·simp only [OC hv];lia
 ·simp only [OB hv];lia
theorem Af (lo hi:Option Int) (n:Nat):Builtin.Slice.sliceAdjust lo hi 1 (n:Int) = (((sIx n 0 lo:Nat):Int),((sIx n n hi:Nat):Int)):=by
 have h1:¬ ((1:Int) < 0):=by lia
 unfold Builtin.Slice.sliceAdjust
 simp only [h1,Qj]
 refine Prod.ext ?_ ?_
 ·cases lo with
  | none=>rfl
  | some v=>exact BX v n 0
 ·cases hi with
  | none=>rfl
  | some v=>exact BX v n n
theorem Bd (i j:Nat):Builtin.Slice.slicePlaces (i:Int) (j:Int) 1 = j - i:=by
 unfold Builtin.Slice.slicePlaces
 have h1:(1:Int) > 0:=by lia
 simp only [h1,if_true,Int.ediv_one]
 split <;> lia
theorem tI {v:Value} {o:Option Int} {Q:Option Int -> Shared -> Prop} (p:IsPart v o) (h:Q o s):wpAny (model prog w) A (Builtin.Slice.slicePartIndex v) Q E s:=by
 cases p with
 | none=>exact slicePart_none h
 | int i t=>exact slicePart_int h
theorem iZ {sl:Addr} {vl vu:Value} {lo hi:Option Int} {n:Nat} {Q:Int × Int × Nat -> Shared -> Prop} (hs:s.heap.IsSliceOf sl vl vu .none) (pl:IsPart vl lo) (pu:IsPart vu hi)
  (h:Q (((sIx n 0 lo:Nat):Int),1,sIx n n hi - sIx n 0 lo) s):wpAny (model prog w) A (Builtin.Slice.sliceApplied (.ref sl) (pure (n:Int))) Q E s:=by
 obtain ⟨os,hos,hcs,hds⟩:=id hs
 unfold Builtin.Slice.sliceApplied Builtin.Slice.sliceFields
 refine OA (OA (wpAny_field hos hds (x:=vl) rfl (OA (wpAny_field hos hds (x:=vu) rfl (OA (wpAny_field hos hds (x:=.none) rfl (OE ?_)))))))
 refine OA (slicePart_none ?_)
 show wpAny _ _ (if ((1:Int) == 0) = true then _ else _) _ _ s
 rw [OB (by decide)]
 refine OA (tI pl (OA (tI pu (OA (OE ?_)))))
 show wpAny _ _ (match Builtin.Slice.sliceAdjust lo hi 1 (n:Int) with | (lo,hi)=>pure (lo,(1:Int),Builtin.Slice.slicePlaces lo hi 1)) _ _ s
 rw [Af lo hi n]
 show wpAny _ _ (pure (((sIx n 0 lo:Nat):Int),(1:Int),Builtin.Slice.slicePlaces ((sIx n 0 lo:Nat):Int) ((sIx n n hi:Nat):Int) 1)) _ _ s
 rw [Bd]
 exact OE h
theorem FB (xs:Array Value) (i k:Nat):((List.range k).filterMap fun (m:Nat)=>xs[((i:Int) + (m:Int) * 1).toNat]?).toArray = ((xs.toList.drop i).take k).toArray:=by
 have e:(fun (m:Nat)=>xs[((i:Int) + (m:Int) * 1).toNat]?) = fun m=>xs[i + m]?:=by
  funext m
  have:((i:Int) + (m:Int) * 1).toNat = i + m:=by lia
  rw [this]
 rw [e]
 have:=pick_run xs i k
 rw [List.filterMap_map] at this
 have e2:((fun x=>xs[x]?) ∘ fun x=>i + x) = fun m=>xs[i + m]?:=rfl
 rw [e2] at this
 rw [this]
theorem nF {t sl:Addr} {items:Array Value} {vl vu:Value} {lo hi:Option Int} {Q:Value -> Shared -> Prop} (ht:IsTup s.heap t items) (hs:s.heap.IsSliceOf sl vl vu .none) (pl:IsPart vl lo) (pu:IsPart vu hi)
  (hw:¬ (sIx items.size 0 lo = 0 /\ sIx items.size items.size hi = items.size))
  (h:Q (.ref s.heap.objs.size) { s with heap:=s.heap.push { cls:=.type "tuple",data:=.seq ((items.toList.drop (sIx items.size 0 lo)).take (sIx items.size items.size hi - sIx items.size 0 lo)).toArray } })
  (hsz:items.size <= sizeLine):wpAny (model prog w) A (getItem (.ref t) (.ref sl)) Q E s:=by
 have htake:sizeOk (.seq ((items.toList.drop (sIx items.size 0 lo)).take (sIx items.size items.size hi - sIx items.size 0 lo)).toArray):=by
  show ((items.toList.drop (sIx items.size 0 lo)).take (sIx items.size items.size hi - sIx items.size 0 lo)).toArray.size <= sizeLine
  rw [O0,Qi,RJ,Ph]
  omega
 have hj:sIx items.size items.size hi <= items.size:=Ki _ _ (OH _) hi
 obtain ⟨os,hos,hcs,hds⟩:=id hs
 have hTs:s.TypeIs (.ref sl) "slice" := ⟨os,hos,hcs⟩
 unfold getItem
 try with_reducible refine Pp ?_
 first | refine OA (OE ?_) | skip
 refine OA (wpAny_sequenceKey ht.typeIs (by decide) ?_)
 refine OA (QN (name:=Str.ofString "__getitem__") ht.typeIs QO
  (PR QO ht.typeIs entry_tuple_getitem ?_ (args_tuple_getitem _ _)))
 show wpAny _ _ (Builtin.Tuple.tupleItemsOf (.ref t) >>= _) _ _ s
 refine OA (tupleItemsOf_ ht ?_)
 refine OA (P9 hTs ?_)
 rw [OC (by decide)]
 refine OA (iZ hs pl pu ?_)
 have hno:¬ ((((sIx items.size 0 lo:Nat):Int) == 0 && (1:Int) == 1 && (sIx items.size items.size hi - sIx items.size 0 lo) == items.size) = true):=by
  intro q
  rw [PH,PH] at q
  have q1:((sIx items.size 0 lo:Nat):Int) = 0:=eq_of_beq q.1.1
  have q2:sIx items.size items.size hi - sIx items.size 0 lo = items.size:=eq_of_beq q.2
  exact hw ⟨by omega,by omega⟩
 show wpAny _ _ (if (((sIx items.size 0 lo:Nat):Int) == 0 && (1:Int) == 1 && (sIx items.size items.size hi - sIx items.size 0 lo) == items.size) = true then _ else _) _ _ s
 rw [OB hno,FB]
 first
  | exact OA (m:=Builtin.Tuple.tupleExact _) (Ps (OE ⟨_,rfl,OE h⟩) htake)
  | exact OA (m:=Builtin.Tuple.tupleExact _) (Ps (OA (OE (OE ⟨_,rfl,OE h⟩))) htake)
  | exact OA (OA (m:=Builtin.Tuple.tupleExact _) (Ps (OE (OE ⟨_,rfl,OE h⟩)) htake))
  | exact OA (OA (m:=Builtin.Tuple.tupleExact _) (Ps (OE ⟨_,rfl,OE h⟩) htake))
end
end HT
namespace L2
open PySem PySem.Spec PyProof.Rows
noncomputable abbrev TO:=St -> Hp -> (Option Int -> Hp -> Prop) -> Prop
def PO (X:Cx) (e:Option Expr) (t:TO):Prop:=
 ∀ (pins:List (Addr × Obj)) (s:Shared) (σ:St) (H:Hp) (Q:Option Int -> Hp -> Prop),Inv X pins σ H s -> t σ H Q ->
  wpAny (model X.prog X.w) X.A (evalPart e X.env) (fun u s'=>∃ o H',Inv X pins σ H' s' /\ IsPart u o /\ Q o H') X.xe s
noncomputable def Jh (t:TE):TO:=fun σ H Q=>t σ H fun x H1=>∃ i,x = .int i /\ Q (some i) H1
theorem mG {ns:List Int}:∀ {us:List Value},Vals (ns.map V.int) us -> IntsAre us ns:=by
 induction ns with
 | nil=>intro us r;rw [Qa] at r;cases r;exact .nil
 | cons n ns ih=>
  intro us r
  rw [OQ] at r
  cases r with
  | cons r1 r2=>
   obtain ⟨t,e⟩:=r1
   subst e
   exact .cons n t (ih r2)
section
variable {X:Cx} {e:Expr} {te:TE} {lo hi:Option Expr} {tl th:TO} {pos p2:Pos}
theorem Cr (h:PE X e te):PO X (some e) (Jh te):=by
 intro pins s σ H Q I hw
 rw [evalPart_some]
 refine thn (h pins s σ H _ I hw) fun u s1 hpt9=>?_
 obtain ⟨x,H1,I1,r1,q1⟩:=hpt9
 obtain ⟨i,rfl,q⟩:=q1
 obtain ⟨t,rfl⟩:=r1
 exact ⟨some i,H1,I1,.int i t,q⟩
def SlR (X:Cx) (r:V -> Option Int -> Option Int -> Hp -> VK -> Prop):Prop:=
 ∀ (pins:List (Addr × Obj)) (s:Shared) (σ:St) (H:Hp) (x:V) (v vl vu:Value) (lo hi:Option Int) (sl:Addr) (Q:VK),Inv X pins σ H s -> RelV x v -> s.heap.IsSliceOf sl vl vu .none -> IsPart vl lo -> IsPart vu hi -> r x lo hi H Q ->
  ∃ T id,typeLookup (.type T) "__getitem__" = pure (some (.builtin id)) /\ s.TypeIs v T /\ wpAny (model X.prog X.w) X.A (getItem v (.ref sl)) (EP X pins σ Q) X.xe s
theorem SlR.or {r r':V -> Option Int -> Option Int -> Hp -> VK -> Prop} (h:SlR X r) (h':SlR X r'):SlR X (fun x lo hi H Q=>r x lo hi H Q \/ r' x lo hi H Q):=by
 intro pins s σ H x v vl vu lo hi sl Q I rx hs pl pu q
 rcases q with q | q
 ·exact h pins s σ H x v vl vu lo hi sl Q I rx hs pl pu q
 ·exact h' pins s σ H x v vl vu lo hi sl Q I rx hs pl pu q
noncomputable def tSl (r:V -> Option Int -> Option Int -> Hp -> VK -> Prop) (te:TE) (tl th:TO):TE:=fun σ H Q=>te σ H fun x H1=>tl σ H1 fun l H2=>th σ H2 fun u H3=>r x l u H3 Q
theorem Fw {r:V -> Option Int -> Option Int -> Hp -> VK -> Prop} (hr:SlR X r) (he:PE X e te) (hl:PO X lo tl) (hu:PO X hi th):PE X (.Subscript e (.Slice lo hi none p2) pos) (tSl r te tl th):=by
 intro pins s σ H Q I h
 refine Subscript_ (thn (he pins s σ H _ I h) fun v s1 hpt9=>?_)
 obtain ⟨x,H1,I1,r1,q1⟩:=hpt9
 refine wpAny_Slice (thn (hl pins s1 σ H1 _ I1 q1) fun vl s2 ⟨l,H2,I2,pl,q2⟩=>thn (hu pins s2 σ H2 _ I2 q2) fun vu s3 hpt9=>?_)
 obtain ⟨u,H3,I3,pu,q3⟩:=hpt9
 rw [evalPart_none]
 refine OE ?_
 have I4:Inv X pins σ H3 { s3 with heap:=s3.heap.push { cls:=.type "slice",data:=.fields #[vl,vu,.none] } }:=I3.kept (t':=s3.toks) fun b ob q=>OT _ q
 obtain ⟨T,id,hT,ht,hg⟩:=hr pins { s3 with heap:=s3.heap.push { cls:=.type "slice",data:=.fields #[vl,vu,.none] } } σ H3 x v vl vu l u s3.heap.objs.size Q I4 r1 (Heap.IsSliceOf.new ..) pl pu q3
 show wpAny (model X.prog X.w) X.A (subscriptTail e (.Slice lo hi none p2) v (.ref s3.heap.objs.size)) (EP X pins σ Q) X.xe { s3 with heap:=s3.heap.push { cls:=.type "slice",data:=.fields #[vl,vu,.none] } }
 exact tail_any (ops:=[.ref s3.heap.objs.size,v]) ht hT hg (by with_unfolding_all rfl)
noncomputable def mv (xs:List V) (lo hi:Option Int):List V:=(xs.drop (HT.sIx xs.length 0 lo)).take (HT.sIx xs.length xs.length hi - HT.sIx xs.length 0 lo)
theorem pK (xs:List V) (lo hi:Option Int):(mv xs lo hi).length <= xs.length:=by
 unfold mv
 rw [Qi,RJ]
 lia
noncomputable def Mz (K:W.Frag):V -> Option Int -> Option Int -> Hp -> VK -> Prop:=fun x lo hi H Q=>∃ a xs,x = .ref a /\ SqT K H a xs /\
 ¬ (HT.sIx xs.length 0 lo = 0 /\ HT.sIx xs.length xs.length hi = xs.length) /\ ∀ p,H p = none -> Q (.ref p) (upd H p (.tup (mv xs lo hi)))
theorem Kv:SlR X (Mz X.K):=by
 intro pins s σ H x v vl vu lo hi sl Q I rx hs pl pu h
 obtain ⟨a,xs,rfl,hx,hw,q⟩:=h
 cases rx
 obtain ⟨its,r,ht,hz⟩:=I.tuple hx
 have hlen:its.toArray.size = xs.length:=by rw [O0];exact r.length.symm
 refine ⟨"tuple",_,QO.lookup,ht.typeIs,?_⟩
 refine HT.nF ht hs pl pu (by rw [hlen];exact hw) ?_ (by rw [hlen];exact hz)
 rw [hlen]
 refine ⟨.ref s.heap.objs.size,_,I.laid (t':=s.toks) (o:=.tup (mv xs lo hi)) (fun b ob q=>OT _ q) (OH _) ?_,rfl,q _ (I.hok.fresh (OH _))⟩
 exact ⟨OW (pK xs lo hi) hz,_,(r.drop (HT.sIx xs.length 0 lo)).take (HT.sIx xs.length xs.length hi - HT.sIx xs.length 0 lo),IsTup.new _ _⟩
theorem Vals.nil_iff {xs:List V} {us:List Value} (r:Vals xs us):us = [] ↔ xs = []:=by
 cases r with
 | nil=>simp
 | cons _ _=>simp
end
noncomputable def ixN (n:Nat) (i:Int):Option Nat:=if 0 <= i then (if i < n then some i.toNat else none) else if -(n:Int) <= i then some (i + n).toNat else none
noncomputable def atI {α:Type} (xs:List α) (i:Int):Option α:=(ixN xs.length i).bind fun j=>xs[j]?
theorem B7 {n:Nat} {i:Int} {j:Nat} (h:ixN n i = some j):seqIndex? i n = some j /\ j < n /\ -(n:Int) <= i /\ i < n:=by
 unfold ixN at h
 by_cases h0:0 <= i
 ·rw [OC h0] at h
  by_cases h1:i < n
  ·rw [OC h1] at h
   have e:i.toNat = j:=Pj h
   exact ⟨by rw [seqIndex_of h0 h1,e],by lia,by lia,h1⟩
  ·rw [OB h1] at h;cases h
 ·rw [OB h0] at h
  by_cases h1:-(n:Int) <= i
  ·rw [OC h1] at h
   have e:(i + n).toNat = j:=Pj h
   exact ⟨by rw [seqIndex_neg (by lia) h1,e],by lia,h1,by lia⟩
  ·rw [OB h1] at h;cases h
theorem wt {α:Type} {xs:List α} {i:Int} {v:α} (h:atI xs i = some v):∃ j,seqIndex? i xs.length = some j /\ xs[j]? = some v /\ j < xs.length /\ -(xs.length:Int) <= i /\ i < xs.length:=by
 unfold atI at h
 cases e:ixN xs.length i with
 | none=>rw [e] at h;cases h
 | some j=>
  rw [e] at h
  obtain ⟨h1,h2,h3,h4⟩:=B7 e
  exact ⟨j,h1,h,h2,h3,h4⟩
def GW (b:Expr):Prop:=∀ o i,subscripted b false o i = operate [o,i] (getItem o i)
def IxR (X:Cx) (r:R2):Prop:=
 ∀ (value slice:Expr) (pins:List (Addr × Obj)) (s:Shared) (σ:St) (H:Hp) (x y:V) (v u:Value) (Q:VK),Inv X pins σ H s -> RelV x v -> RelV y u -> r x y H Q ->
  subscripted slice false v u = operate [v,u] (getItem v u) -> wpAny (model X.prog X.w) X.A (subscriptTail value slice v u) (EP X pins σ Q) X.xe s
def MtR (X:Cx) (id:String) (r:V -> List V -> Hp -> VK -> Prop):Prop:=
 ∀ (pins:List (Addr × Obj)) (s:Shared) (σ:St) (H:Hp) (x:V) (xs:List V) (v:Value) (us:List Value) (Q:VK),Inv X pins σ H s -> RelV x v -> Vals xs us -> r x xs H Q ->
  wpAny (model X.prog X.w) X.A (call (.builtin id) (v :: us)) (EP X pins σ Q) X.xe s
section
variable {X:Cx} {a b:Expr} {ta tb:TE} {pos:Pos}
theorem IxR.or {r r':R2} (h:IxR X r) (h':IxR X r'):IxR X (fun x y H Q=>r x y H Q \/ r' x y H Q):=by
 intro value slice pins s σ H x y v u Q I rx ry q hs
 rcases q with q | q
 ·exact h value slice pins s σ H x y v u Q I rx ry q hs
 ·exact h' value slice pins s σ H x y v u Q I rx ry q hs
theorem bA {r:R2} (hr:IxR X r) (ha:PE X a ta) (hb:PE X b tb) (hs:GW b):PE X (.Subscript a b pos) (tOp r ta tb):=by
 intro pins s σ H Q I h
 exact Subscript_ (Jz ha hb I h fun v u s2 x y H2 I2 rx ry q=>hr a b pins s2 σ H2 x y v u Q I2 rx ry q (hs _ _))
noncomputable def Ll (K:W.Frag):R2:=fun x y H Q=>∃ p xs i v,x = .ref p /\ y = .int i /\ SqL K H p xs /\ atI xs i = some v /\ Q v H
noncomputable def Ln (K:W.Frag):R2:=fun x y H Q=>∃ p xs i v,x = .ref p /\ y = .int i /\ SqT K H p xs /\ atI xs i = some v /\ Q v H
noncomputable def Lm:R2:=fun x y H Q=>∃ z i c,x = .str z /\ y = .int i /\ z.length <= sizeLine /\ atI z.cps.toList i = some c /\ Q (.str ⟨#[c]⟩) H
theorem ix_list:IxR X (Ll X.K):=by
 intro value slice pins s σ H x y v u Q I rx ry h hs
 obtain ⟨p,xs,i,z,rfl,rfl,hq,he,q⟩:=h
 cases rx
 obtain ⟨t,rfl⟩:=ry
 obtain ⟨its,r,pl,hz⟩:=I.list hq
 obtain ⟨j,h1,h2,h3,h4,h5⟩:=wt he
 obtain ⟨w,ew,rw'⟩:=r.get h2
 have hl:=r.length
 have hn:=oY
 have fin:EP X pins σ Q w s:=⟨z,H,I,rw',q⟩
 by_cases h0:0 <= i
 ·have hj:i.toNat = j:=by
   rw [seqIndex_of h0 h5] at h1
   exact Pj h1
  exact item_listR pl.isList h0 (by lia) (by rw [hj];simpa using ew) fin hs
 ·have hj:(i + (its.toArray.size:Int)).toNat = j:=by
   rw [seqIndex_neg (by lia) h4] at h1
   rw [O0,<- hl]
   exact Pj h1
  exact subscriptTail_builtinR (x:=w) pl.isList.typeIs slot_list_getitem.lookup
   (wpAny_getItem_list_neg (Q:=fun r s'=>r = w /\ EP X pins σ Q r s') pl.isList (by lia) (by rw [O0] <;> lia) (by lia) (by rw [hj];simpa using ew) ⟨rfl,fin⟩) hs
theorem ix_tup:IxR X (Ln X.K):=by
 intro value slice pins s σ H x y v u Q I rx ry h hs
 obtain ⟨p,xs,i,z,rfl,rfl,hq,he,q⟩:=h
 cases rx
 obtain ⟨t,rfl⟩:=ry
 obtain ⟨its,r,pl,hz⟩:=I.tuple hq
 obtain ⟨j,h1,h2,h3,h4,h5⟩:=wt he
 obtain ⟨w,ew,rw'⟩:=r.get h2
 have hl:=r.length
 have hn:=oY
 have fin:EP X pins σ Q w s:=⟨z,H,I,rw',q⟩
 exact subscriptTail_builtinR (x:=w) pl.typeIs slot_tuple_getitem.lookup
  (getItem_tuple (j:=j) (Q:=fun r s'=>r = w /\ EP X pins σ Q r s') pl (by lia) (by lia) (by rw [O0,<- hl];exact h1) (by simpa using ew) ⟨rfl,fin⟩) hs
theorem JO:IxR X Lm:=by
 intro value slice pins s σ H x y v u Q I rx ry h hs
 obtain ⟨z,i,c,rfl,rfl,hz,he,q⟩:=h
 obtain ⟨t,rfl⟩:=rx
 obtain ⟨t',rfl⟩:=ry
 obtain ⟨j,h1,h2,h3,h4,h5⟩:=wt he
 have hl:z.cps.toList.length = z.length:=by simp [Str.length]
 rw [hl] at h1 h4 h5
 have hn:=oY
 exact tail_any (typeIs_str s z t) slot_str_getitem.lookup (getItem_str (c:=c) (by
  have e1:decide (i < -(2 ^ 63:Int)) = false:=Pf (by lia)
  have e2:decide (i ≥ 2 ^ 63) = false:=Pf (by lia)
  rw [e1,e2,Bool.or_false]) (by rw [h1];simpa using h2) ⟨.str ⟨#[c]⟩,H,I.tok _,⟨_,rfl⟩,q⟩) hs
noncomputable def rIx (K:W.Frag):R2:=fun x y H Q=>Ll K x y H Q \/ Ln K x y H Q \/ Lm x y H Q
theorem a5:IxR X (rIx X.K):=ix_list.or (ix_tup.or JO)
theorem AV (its:List Value) (n j:Nat) (u:Value):Obj.mapSeq (·.setIfInBounds j u) { cls:=.type "list",data:=.seq its.toArray n } = { cls:=.type "list",data:=.seq (its.set j u).toArray n }:=by
 simp [Obj.mapSeq]
theorem Inv.lst {pins:List (Addr × Obj)} {σ:St} {H:Hp} {s:Shared} {p:Addr} {xs:List V} (I:Inv X pins σ H s) (h:H p = some (.lst xs)) :
  ∃ (its:List Value) (n:Nat),Vals xs its /\ s.heap.get? p = some { cls:=.type "list",data:=.seq its.toArray n } /\ xs.length <= sizeLine:=by
 obtain ⟨z,its,n,r,e⟩:=I.hok p _ h
 exact ⟨its,n,r,e,z⟩
theorem Inv.lstUpd {pins:List (Addr × Obj)} {σ:St} {H:Hp} {s:Shared} {p:Addr} {xs ys:List V} {its its':List Value} {n n':Nat} {f:Obj -> Obj} (I:Inv X pins σ H s) (h:H p = some (.lst xs))
  (ho:s.heap.get? p = some { cls:=.type "list",data:=.seq its.toArray n }) (hf:f { cls:=.type "list",data:=.seq its.toArray n } = { cls:=.type "list",data:=.seq its'.toArray n' }) (r:Vals ys its') (hz:ys.length <= sizeLine) (t:Nat) :
  Inv X pins σ (upd H p (.lst ys)) { s with heap:=s.heap.update p f,toks:=t }:=by
 have e:(s.heap.update p f).get? p = some { cls:=.type "list",data:=.seq its'.toArray n' }:=by
  rw [Pt f ho (by rw [hf] <;> rfl),hf]
 refine I.write (x:=p) (e:=p) (by rw [h];trivial) (.inl rfl) (fun b u hb q=>(RK _ _ (O8 hb)).trans q) ⟨_,e⟩ ?_
 exact ⟨hz,its',n',r,e⟩
noncomputable def IW:V -> V -> V -> Hp -> (Hp -> Prop) -> Prop:=fun o i v H Q=>∃ p xs k j,o = .ref p /\ i = .int k /\ H p = some (.lst xs) /\ ixN xs.length k = some j /\ Q (upd H p (.lst (xs.set j v)))
theorem zE:KN X IW:=by
 intro pins s σ H o i v ov iv u Q I ro ri rv h
 obtain ⟨p,xs,k,j,rfl,rfl,hp,hj,q⟩:=h
 cases ro
 obtain ⟨t,rfl⟩:=ri
 obtain ⟨its,n,r,ho,hz⟩:=I.lst hp
 obtain ⟨h1,h2,h3,h4⟩:=B7 hj
 have hl:=r.length
 have hn:=oY
 have I':Inv X pins σ (upd H p (.lst (xs.set j v))) { s with heap:=s.heap.update p (Obj.mapSeq (·.setIfInBounds j u)) }:=
  I.lstUpd hp ho (AV its n j u) (r.set rv j) (by rw [Qb];exact hz) s.toks
 by_cases h0:0 <= k
 ·have hk:k.toNat = j:=by
   rw [seqIndex_of h0 h4] at h1
   exact Pj h1
  exact W.ki_setAt ho h0 (by lia) (by rw [O0,<- hl];exact h4) (by rw [hk];exact ⟨_,I',q⟩)
 ·have hk:(k + (its.toArray.size:Int)).toNat = j:=by
   rw [seqIndex_neg (by lia) h3] at h1
   rw [O0,<- hl]
   exact Pj h1
  exact W.ki_setBack ho (by lia) (by rw [O0,<- hl];exact h3) (by lia) (by rw [hk];exact ⟨_,I',q⟩)
theorem xA (lo hi:Option Int) (n:Nat):(sliceBounds lo hi none n).1 = ((HT.sIx n 0 lo:Nat):Int) /\ (sliceBounds lo hi none n).2.1 = ((HT.sIx n n hi:Nat):Int) /\ (sliceBounds lo hi none n).2.2 = 1:=by
 refine ⟨?_,?_,rfl⟩
 ·cases lo with
  | none=>simp [sliceBounds,HT.sIx]
  | some i=>
   simp only [sliceBounds,HT.sIx,Option.getD_none,show (1:Int) > 0 by decide,if_true]
   by_cases h:i < 0
   ·simp only [h,if_true] <;> lia
   ·simp only [h,Qj] <;> lia
 ·cases hi with
  | none=>simp [sliceBounds,HT.sIx]
  | some i=>
   simp only [sliceBounds,HT.sIx,Option.getD_none,show (1:Int) > 0 by decide,if_true]
   by_cases h:i < 0
   ·simp only [h,if_true] <;> lia
   ·simp only [h,Qj] <;> lia
theorem uM (its:List Value) (lo hi:Option Int):slicePick its.toArray lo hi none = ((its.drop (HT.sIx its.length 0 lo)).take (HT.sIx its.length its.length hi - HT.sIx its.length 0 lo)).toArray:=by
 obtain ⟨h1,h2,h3⟩:=xA lo hi its.toArray.size
 unfold slicePick
 rw [h1,h2,h3]
 simp only [sliceRange_one,pick_run,O0] <;> rfl
noncomputable def Lq (K:W.Frag):V -> Option Int -> Option Int -> Hp -> VK -> Prop:=fun x lo hi H Q=>∃ a xs,x = .ref a /\ SqL K H a xs /\ ∀ p,H p = none -> Q (.ref p) (upd H p (.lst (mv xs lo hi)))
theorem Ij:SlR X (Lq X.K):=by
 intro pins s σ H x v vl vu lo hi sl Q I rx hs pl pu h
 obtain ⟨a,xs,rfl,hx,q⟩:=h
 cases rx
 obtain ⟨its,r,ht,hz⟩:=I.list hx
 have hlen:=r.length
 refine ⟨"list",_,slot_list_getitem.lookup,ht.isList.typeIs,?_⟩
 refine wpAny_getItem_list_slice ht.isList hs pl pu .none (by simp) ?_ (by rw [O0] <;> lia)
 rw [uM,<- hlen]
 refine ⟨.ref s.heap.objs.size,_,I.laid (t':=s.toks) (o:=.lst (mv xs lo hi)) (fun b ob q=>OT _ q) (OH _) ?_,rfl,q _ (I.hok.fresh (OH _))⟩
 exact ⟨OW (pK xs lo hi) hz,_,0,(r.drop (HT.sIx xs.length 0 lo)).take (HT.sIx xs.length xs.length hi - HT.sIx xs.length 0 lo),O3 _ rfl⟩
noncomputable def nB:V -> Bool
 | .non=>true
 | .bl _=>true
 | .int _=>true
 | .str _=>true
 | _=>false
noncomputable def eqV:V -> V -> Bool
 | .non,.non=>true
 | .bl a,.bl b=>a == b
 | .bl a,.int b=>(if a then 1 else 0) == b
 | .int a,.bl b=>a == (if b then 1 else 0)
 | .int a,.int b=>a == b
 | .str a,.str b=>a == b
 | _,_=>false
theorem JG {A:Around} {s:Shared} {y x:V} {u v:Value} (ry:RelV y u) (rx:RelV x v) (fy:nB y = true) (fx:nB x = true):SeqAt.EqAt A s u v (eqV y x):=by
 cases y with
 | non=>
  cases ry
  cases x with
  | non=>cases rx;exact SeqAt.EqAt.same _
  | bl b=>cases rx;exact SeqAt.EqAt.none_bool b
  | int b=>obtain ⟨t,rfl⟩:=rx;exact SeqAt.EqAt.none_int b t
  | str b=>obtain ⟨t,rfl⟩:=rx;exact SeqAt.EqAt.none_str b t
  | _=>exact absurd (show false = true from fx) Px
 | bl a=>
  cases ry
  cases x with
  | non=>cases rx;exact SeqAt.EqAt.bool_none a
  | bl b=>cases rx;exact SeqAt.EqAt.bool_bool a b
  | int b=>obtain ⟨t,rfl⟩:=rx;exact SeqAt.EqAt.bool_int a b t
  | str b=>obtain ⟨t,rfl⟩:=rx;exact SeqAt.EqAt.bool_str a b t
  | _=>exact absurd (show false = true from fx) Px
 | int a=>
  obtain ⟨t',rfl⟩:=ry
  cases x with
  | non=>cases rx;exact SeqAt.EqAt.int_none a t'
  | bl b=>cases rx;exact SeqAt.EqAt.int_bool a t' b
  | int b=>obtain ⟨t,rfl⟩:=rx;exact SeqAt.EqAt.int_int a t' b t
  | str b=>obtain ⟨t,rfl⟩:=rx;exact SeqAt.EqAt.int_str a t' b t
  | _=>exact absurd (show false = true from fx) Px
 | str a=>
  obtain ⟨t',rfl⟩:=ry
  cases x with
  | non=>cases rx;exact SeqAt.EqAt.str_none a t'
  | bl b=>cases rx;exact SeqAt.EqAt.str_bool a t' b
  | int b=>obtain ⟨t,rfl⟩:=rx;exact SeqAt.EqAt.str_int a t' b t
  | str b=>obtain ⟨t,rfl⟩:=rx;exact SeqAt.EqAt.str_str a t' b t
  | _=>exact absurd (show false = true from fx) Px
 | _=>exact absurd (show false = true from fy) Px
noncomputable def eqU (x:V) (u:Value):Bool:=match u with
 | .none=>eqV .non x
 | .bool b=>eqV (.bl b) x
 | .int i _=>eqV (.int i) x
 | .str z _=>eqV (.str z) x
 | _=>false
theorem EF {x y:V} {u:Value} (r:RelV y u) (f:nB y = true):eqU x u = eqV y x:=by
 cases y with
 | non=>cases r;rfl
 | bl b=>cases r;rfl
 | int i=>obtain ⟨t,rfl⟩:=r;rfl
 | str z=>obtain ⟨t,rfl⟩:=r;rfl
 | _=>exact absurd (show false = true from f) Px
theorem wq {x:V}:∀ {xs:List V} {us:List Value},Vals xs us -> xs.all nB = true -> us.any (eqU x) = xs.any fun y=>eqV y x
 | _,_,.nil,_=>rfl
 | y :: xs,u :: us,.cons r t,f=>by
  rw [List.all_cons,PH] at f
  rw [QP,QP,EF r f.1,wq t f.2]
theorem sK {A:Around} {s:Shared} {x:V} {v:Value} (rx:RelV x v) (fx:nB x = true):∀ {xs:List V} {us:List Value},Vals xs us -> xs.all nB = true -> ∀ u ∈ us,SeqAt.EqAt A s u v (eqU x u)
 | _,_,.nil,_=>fun u hu=>by cases hu
 | y :: xs,u :: us,.cons r t,f=>fun u' hu=>by
  rw [List.all_cons,PH] at f
  rcases OP.mp hu with rfl | hu
  ·rw [EF r f.1];exact JG r rx f.1 fx
  ·exact sK rx fx t f.2 u' hu
noncomputable def inV (x:V) (xs:List V):Bool:=xs.any fun y=>eqV y x
noncomputable def rIn (K:W.Frag) (neg:Bool):R2:=fun x y H Q=>∃ p xs,y = .ref p /\ (SqL K H p xs \/ SqT K H p xs) /\ nB x = true /\ xs.all nB = true /\ Q (.bl (if neg then !inV x xs else inV x xs)) H
theorem vE:OpR X (compareOp .In) (rIn X.K false):=by
 intro pins s σ H x y v u Q I rx ry h
 obtain ⟨p,xs,rfl,hq,fx,fs,q⟩:=h
 cases ry
 rcases hq with hq | hq
 ·obtain ⟨its,r,pl,hz⟩:=I.list hq
  refine SeqAt.in_listAt (eqU x) pl.isList (fun w hw=>sK rx fx r fs w (by simpa using hw)) ⟨.bl _,H,I,rfl,?_⟩
  rw [show its.toArray.any (eqU x) = its.any (eqU x) by simp,wq r fs]
  exact q
 ·obtain ⟨its,r,pl,hz⟩:=I.tuple hq
  refine SeqAt.in_tupleAt (eqU x) pl (fun w hw=>sK rx fx r fs w (by simpa using hw)) ⟨.bl _,H,I,rfl,?_⟩
  rw [show its.toArray.any (eqU x) = its.any (eqU x) by simp,wq r fs]
  exact q
theorem CallR.or {f:Value} {r r':List V -> Hp -> VK -> Prop} (h:CallR X f r) (h':CallR X f r'):CallR X f (fun xs H Q=>r xs H Q \/ r' xs H Q):=by
 intro pins s σ H xs us Q I rs q
 rcases q with q | q
 ·exact h pins s σ H xs us Q I rs q
 ·exact h' pins s σ H xs us Q I rs q
theorem wA:CallR X (.type "list") (fun xs H Q=>∃ p ys,xs = [.ref p] /\ (SqL X.K H p ys \/ SqT X.K H p ys) /\ ∀ l,H l = none -> Q (.ref l) (upd H l (.lst ys))):=by
 intro pins s σ H xs us Q I r h
 obtain ⟨p,ys,rfl,hq,q⟩:=h
 obtain ⟨u,rfl,rx⟩:=zY r
 cases rx
 have fin:∀ (its:List Value),Vals ys its -> ys.length <= sizeLine -> ∀ (h':Heap) (c':Nat),(∀ b o',s.heap.get? b = some o' -> h'.get? b = some o') ->
   h'.get? s.heap.objs.size = some { cls:=.type "list",dict:=none,data:=.seq its.toArray c',slots:=#[] } -> EP X pins σ Q (.ref s.heap.objs.size) { s with heap:=h' }:=fun its r' hz h' c' kp e=>
  ⟨.ref s.heap.objs.size,_,I.laid (t':=s.toks) kp (OH _) (show ObjOk X.prog X.w _ h' _ (.lst ys) from ⟨hz,its,c',r',e⟩),rfl,q _ (I.hok.fresh (OH _))⟩
 rcases hq with hq | hq
 ·obtain ⟨its,r',pl,hz⟩:=I.list hq
  have hlen:=r'.length
  obtain ⟨o,ho,hc,n,hd⟩:=pl.isList
  exact call_list_seq p (.inl rfl) ho hc hd (fun h' c' kp e=>fin its r' hz h' c' kp e) (by simp only [O0] <;> lia)
 ·obtain ⟨its,r',pl,hz⟩:=I.tuple hq
  have hlen:=r'.length
  obtain ⟨o,ho,hc,n,hd⟩:=pl
  exact call_list_seq p (.inr rfl) ho hc hd (fun h' c' kp e=>fin its r' hz h' c' kp e) (by simp only [O0] <;> lia)
theorem fB:CallR X (.type "tuple") (fun xs H Q=>∃ p ys,xs = [.ref p] /\ ((SqL X.K H p ys /\ ∀ l,H l = none -> Q (.ref l) (upd H l (.tup ys))) \/ (SqT X.K H p ys /\ Q (.ref p) H))):=by
 intro pins s σ H xs us Q I r h
 obtain ⟨p,ys,rfl,h⟩:=h
 obtain ⟨u,rfl,rx⟩:=zY r
 cases rx
 rcases h with ⟨hq,q⟩ | ⟨hq,q⟩
 ·obtain ⟨its,r',pl,hz⟩:=I.list hq
  have hlen:=r'.length
  refine call_tuple_list pl.isList (fun h' kp=>?_) (by simp only [O0] <;> lia)
  have I1:Inv X pins σ H { s with heap:=h' }:=I.kept (t':=s.toks) kp
  have I2:Inv X pins σ (upd H h'.objs.size (.tup ys)) { s with heap:=h'.push { cls:=.type "tuple",data:=.seq its.toArray } }:=
   I1.laid (t':=s.toks) (fun b o e=>OT _ e) (OH _) (show ObjOk X.prog X.w _ _ _ (.tup ys) from ⟨hz,its,r',IsTup.new _ _⟩)
  exact ⟨.ref h'.objs.size,_,I2,rfl,q _ (I1.hok.fresh (OH _))⟩
 ·obtain ⟨its,r',pl,hz⟩:=I.tuple hq
  exact call_tuple_same pl ⟨.ref p,H,I,rfl,q⟩
def tyV (K:W.Frag) (T:String) (x:V) (H:Hp):Prop:=match x with
 | .str _=>T = "str"
 | .int _=>T = "int"
 | .ref p=>(T = "list" /\ ∃ xs,SqL K H p xs) \/ (T = "tuple" /\ ∃ o,K.lookup p = some o /\ o.cls = .type "tuple" /\ o.dict = none) \/
   (T = "dict" /\ ((∃ kvs,H p = some (.dK kvs)) \/ ∃ kvs,H p = some (.dT kvs))) \/ (T = "set" /\ ∃ S n,H p = some (.set S n))
 | _=>False
theorem KB {pins:List (Addr × Obj)} {σ:St} {H:Hp} {s:Shared} {T:String} {x:V} {v:Value} (I:Inv X pins σ H s) (r:RelV x v) (ty:tyV X.K T x H) :
  s.TypeIs v T /\ ∀ a,v = .ref a -> ∃ ob,s.heap.get? a = some ob /\ ob.dict = none:=by
 cases x with
 | str z=>
  obtain ⟨t,rfl⟩:=r
  cases (show T = "str" from ty)
  exact ⟨typeIs_str s z t,fun _ e=>nomatch e⟩
 | int i=>
  obtain ⟨t,rfl⟩:=r
  cases (show T = "int" from ty)
  exact ⟨typeIs_int s i t,fun _ e=>nomatch e⟩
 | ref p=>
  cases r
  rcases ty with ⟨rfl,xs,hq⟩ | ⟨rfl,o,hk,hc,hd⟩ | ⟨rfl,hk⟩ | ⟨rfl,S,n,hk⟩
  ·obtain ⟨its,_,pl,_⟩:=I.list hq
   refine ⟨pl.isList.typeIs,fun a e=>?_⟩
   cases e
   obtain ⟨o,n,e,c,hd,_⟩:=pl
   exact ⟨o,e,hd⟩
  ·refine ⟨⟨o,I.kIn p o hk,hc⟩,fun a e=>?_⟩
   cases e
   exact ⟨o,I.kIn _ o hk,hd⟩
  ·have z:∃ o,s.heap.get? p = some o /\ o.ExactDict:=by
    rcases hk with ⟨kvs,hk⟩ | ⟨kvs,hk⟩
    ·obtain ⟨_,_,_,_,o,_,_,e,ex,_⟩:=I.hok p _ hk
     exact ⟨o,e,ex⟩
    ·obtain ⟨_,_,_,_,o,_,_,e,ex,_⟩:=I.hok p _ hk
     exact ⟨o,e,ex⟩
   obtain ⟨o,e,ex⟩:=z
   refine ⟨⟨o,e,ex.1⟩,fun a e2=>?_⟩
   cases e2
   exact ⟨o,e,ex.2.1⟩
  ·obtain ⟨o,_,_,_,e,ex,_⟩:=I.hok p _ hk
   refine ⟨⟨o,e,ex.1⟩,fun a e2=>?_⟩
   cases e2
   exact ⟨o,e,ex.2.1⟩
 | _=>exact False.elim ty
noncomputable def tBM (K:W.Frag) (T:String) (r:V -> List V -> Hp -> VK -> Prop) (to:TE) (t:TA):TE:=fun σ H Q=>to σ H fun x H1=>tyV K T x H1 /\ t σ H1 fun xs H2=>r x xs H2 Q
variable {o e:Expr} {es:List Expr} {to:TE} {t:TA} {name:Str} {apos cpos:Pos} {T id:String} {r:V -> List V -> Hp -> VK -> Prop}
theorem gM (pa:PlainAttrs T) (slot:Slot T name id) (hty:typeOf (.builtin id) = pure (.type "method_descriptor")) (hm:MtR X id r) (ho:PE X o to) (ha:PA X (e :: es) t)
  (hbase:attributeBase o name X.env (eval o X.env) = eval o X.env:=by rfl)
  (hfew:((backTo cpos (starEach (e :: es) X.env)).all (fun x=>!x.1) && (backToKw cpos (keywordEach [] X.env)).all (fun x=>x.1.isSome)
   && decide ((e :: es).length + ([]:List Keyword).length + (if ([]:List Keyword).isEmpty then 0 else 1) < 30)) = true:=by rfl)
  (hline:(apos.endLine == cpos.line) = true:=by rfl) (hs:starEach (e :: es) X.env = (false,eval e X.env) :: starEach es X.env:=by rfl) (hplain:(backTo cpos (starEach es X.env)).any (·.1) = false:=by rfl) :
  PE X (.Call (.Attribute o name apos) (e :: es) [] cpos) (tBM X.K T r to t):=by
 intro pins s σ H Q I h
 refine wpAny_Call_method_late hbase hfew hline rfl (thn (ho pins s σ H _ I h) fun v s1 hpt9=>?_)
 obtain ⟨x,H1,I1,r1,ty,q1⟩:=hpt9
 obtain ⟨h1,h2⟩:=KB I1 r1 ty
 refine ⟨T,id,pa,slot,hty,h1,h2,?_⟩
 have hA:=ha cpos pins s1 σ H1 _ I1 q1
 rw [hs] at hA ⊢
 refine Calls.callWith_builtin (by show (false || (backTo cpos (starEach es X.env)).any (·.1)) = false;rw [hplain] <;> rfl) (Calls.evalArgs_plain ?_)
 exact thn hA fun us s2 ⟨vs,H2,I2,r2,q2⟩=>hm pins s2 σ H2 x vs v us Q I2 r1 r2 q2
end
def MtM (X:Cx) (id:String) (r:V -> List V -> Hp -> VK -> Prop):Prop:=
 ∀ (pins:List (Addr × Obj)) (s:Shared) (σ:St) (H:Hp) (x:V) (xs:List V) (v:Value) (us:List Value) (Q:VK),Inv X pins σ H s -> RelV x v -> Vals xs us -> r x xs H Q ->
  wpAny (model X.prog X.w) X.A (call (.builtin id) (v :: us)) (EP X pins σ Q) X.xe s
theorem Vals.one {x:V} {us:List Value} (h:Vals [x] us):∃ u,us = [u] /\ RelV x u:=by
 cases h with
 | cons r t=>cases t;exact ⟨_,rfl,r⟩
theorem Vals.two {x y:V} {us:List Value} (h:Vals [x,y] us):∃ u v,us = [u,v] /\ RelV x u /\ RelV y v:=by
 cases h with
 | cons r t=>
  cases t with
  | cons q t=>cases t;exact ⟨_,_,rfl,r,q⟩
section
variable {X:Cx} {pins:List (Addr × Obj)} {σ:St} {H:Hp} {s:Shared} {l b:Addr} {xs ys zs:List V}
theorem Inv.lset {its its':List Value} {n:Nat} {f:Array Value -> Array Value} {t':Nat} (I:Inv X pins σ H s) (hH:H l = some (.lst xs))
  (e:s.heap.get? l = some { cls:=.type "list",data:=.seq its.toArray n }) (hf:f its.toArray = its'.toArray) (hv:Vals ys its') (hz:ys.length <= sizeLine) :
  Inv X pins σ (upd H l (.lst ys)) { s with heap:=s.heap.update l (Obj.mapSeq f),toks:=t' }:=by
 have q:=PySem.IsL.update e f
 rw [hf] at q
 refine I.write (x:=l) (e:=l) (by rw [hH];exact trivial) (.inl rfl) (fun b' u hb hu=>(RK s.heap (Obj.mapSeq f) (O8 hb)).trans hu) ⟨_,q⟩ ?_
 exact ⟨hz,its',_,hv,q⟩
theorem Inv.lnew {its:List Value} {t':Nat} (I:Inv X pins σ H s) (hv:Vals ys its) (hz:ys.length <= sizeLine) :
  Inv X pins σ (upd H s.heap.objs.size (.lst ys)) { s with heap:=s.heap.push { cls:=.type "list",data:=.seq its.toArray },toks:=t' }:=
 I.laid (fun _ _ q=>OT _ q) (OH _) ⟨hz,its,0,hv,O3 _ rfl⟩
theorem Inv.fresh (I:Inv X pins σ H s):H s.heap.objs.size = none:=I.hok.fresh (OH _)
theorem Inv.lstM (I:Inv X pins σ H s) (hH:H l = some (.lst xs)):xs.length <= sizeLine /\ ∃ (its:List Value) (n:Nat),Vals xs its /\ xs.length = its.length /\ s.heap.get? l = some { cls:=.type "list",data:=.seq its.toArray n }:=by
 obtain ⟨z,its,n,r,e⟩:=I.hok l _ hH
 exact ⟨z,its,n,r,r.length,e⟩
theorem Fl {n:Nat} (h:n <= sizeLine):Builtin.List.listTooLong n = false:=by
 unfold Builtin.List.listTooLong
 exact Pf (by lia)
end
section
variable {X:Cx}
noncomputable def rAppend:V -> List V -> Hp -> VK -> Prop:=fun x vs H Q=>∃ l xs y,x = .ref l /\ vs = [y] /\ H l = some (.lst xs) /\ xs.length < sizeLine /\ Q .non (upd H l (.lst (xs ++ [y])))
theorem cX:MtM X "list.append" rAppend:=by
 intro pins s σ H x vs v us Q I rx rv h
 obtain ⟨l,xs,y,rfl,rfl,hH,hz,q⟩:=h
 cases rx
 obtain ⟨u,rfl,ru⟩:=rv.one
 obtain ⟨z,its,n,r,hl,e⟩:=I.lstM hH
 refine call_meets F.slot_list_append ⟨_,e,rfl⟩ F.entry_list_append (F.args_list_append_2 _ _) (PySem.list_append l its.toArray n u (by rw [O0];lia)) ⟨e,?_⟩
 refine ⟨.non,_,I.lset (its':=its ++ [u]) hH e (by simp) (r.append (.cons ru .nil)) ?_,rfl,q⟩
 rw [OM,PU]
 lia
end
section
variable {prog:Program} {w:World} {A:Around} {E:Value -> Shared -> Prop} {s:Shared}
end
section
variable {X:Cx}
end
end L2
namespace Att
open PySem PySem.W PySem.Calls PyProof.Rows
theorem qz {P:Params} {h:Heap}:∀ (ns:List Int) (vs:List Value),WellAll P h vs (ns.map WData.int) -> IntsAre vs ns:=by
 intro ns
 induction ns with
 | nil=>
  intro vs w
  rw [Qa] at w
  cases w
  exact .nil
 | cons n ns ih=>
  intro vs w
  rw [OQ] at w
  cases w with
  | cons a b=>
   cases a
   exact .cons _ _ (ih _ b)
theorem DW {l:OpenLaw} {n:Nat} (hn:l.most = some n) {P:Params} {h:Heap} {args:List WData} {vals:List Value}
  (hpre:l.row.toRowW.claim.pre args = true) (hwl:WellAll P h vals args) :
  ∃ a vs ns,vals = [Value.ref a] /\ args = [WData.list (ns.map WData.int)] /\ h.get? a = some { cls:=.type "list",data:=.seq vs.toArray } /\ IntsAre vs ns /\ ns.length <= n:=by
 have hsh:WShape.hasAll [] args [.list .int] = true:=(pre_splitW hpre).1
 have hc:l.pre.holds [] { args:=args } = true:=(pre_splitW hpre).2
 obtain ⟨d,r,rfl,h1,h2⟩:=hasAllW_cons hsh
 obtain rfl:=hasAllW_nil h2
 obtain ⟨xs,rfl,h3⟩:=hasW_list h1
 obtain ⟨ns,rfl⟩:=items_int h3
 have hlen:ns.length <= n:=by
  unfold OpenLaw.pre at hc
  have h4:(WTm.not (.lt (.lit (.int (n:Int))) (.len (.arg 0)))).holds [] { args:=[.list (ns.map .int)] } = true:=by
   have h4:=(holds_andW hc).1
   rw [hn] at h4
   exact h4
  have h5:=condW_of h4 (w_not (w_lt w_lit (w_len_list (w_arg rfl))))
  rw [OJ] at h5
  refine Rg fun q=>?_
  have q':(n:Int) < ((ns.length:Nat):Int):=by omega
  first
   | (rw [Pr q'] at h5;exact absurd h5 (by decide))
   | (simp at h5;omega)
 cases hwl with
 | cons w1 w2=>
  cases w2
  cases w1 with
  | list ho hall=>exact ⟨_,_,ns,rfl,rfl,ho,qz ns _ hall,hlen⟩
theorem DN (l:OpenLaw) (args:List WData):l.row.toRowW.claim.post args (.bool true) args = true:=
 postW_of (r:=l.row.toRowW) (X:=(true == true))
  (show WShape.has [] (.bool true) .bool = true by first | rfl | decide | simp [WShape.has,WShape.arms,WShape.armsAll])
  (show (WTm.eq .res (.lit (.bool true))).value [] { args:=args,res:=some (.bool true),after:=args } = some (.bool (true == true)) from w_eq_bool (w_res rfl) w_lit) rfl
theorem xU {l:OpenLaw} {n:Nat} {q:Program} {loose:List Str} {XP:(Str -> Option Value) -> Heap -> Prop} {YP:World -> Heap -> Prop} {d:DefRec}
  (hn:l.most = some n) (hdf:d.params.defaults = [])
  (call:∀ (w:World) (s₀ s₁:Shared) (mg mb:Str -> Option Value) (fa:Addr) (o:Obj) (pm cd doc:Value) (a:Addr) (vs:List Value) (ns:List Int),
   Ground q loose [] XP w s₀ mg mb s₁.heap -> YP w s₁.heap ->
   s₁.heap.get? fa = some o -> o.data = .func (docDef d.name d.params d.body d.scope pm cd doc) -> s₁.heap.CodeRec cd d.name -> mg d.name = some (.ref fa) ->
   s₁.heap.get? a = some { cls:=.type "list",data:=.seq vs.toArray } -> IntsAre vs ns -> ns.length <= n -> s₁.gens = #[] ->
   codeAny (model l.prog w) callerA (.call (.ref fa) ⟨[.ref a],[]⟩) (fun r s'=>r = .ok (.ret (.bool true)) /\ OldK s₁.heap s'.heap /\ s'.os = s₁.os /\ AllBare s'.gens) s₁) :
  WalkO q loose XP YP l.row.toRowW d [] (fun f vs=>PySem.call f vs):=by
 intro w s₀ s₁ mg mb G Y fa o pm cd doc dV kV ho hd hcd hD hmg hg args vals as hpre hlay hrd hwl hlo
 obtain rfl:dV = .none:=Dflts.none hD hdf
 obtain rfl:kV = .none:=Dflts.noKw hD
 obtain ⟨a,vs,ns,rfl,rfl,hobj,hints,hlen⟩:=DW hn hpre hwl
 refine enter_call (Rb (call w s₀ s₁ mg mb fa o pm cd doc a vs ns G Y ho (fd_plain hd) hcd hmg hobj hints hlen hg) fun r s' hq=>?_)
 obtain ⟨rfl,h2,h3,h4⟩:=hq
 exact ⟨.inl ⟨.bool true,.bool true,[],rfl,fun _=>rfl,.bool true,DN l _,fun _=>⟨List.Pairwise.nil,fun _ hm=>(nomatch hm)⟩⟩,h2,h3,h4⟩
section
variable {prog:Program} {w:World} {A:Around} {E:Value -> Shared -> Prop} {s:Shared} {K:Frag}
end
end Att
namespace L2
open PySem PySem.Spec PyProof.Rows
theorem vZ:∀ {vs:List Value} {ns:List Int},IntsAre vs ns -> Vals (ns.map V.int) vs
 | _,_,.nil=>.nil
 | _,_,.cons n t h=>.cons ⟨t,rfl⟩ (vZ h)
def Jm (H:Hp):Prop:=∀ b,H b = none \/ ∃ o xs,H b = some (.frz o (.lst xs))
theorem Fa {P:Program} {w:World} {K:W.Frag} {mg mb:Str -> Option Value} {CX:CXT} {k:Nat} {fa a:Addr} {fd:FuncData} {x:Str} {sp:Sp} {s₁:Shared} {vs:List Value} {ns:List Int}
  (KX:K.In s₁.heap) (hns:s₁.heap.Ns mainGlobals mg) (hb:s₁.heap.Ns builtinsNs mb) (hbb:∀ x:Str,x ≠ "__name__" -> mb x = bootBuiltins x) (hlim:s₁.heap.NoLimit) (hg:s₁.gens = #[])
  (ha:s₁.heap.get? a = some { cls:=.type "list",data:=.seq vs.toArray }) (hi:IntsAre vs ns) (hl:ns.length <= sizeLine) (hr:Room k callerA)
  (F:∀ base:Heap,K.In base -> base.Ns mainGlobals mg -> FnOk P w K mg base CX k fa fd [x] sp) (hbind:∀ (s:Shared) (u:Value),BindsTo s fd ⟨[u],[]⟩ [(x,u)])
  (hsp:∀ H:Hp,Jm H -> SqL K H a (ns.map V.int) -> sp [.ref a] H (fun v _=>v = .bl true) fun _ _ _=>False)
  (hCX:∀ H e s',CX [] H s₁ (fun _ _ _=>False) e s' -> False) :
  codeAny (model P w) callerA (.call (.ref fa) ⟨[.ref a],[]⟩) (fun r s'=>r = .ok (.ret (.bool true)) /\ OldK s₁.heap s'.heap /\ s'.os = s₁.os /\ AllBare s'.gens) s₁:=by
 have rv:=vZ hi
 have lenV:=hi.length
 -- from an abstract heap in which nothing but the script may be tracked
 have core:∀ H:Hp,Jm H -> SqL K H a (ns.map V.int) -> HOk P w H s₁.heap -> (∀ b,H b ≠ none -> b = a) -> (H a ≠ none -> K.lookup a = none) ->
   codeAny (model P w) callerA (.call (.ref fa) ⟨[.ref a],[]⟩) (fun r s'=>r = .ok (.ret (.bool true)) /\ OldK s₁.heap s'.heap /\ s'.os = s₁.os /\ AllBare s'.gens) s₁:=by
  intro H hO hS hok hA hK
  have base_of:∀ {b:Addr} {o:Obj},s₁.heap.get? b = some o -> H b = none -> (wO s₁.heap H).get? b = some o:=fun e n=>ET e n
  have noA:∀ {b:Addr} {o:Obj} {es:Array DictEntry} {ep:Nat},s₁.heap.get? b = some o -> o.data = .dict es ep -> H b = none:=fun {b o es ep} e d=>by
   cases q:H b with
   | none=>rfl
   | some u=>
    have e':b = a:=hA b (by rw [q];simp)
    subst e'
    rw [ha] at e;cases e
    have d':Data.seq vs.toArray _ = Data.dict es ep:=d
    cases d'
  have nsK:∀ {b:Addr} {m:Str -> Option Value},s₁.heap.Ns b m -> (wO s₁.heap H).Ns b m:=fun {b m} ⟨o,es,ep,e,d,r⟩=>⟨o,es,ep,base_of e (noA e d),d,r⟩
  have hKb:K.In (wO s₁.heap H):=fun b o e=>base_of (KX b o e) (by
   cases q:H b with
   | none=>rfl
   | some u=>
    have e':b = a:=hA b (by rw [q];simp)
    subst e'
    rw [hK (by rw [q];simp)] at e;cases e)
  have hM:Mod K mg (wO s₁.heap H):=⟨hKb,nsK hns,⟨mb,nsK hb,hbb⟩,let ⟨mc,h1,h2⟩:=hlim;⟨mc,nsK h1,h2⟩⟩
  have e0:Env0 P w K mg (wO s₁.heap H) callerA [] s₁ H:=⟨rfl,hM,fun b o e=>HG e,Pz (Di _ _),trivial,fun b hb=>absurd (show b ∈ ([]:List Addr) from hb) (by simp),hok,.of_eq hg⟩
  refine Rb ((F _ hKb (nsK hns)).run callerA [] s₁ H ⟨[.ref a],[]⟩ [.ref a] [.ref a] _ _ hr e0 (hbind s₁ (.ref a)) (.cons rfl .nil) (hsp H hO hS)) fun r s' h=>?_
  cases r with
  | error e=>exact (hCX H e s' h).elim
  | ok fl=>
   cases fl with
   | next=>exact False.elim h
   | brk=>exact False.elim h
   | cont=>exact False.elim h
   | ret u=>
    obtain ⟨v,H',os,bare,un,hok',r',q⟩:=h
    have q':v = .bl true:=q
    subst q'
    obtain rfl:u = Value.bool true:=r'
    refine ⟨rfl,OldK.of_keep fun b o e=>?_,os,bare⟩
    cases q:H b with
    | none=>exact un.keep b o e q (by intro z;exact absurd (show b ∈ ([]:List Addr) from z) (by simp)) (by simp)
    | some u=>
     rcases hO b with z | ⟨ob,xs,z⟩
     ·rw [q] at z;cases z
     ·have z2:=un.frzs b ob _ z
      obtain ⟨e1,_⟩:=hok b _ z
      obtain ⟨e2,_⟩:=hok' b _ z2
      rw [e] at e1;cases e1
      exact e2
 cases hk:K.lookup a with
 | some o=>
  -- the script is one of the module's own objects
  have e:=KX a o hk
  rw [ha] at e
  cases e
  refine core (fun _=>none) (fun _=>.inl rfl) (.inr ⟨_,vs.toArray,_,hk,rfl,rfl,rfl,by rw [O0,lenV];exact hl,by simpa using rv⟩) (fun b u z=>by have z':(none:Option HO) = some u:=z;cases z') (fun b z=>absurd rfl z) fun z=>absurd rfl z
 | none=>
  refine core (fun b=>if b = a then some (.frz { cls:=.type "list",data:=.seq vs.toArray } (.lst (ns.map V.int))) else none) (fun b=>?_) (.inl (.inr ⟨{ cls:=.type "list",data:=.seq vs.toArray },OC rfl⟩)) (fun b u z=>?_) (fun b z=>?_) fun _=>hk
  ·by_cases hb:b = a
   ·exact .inr ⟨_,_,OC hb⟩
   ·exact .inl (OB hb)
  ·by_cases hb:b = a
   ·have z':=(OC hb).symm.trans z
    cases z'
    subst hb
    exact ⟨ha,by rw [OJ];exact hl,vs,_,rv,ha⟩
   ·have z':=(OB hb).symm.trans z
    cases z'
  ·by_cases hb:b = a
   ·exact hb
   ·exact absurd (OB hb) z
theorem Iw {l:W.OpenLaw} {n k:Nat} {q:Program} {loose:List Str} {XP:(Str -> Option Value) -> Heap -> Prop} {YP:World -> Heap -> Prop} {d:DefRec} {K:Params -> W.Frag} {CX:World -> CXT} {sp:World -> Sp} {x:Str}
  (hn:l.most = some n) (hn2:n <= sizeLine) (hdf:d.params.defaults = []) (hr:Room k callerA)
  (hY:∀ (w:World) (h:Heap),YP w h -> (K w.params).In h)
  (F:∀ (w:World) (mg:Str -> Option Value) (fa:Addr) (h:Heap),(K w.params).In h -> h.Ns mainGlobals mg -> mg d.name = some (.ref fa) ->
   ∃ fd:FuncData,(∀ (s:Shared) (u:Value),BindsTo s fd ⟨[u],[]⟩ [(x,u)]) /\
    ∀ base:Heap,(K w.params).In base -> base.Ns mainGlobals mg -> FnOk l.prog w (K w.params) mg base (CX w) k fa fd [x] (sp w))
  (hsp:∀ (w:World) (H:Hp) (a:Addr) (ns:List Int),ns.length <= n -> Jm H -> SqL (K w.params) H a (ns.map V.int) -> sp w [.ref a] H (fun v _=>v = .bl true) fun _ _ _=>False)
  (hCX:∀ (w:World) (H:Hp) (s:Shared) (e:Value) (s':Shared),CX w [] H s (fun _ _ _=>False) e s' -> False) :
  W.WalkO q loose XP YP l.row.toRowW d [] (fun f vs=>PySem.call f vs):=by
 refine Att.xU hn hdf fun w s₀ s₁ mg mb fa o pm cd doc a vs ns G Y ho hd hcd hmg hobj hints hlen hg=>?_
 have KX:=hY w _ Y
 obtain ⟨fd,hb,hF⟩:=F w mg fa _ KX G.T.g hmg
 exact Fa KX G.T.g G.T.b G.T.builtins G.T.nolimit hg hobj hints (OW hlen hn2) hr hF hb (fun H hO hS=>hsp w H a ns hlen hO hS) fun H e s'=>hCX w H s₁ e s'
noncomputable def aZ (s:Stmt):Arguments:=match s with
 | .FunctionDef _ a _ _ _ _ _ _ _ _=>a
 | _=>{ posonlyargs:=[],args:=[],vararg:=none,kwonlyargs:=[],kw_defaults:=[],kwarg:=none,defaults:=[] }
noncomputable def aV (s:Stmt):List Stmt:=match s with
 | .FunctionDef _ _ b _ _ _ _ _ _ _=>b
 | _=>[]
noncomputable def am (s:Stmt):Scope:=match s with
 | .FunctionDef _ _ _ _ _ _ sc _ _ _=>sc
 | _=>{ kind:=.function,names:=[],isGenerator:=false,isCoroutine:=false }
noncomputable abbrev CX0:CXT:=fun _ _ _ _ _ _=>False
noncomputable abbrev E0:XK:=fun _ _ _=>False
theorem cf {X:Cx}:Ac CX0 X E0:=fun _ _ _ _ _ _ _ h=>h.elim
structure Fun (K:W.Frag) (x qual:Str) (st:Stmt) (f:Addr) (fd:FuncData):Prop where
 ex:∃ (oc:Value) (od:Option Addr) (kV doc pm:Value) (an:Option Addr) (cdv ct:Value) (osl:Array (Option Value)),
  fd = W.fnOf x qual (aZ st) (aV st) (am st) .none kV doc pm an cdv ct /\ K.lookup f = some ⟨oc,od,.func fd,osl⟩ /\ W.codeIn K cdv qual = true
 kp:W.keepIn K (.ref f) = true
section
variable {P:Program} {w:World} {K:W.Frag} {mg:Str -> Option Value} {base:Heap}
theorem Fun.ok {x qual:Str} {st:Stmt} {f:Addr} {fd:FuncData} {N ps:List Str} {k:Nat} {sp:Sp} (F:Fun K x qual st f fd) (S:FnScope N ps (am st)) (len:∀ vs H Q E,sp vs H Q E -> vs.length = ps.length)
  (hbody:∀ (cdv:Value) (A:Around) (outer:List Env) (s:Shared) (H:Hp) (vs:List V) (Q:VK) (E:XK),Room k (A.deeper (envOfC qual (am st) s.heap.objs.size f cdv)) -> sp vs H Q E ->
   ∃ t,PSs (Au CX0 P w K mg base N qual (am st) f cdv A outer s H E).nox (aV st) t /\ t { nx:=fun _ H'=>Q .non H',rt:=Q } (bi N vs) H):FnOk P w K mg base CX0 (k + 1) f fd ps sp:=by
 obtain ⟨oc,od,kV,doc,pm,an,cdv,ct,osl,rfl,lk,hcd⟩:=F.ex
 refine IA lk hcd S len fun A outer s H vs Q E hr hsp=>?_
 obtain ⟨t,h,q⟩:=hbody cdv A outer s H vs Q E hr hsp
 exact ⟨t,h.nox,q⟩
theorem Fun.binds {x qual:Str} {st:Stmt} {f:Addr} {fd:FuncData} {ps:List Str} (F:Fun K x qual st f fd)
  (h:∀ (kV doc pm:Value) (an:Option Addr) (cdv ct:Value) (us:List Value),us.length = ps.length -> bindArgs (W.fnOf x qual (aZ st) (aV st) (am st) .none kV doc pm an cdv ct) ⟨us,[]⟩ = pure (ps.zip us)):Binds K fd ps []:=by
 obtain ⟨oc,od,kV,doc,pm,an,cdv,ct,osl,rfl,lk,hcd⟩:=F.ex
 exact .all (h kV doc pm an cdv ct)
theorem cN {x qual:Str} {st:Stmt} {f:Addr} {oc:Value} {od an:Option Addr} {osl:Array (Option Value)} {kV doc pm cdv ct:Value} (l:K.lookup f = some ⟨oc,od,.func (W.fnOf x qual (aZ st) (aV st) (am st) .none kV doc pm an cdv ct),osl⟩)
  (c:W.codeIn K cdv qual = true) (k:W.keepIn K (.ref f) = true):Fun K x qual st f (W.fnOf x qual (aZ st) (aV st) (am st) .none kV doc pm an cdv ct):=⟨⟨oc,od,kV,doc,pm,an,cdv,ct,osl,rfl,l,c⟩,k⟩
end
section
variable {X:Cx}
theorem pv (i:Nat) {x:Str} {pos:Pos} (hN:X.N[i]? = some x:=by rfl) (hv:Vis X.env.scope x:=by first | exact Or.inl rfl | exact Or.inr (.inl rfl) | exact Or.inr (.inr rfl)) (hd:(x == ("__debug__" : Str)) = false:=by decide)
  (hcd:(x == ("__classdict__" : Str)) = false:=by decide):PE X (.Name x pos) (g6 i):=J9 hN hv hd hcd
end
theorem yD {A B:Prop} (h:B):if false = true then A else B:=by
 rw [OB Px]
 exact h
theorem yE {A B:Prop} (h:A):if true = true then A else B:=by
 rw [OC rfl]
 exact h
def Same (H H':Hp):Prop:=∀ b o,H b = some o -> H' b = some o
theorem Same.refl (H:Hp):Same H H:=fun _ _ h=>h
theorem Same.trans {H H1 H2:Hp} (a:Same H H1) (b:Same H1 H2):Same H H2:=fun c o h=>b c o (a c o h)
theorem Same.free {H H':Hp} (e:Same H H') {l:Addr} (h:H' l = Option.none):H l = Option.none:=by
 cases q:H l with
 | none=>rfl
 | some o=>
  rw [e l o q] at h
  cases h
end L2
set_option linter.all false
set_option maxHeartbeats 4000000
set_option maxRecDepth 100000
namespace L2
open PySem PySem.Spec PyProof.Rows
structure CmpOk (XN:List Str) (sc scope:Scope) (N:List Str) (js:List (Option Nat)):Prop where
 kind:scope.kind = .function
 cell:∀ y ∈ scope.names,y.2 ≠ .cell
 free:∀ y ∈ scope.names,y.2 = .free -> sc.names.lookup y.1 = some .cell \/ sc.names.lookup y.1 = some .free
 loc:∀ y ∈ scope.names,y.2 = .local -> scope.names.lookup y.1 = some .local
 len:js.length = N.length
 ix:((N.zip js).all fun p=>match p.2 with | none=>true | some j=>decide (XN[j]? = some p.1) && decide (scope.names.lookup p.1 = some .free)) = true
noncomputable def ku (env:Env):List (Str × NameKind) -> List (Str × Addr) -> List (Str × Addr)
 | [],cs=>cs
 | (n,k) :: r,cs=>ku env r (if k = .free then (match env.cells.lookup n with | some c=>(n,c) :: cs | none=>cs) else cs)
theorem x6 {env:Env}:∀ {names:List (Str × NameKind)} {cs:List (Str × Addr)},(∀ n c,cs.lookup n = some c -> env.cells.lookup n = some c) -> ∀ n c,(ku env names cs).lookup n = some c -> env.cells.lookup n = some c
 | [],_,h=>h
 | (m,k) :: r,cs,h=>by
  unfold ku
  refine x6 ?_
  split
  ·cases e:env.cells.lookup m with
   | none=>exact h
   | some d=>
    intro n c hn
    dsimp only at hn
    rw [PK] at hn
    cases q:n == m with
    | true=>
     rw [q] at hn
     have e1:n = m:=by simpa using q
     cases hn
     rw [e1];exact e
    | false=>rw [q] at hn;exact h n c hn
  ·exact h
theorem x5 {env:Env}:∀ {names:List (Str × NameKind)} {cs:List (Str × Addr)} {n:Str},((n,NameKind.free) ∈ names /\ (∃ c,env.cells.lookup n = some c)) \/ (∃ c,cs.lookup n = some c) -> ∃ c,(ku env names cs).lookup n = some c
 | [],_,_,h=>h.elim (fun z=>by cases z.1) id
 | (m,k) :: r,cs,n,h=>by
  unfold ku
  refine x5 ?_
  rcases h with ⟨hm,c,hc⟩ | ⟨c,hc⟩
  ·rcases OP.mp hm with e | hm
   ·cases e
    right
    rw [OC rfl,hc]
    exact ⟨c,by rw [PK];simp⟩
   ·exact .inl ⟨hm,c,hc⟩
  ·right
   split
   ·cases e:env.cells.lookup m with
    | none=>exact ⟨c,hc⟩
    | some d=>
     dsimp only
     rw [PK]
     cases q:n == m with
     | true=>exact ⟨d,rfl⟩
     | false=>exact ⟨c,hc⟩
   ·exact ⟨c,hc⟩
theorem rP {env:Env} {scope:Scope} (h:∀ y ∈ scope.names,y.2 = .free -> ∃ c,env.cells.lookup y.1 = some c):closureFor scope env = pure (ku env scope.names []):=by
 have key:∀ (names:List (Str × NameKind)) (cs:List (Str × Addr)),(∀ y ∈ names,y.2 = .free -> ∃ c,env.cells.lookup y.1 = some c) ->
   (forIn names cs (fun (x:Str × NameKind) r=>if (x.2 == NameKind.free) = true then (do let a ← cellOf env x.1;pure (ForInStep.yield ((x.1,a) :: r))) else pure (ForInStep.yield r)):Sem (List (Str × Addr))) = pure (ku env names cs):=by
  intro names
  induction names with
  | nil=>intro cs _;rfl
  | cons y r ih=>
   intro cs hy
   obtain ⟨n,k⟩:=y
   rw [List.forIn_cons]
   unfold ku
   by_cases hk:k = .free
   ·subst hk
    obtain ⟨c,hc⟩:=hy _ OI rfl
    have e1:cellOf env n = pure c:=by unfold cellOf;rw [hc]
    rw [OC (by rfl)]
    rw [OC rfl,hc]
    show ((cellOf env n >>= fun a=>pure (ForInStep.yield ((n,a) :: cs))) >>= _) = _
    rw [e1]
    exact ih _ fun z hz=>hy z (OK _ hz)
   ·have hb:(k == NameKind.free) = false:=by simpa using hk
    rw [OB (by rw [hb];decide),OB hk]
    exact ih _ fun z hz=>hy z (OK _ hz)
 have k:=key scope.names [] h
 unfold closureFor
 show (forIn scope.names ([]:List (Str × Addr)) _ >>= fun cs=>pure cs) = _
 refine Eq.trans (OZ (fun t=>t >>= fun cs=>pure cs) (Eq.trans ?_ k)) rfl
 congr 1
theorem tw {env:Env}:∀ {names:List (Str × NameKind)} {x:Str},names.lookup x = some .free ->
  (names.map fun (n,k)=>if (k == NameKind.free && env.scope.kind == .function && env.kindOf n == some .cell) then (n,NameKind.cell) else (n,k)).lookup x = some .cell \/
  (names.map fun (n,k)=>if (k == NameKind.free && env.scope.kind == .function && env.kindOf n == some .cell) then (n,NameKind.cell) else (n,k)).lookup x = some .free
 | [],_,h=>by simp at h
 | (n,k) :: r,x,h=>by
  have ih:=@tw env r x
  rw [OQ]
  dsimp only
  cases q:x == n with
  | true=>
   rw [PK,q] at h
   cases h
   split
   ·left;rw [PK,q]
   ·right;rw [PK,q]
  | false=>
   rw [PK,q] at h
   split
   ·rw [PK,q];exact ih h
   ·rw [PK,q];exact ih h
theorem mS {env:Env}:∀ {names:List (Str × NameKind)} {x:Str} {j:NameKind},(∀ y ∈ names,y.2 ≠ .cell) -> (j = .cell \/ j = .free) ->
  (names.map fun (n,k)=>if (k == NameKind.free && env.scope.kind == .function && env.kindOf n == some .cell) then (n,NameKind.cell) else (n,k)).lookup x = some j -> (x,NameKind.free) ∈ names
 | [],_,_,_,_,h=>by simp at h
 | (n,k) :: r,x,j,hc,hj,h=>by
  have ih:=@mS env r x j (fun y hy=>hc y (OK _ hy)) hj
  rw [OQ] at h
  dsimp only at h
  cases q:x == n with
  | true=>
   have e:x = n:=by simpa using q
   subst e
   split at h
   ·rename_i g
    have:k = .free:=by
     simp only [PH,Qk] at g
     exact g.1.1
    subst this
    exact OI
   ·rw [PK,q] at h
    cases h
    rcases hj with z | z
    ·exact absurd z (hc _ OI)
    ·rw [z];exact OI
  | false=>
   refine OK _ (ih ?_)
   split at h
   ·rw [PK,q] at h;exact h
   ·rw [PK,q] at h;exact h
noncomputable def inn (js:List (Option Nat)) (σ:St):St:=js.map fun o=>match o with | none=>none | some j=>(σ[j]?).join
structure CxZ where
 cl:List (Str × Addr)
 C:Addr
 s:Shared
 H:Hp
 fp:List Addr
 pins:List (Addr × Obj)
noncomputable def cxC (X:Cx) (N:List Str) (scope:Scope) (z:CxZ):Cx where
 prog:=X.prog
 w:=X.w
 K:=X.K
 mg:=X.mg
 base:=X.base
 A:=X.A
 N:=N
 s₀:=z.s
 H₀:=z.H
 env:=compEnvC scope z.cl z.C X.env
 outer:=X.stack
 stack:=X.stack
 ex:=z.fp
 fn:=fun _=>false
 calm:=X.calm
 pn:=X.pn ++ z.pins
 xe:=fun _ _=>False
section
variable {X:Cx} {pins:List (Addr × Obj)} {σ:St} {H:Hp} {s:Shared} {XN N:List Str} {sc scope:Scope} {js:List (Option Nat)}
theorem EY {h1:Heap} {m:Str -> Option Value} {tk:Nat} {fp:List Addr} (ck:CmpOk XN sc scope N js) (hXN:X.N = XN) (hsc:X.env.scope = sc) (I:Inv X pins σ H s) (hf:∀ b ∈ fp,rp X pins H b)
  (hfo:∀ b ∈ fp,b < s.heap.objs.size) (hn:h1.Ns s.heap.objs.size m) (hk:∀ b o,s.heap.get? b = some o -> h1.get? b = some o) :
  Inv (cxC X N scope ⟨ku X.env scope.names [],s.heap.objs.size,s,H,fp,pins⟩) [] (inn js σ) H { s with heap:=h1,toks:=tk }:=by
 subst hXN hsc
 have sub:∀ n c,(ku X.env scope.names []).lookup n = some c -> X.env.cells.lookup n = some c:=x6 fun n c h=>by simp at h
 have clt:∀ n c,(ku X.env scope.names []).lookup n = some c -> c < s.heap.objs.size:=fun n c h=>by
  obtain ⟨v,q⟩:=I.cell n c (sub n c h)
  exact q.lt
 have has:∀ x,(x,NameKind.free) ∈ scope.names -> ∃ c,(ku X.env scope.names []).lookup x = some c:=fun x hx=>
  x5 (.inl ⟨hx,I.ok.has x (ck.free _ hx rfl)⟩)
 refine ⟨⟨I.ok.mod,ck.kind,I.ok.glob,I.ok.blt,OH _,fun x y c h1 h2=>I.ok.inj x y c (sub x c h1) (sub y c h2),fun x hx=>?has,fun x c hx=>?cab,I.ok.hd,I.ok.frames,.inl rfl,fun b hb=>?exf,I.bs,?bsz,fun b o e hb=>?noex,fun b hb=>?exfs,I.stack,I.stkFree⟩,
  rfl,I.bare,Un.kept hk,⟨m,hn,fun i x v h1 h2 h3=>?loc⟩,fun x c h=>?cell,I.hok.fresh (OH _),fun x c h=>I.freeC x c (sub x c h),fun p hp=>?pin,I.hok.kept hk,?len⟩
 case has=>
  rcases hx with hx | hx
  ·exact has x (mS ck.cell (.inl rfl) hx)
  ·exact has x (mS ck.cell (.inr rfl) hx)
 case cab=>cases hx
 case exf=>
  obtain ⟨f0,f1,f2,f3,f4,f5⟩:=hf b hb
  exact ⟨OX (hfo b hb),fun x c e=>f4 x c (sub x c e)⟩
 case bsz=>exact OW I.ok.bsz I.sz
 case noex=>
  obtain ⟨f0,f1,f2,f3,f4,f5⟩:=hf b hb
  rcases f3 with f3 | f3
  ·exact I.ok.noex b o e f3
  ·exact absurd (Pa (OS e) (OW I.ok.bsz f3)) (Qy _)
 case exfs=>
  obtain ⟨f0,f1,f2,f3,f4,f5⟩:=hf b hb
  intro z
  rcases OP.mp (I.stkSub b z) with e | e
  ·exact f1 e
  ·exact f2 e
 case loc=>
  have hl:N.length = js.length:=ck.len.symm
  have hi:i < js.length:=by
   have:=(Pg.mp h1).1
   have e:(cxC X N scope ⟨ku X.env scope.names [],s.heap.objs.size,s,H,fp,pins⟩).N = N:=rfl
   rw [e] at this
   lia
  have hN:N[i]? = some x:=h1
  have hj:js[i]? = some js[i]:=P0 hi
  unfold inn at h2
  rw [O6,hj] at h2
  cases q:js[i] with
  | none=>rw [q] at h2;cases h2
  | some j=>
   rw [q] at h2 hj
   have h2':(σ[j]?).join = some v:=Pj h2
   have hσ:σ[j]? = some (some v):=by
    cases e:σ[j]? with
    | none=>rw [e] at h2';cases h2'
    | some o=>rw [e] at h2';exact OZ some h2'
   have hm:(x,some j) ∈ N.zip js:=by
    refine Rf (i:=i) ?_
    rw [List.getElem?_zip_eq_some]
    exact ⟨hN,hj⟩
   have hc:=List.all_eq_true.mp ck.ix _ hm
   simp only [PH,decide_eq_true_eq] at hc
   obtain ⟨c1,c2⟩:=hc
   have hfr:(x,NameKind.free) ∈ scope.names:=QM c2
   have hvis:X.env.scope.names.lookup x = some .cell \/ X.env.scope.names.lookup x = some .free:=ck.free _ hfr rfl
   obtain ⟨m0,hn0,hl0⟩:=I.loc
   obtain ⟨u,r,l⟩:=hl0 j x v c1 hσ (hvis.elim (fun z=>.inr (.inl z)) fun z=>.inr (.inr z))
   refine ⟨u,r,.inr ⟨?_,?_⟩⟩
   ·exact tw c2
   ·rcases l with ⟨k1,_⟩ | ⟨_,c,k1,k2⟩
    ·have k1':X.env.scope.names.lookup x = some .local:=k1
     rcases hvis with z | z
     ·rw [z] at k1';cases k1'
     ·rw [z] at k1';cases k1'
    ·obtain ⟨c',hc'⟩:=has x hfr
     have e:=sub x c' hc'
     rw [k1] at e
     cases e
     obtain ⟨oc,ho,hd⟩:=k2
     exact ⟨c,hc',oc,hk _ _ ho,hd⟩
 case cell=>
  obtain ⟨v,oc,ho,hd⟩:=I.cell x c (sub x c h)
  exact ⟨v,oc,hk _ _ ho,hd⟩
 case pin=>
  have hp':p ∈ X.pn ++ pins:=by simpa [cxC] using hp
  obtain ⟨p1,p2,p3,p4,p5⟩:=I.pin p hp'
  refine ⟨hk _ _ p1,p2,OX (OS p1),fun z=>?_,p5⟩
  rcases OP.mp (I.stkSub _ z) with e | e
  ·exact p3 e
  ·exact p4 e
 case len=>
  show (inn js σ).length = N.length
  unfold inn
  rw [OJ]
  exact ck.len
noncomputable abbrev TIf:=St -> Hp -> (Bool -> Hp -> Prop) -> Prop
def PIf (X:Cx) (ifs:List Expr) (t:TIf):Prop:=
 ∀ (pins:List (Addr × Obj)) (s:Shared) (σ:St) (H:Hp) (Q:Bool -> Hp -> Prop),Inv X pins σ H s -> t σ H Q ->
  wpAny (model X.prog X.w) X.A (forIn ifs true fun c r=>if r = true then do let ok ← isTrue c X.env (eval c X.env);pure (ForInStep.yield ok) else pure (ForInStep.yield r)) (TP X pins σ Q) X.xe s
noncomputable def Iz:TIf:=fun _ H Q=>Q true H
theorem fF:PIf X [] Iz:=fun _ _ _ H _ I h=>wpAny_tests_nil ⟨H,I,h⟩
theorem jF {c:Expr} {t:TT} (h:PT X c t):PIf X [c] t:=fun pins s σ H Q I q=>wpAny_tests_one (h pins s σ H Q I q)
def Lev (σ σ':St):Prop:=σ.length = σ'.length /\ ∀ (i:Nat) (v:V),σ[i]? = some (some v) -> σ'[i]? = some (some v)
theorem Lev.refl (σ:St):Lev σ σ:=⟨rfl,fun _ _ h=>h⟩
theorem Lev.trans {a b c:St} (h:Lev a b) (k:Lev b c):Lev a c:=⟨h.1.trans k.1,fun i v e=>k.2 i v (h.2 i v e)⟩
def Ad (js:List (Option Nat)) (g:TG):Prop:=∀ (σ0:St) (v:V) (σ:St) (H:Hp) (Q:St -> Hp -> Prop),Lev (inn js σ0) σ -> g v σ H Q -> g v σ H fun σ' H'=>Lev (inn js σ0) σ' /\ Q σ' H'
def BK (js:List (Option Nat)) (g:TGs):Prop:=∀ (σ0:St) (vs:List V) (σ:St) (H:Hp) (Q:St -> Hp -> Prop),Lev (inn js σ0) σ -> g vs σ H Q -> g vs σ H fun σ' H'=>Lev (inn js σ0) σ' /\ Q σ' H'
theorem aQ {i:Nat} (h:js[i]? = some none:=by rfl):Ad js (lW i):=fun σ0 v σ H Q l q=>by
 refine ⟨⟨?_,fun j u e=>?_⟩,q⟩
 ·rw [Qb];exact l.1
 ·by_cases hij:i = j
  ·subst hij
   unfold inn at e
   rw [O6,h] at e
   cases e
  ·rw [PF hij]
   exact l.2 j u e
theorem dX:BK js JK:=fun σ0 vs σ H Q l q=>⟨q.1,l,q.2⟩
theorem aP {t:TG} {u:TGs} (h:Ad js t) (k:BK js u) (mono:∀ v σ H (Q Q':St -> Hp -> Prop),(∀ a b,Q a b -> Q' a b) -> t v σ H Q -> t v σ H Q'):BK js (EO t u):=fun σ0 vs σ H Q l q=>by
 obtain ⟨v,r,e,q⟩:=q
 exact ⟨v,r,e,mono _ _ _ _ _ (fun σ' H' z=>k σ0 r σ' H' Q z.1 z.2) (h σ0 v σ H _ l q)⟩
theorem aF {i:Nat}:∀ v σ H (Q Q':St -> Hp -> Prop),(∀ a b,Q a b -> Q' a b) -> lW i v σ H Q -> lW i v σ H Q':=fun _ _ _ _ _ h q=>h _ _ q
theorem fY {K:W.Frag} {n:Nat} {t:TGs} (h:BK js t):Ad js (Hl K n t):=fun σ0 v σ H Q l q=>by
 obtain ⟨a,xs,e,hq,hl,q⟩:=q
 exact ⟨a,xs,e,hq,hl,h σ0 xs σ H Q l q⟩
noncomputable def CH (js:List (Option Nat)) (wi:TI) (g:TG) (tt:TIf) (te:TE):TE:=fun σ H Q=>wi σ H fun J H1=>∀ D,H1 D = none -> ∃ W:Nat -> Nat -> Hp -> Prop,(∃ m,W 0 m (upd H1 D (.lst []))) /\ ∀ i m H,W i m H ->
 (J.stop i H /\ Q (.ref D) H) \/ (J.go i H /\ ∀ x H',J.yld i H x H' -> g x (inn js σ) H' fun σ2 H2=>tt σ2 H2 fun b H3=>
  if b = true then te σ2 H3 fun y H4=>∃ ys,H4 D = some (.lst ys) /\ ys.length < sizeLine /\ ∃ m',m' < m /\ W (i + 1) m' (upd H4 D (.lst (ys ++ [y]))) else ∃ m',m' < m /\ W (i + 1) m' H3)
variable {tg iter elt:Expr} {ifs:List Expr} {pos:Pos} {wi:TI} {g:TG} {tt:TIf} {te:TE}
theorem C7 {E:Value -> Shared -> Prop} {R:Result -> Shared -> Prop} {it D:Addr} {fp:List Addr} {tn:Nat -> Heap -> Prop} {J:It} {z:CxZ} {W:Nat -> Nat -> Hp -> Prop} {n:Nat}
  (hc:X.calm = true) (T:Turn X.prog X.w X.K tg J fp it tn) (hz:∀ b ∈ fp,∀ H',H' b = none -> rp (cxC X N scope z) [] H' b)
  (hg:PG (cxC X N scope z) tg g) (hs:Ad js g) (ht:PIf (cxC X N scope z) ifs tt) (he:PE (cxC X N scope z) elt te)
  (turn:∀ i m H,W i m H -> (J.stop i H /\ ∀ s',Inv (cxC X N scope z) [] (inn js σ) H s' -> R (.ok .next) s') \/ (J.go i H /\ ∀ x H',J.yld i H x H' -> g x (inn js σ) H' fun σ2 H2=>tt σ2 H2 fun b H3=>
   if b = true then te σ2 H3 fun y H4=>∃ ys,H4 D = some (.lst ys) /\ ys.length < sizeLine /\ ∃ m',m' < m /\ W (i + 1) m' (upd H4 D (.lst (ys ++ [y]))) else ∃ m',m' < m /\ W (i + 1) m' H3))
  {s1:Shared} {H1:Hp} (I1:Inv (cxC X N scope z) [] (inn js σ) H1 s1) (t1:tn 0 s1.heap) (f1:∀ b ∈ fp,H1 b = none) (w1:W 0 n H1) :
  codeAny (model X.prog X.w) X.A (.compLoop (.ListComp elt [⟨tg,iter,ifs,0⟩] scope pos) 0 (.ref it) (.ref D) (compEnvC scope z.cl z.C X.env)) R s1:=by
 refine codeAny_loop (c:=.compLoop (.ListComp elt [⟨tg,iter,ifs,0⟩] scope pos) 0 (.ref it) (.ref D) (compEnvC scope z.cl z.C X.env)) rfl
  (fun k s'=>∃ i H',Inv (cxC X N scope z) [] (inn js σ) H' s' /\ tn i s'.heap /\ (∀ b ∈ fp,H' b = none) /\ W i k H') ?_ n ⟨0,H1,I1,t1,f1,w1⟩
 rintro k s2 ⟨i,H2,I2,t2,f2,w2⟩
 show wpAny (model X.prog X.w) X.A ((compTurn (.ListComp elt [⟨tg,iter,ifs,0⟩] scope pos) 0 (.ref it) (.ref D) (compEnvC scope z.cl z.C X.env)).onRaise fun x=>do noteFrame x (compEnvC scope z.cl z.C X.env);theTreesLotGoes x) _ _ s2
 refine wpAny_noted ?_
 rw [compTurn_list]
 refine OA (wpAny_standAt ?_)
 rcases turn i k H2 w2 with ⟨stop,fin⟩ | ⟨go,step⟩
 ·refine OA (thn (T.done (cxC X N scope z) rfl rfl rfl hc i [] s2 (inn js σ) H2 _ I2 (fun b hb=>hz b hb H2 (f2 b hb)) t2 stop) fun r s3 h3=>?_)
  obtain ⟨rfl,I3⟩:=h3
  exact OE (fin s3 I3)
 ·refine OA (thn (T.item (cxC X N scope z) rfl rfl rfl hc i [] s2 (inn js σ) H2 _ I2 (fun b hb=>hz b hb H2 (f2 b hb)) t2 go) fun r s3 h3=>?_)
  obtain ⟨u,rfl,h3⟩:=h3
  refine OA (thn h3 fun _ s4 h4=>?_)
  obtain ⟨x,H4,I4,r4,y4,t4,f4⟩:=h4
  have P4:=I4.pinned (fun b hb=>hz b hb H4 (f4 b hb)) (T.obj _ _ t4)
  have ff:∀ {e:Value} {s':Shared},(cxC X N scope z).xe e s' -> False:=fun h=>h
  refine OA (PZ (hg _ s4 (inn js σ) H4 x u _ P4 r4 (hs σ x (inn js σ) H4 _ (Lev.refl _) (step x H4 y4))) (fun _ s5 h5=>?_) fun _ _ h=>(ff h).elim)
  obtain ⟨σ5,H5,I5,lev,q5⟩:=h5
  refine OA (PZ (ht _ s5 σ5 H5 _ I5 q5) (fun ok s6 h6=>?_) fun _ _ h=>(ff h).elim)
  obtain ⟨H6,I6,q6⟩:=h6
  have again:∀ {s7:Shared} {H7:Hp},Inv (cxC X N scope z) ([] ++ pf fp s4.heap) σ5 H7 s7 -> (∃ m',m' < k /\ W (i + 1) m' H7) -> ∃ m,m < k /\ ∃ i H',Inv (cxC X N scope z) [] (inn js σ) H' s7 /\ tn i s7.heap /\ (∀ b ∈ fp,H' b = none) /\ W i m H':=fun {s7 H7} I7 h7=>by
   obtain ⟨m',hm,w7⟩:=h7
   refine ⟨m',hm,i + 1,H7,(I7.unpinned).weak lev.1 lev.2,T.keep _ _ _ t4 fun b hb o e=>(I7.pin (b,o) (OU _ (OU _ (gI hb e)))).1,fun b hb=>?_,w7⟩
   obtain ⟨o,e,d⟩:=T.obj _ _ t4 b hb
   exact (I7.pin (b,o) (OU _ (OU _ (gI hb e)))).2.1
  cases ok with
  | false=>
   rw [OB (by decide)] at q6
   exact OE ⟨rfl,again I6 q6⟩
  | true=>
   rw [OC rfl] at q6
   refine OA (OA (PZ (he _ s6 σ5 H6 _ I6 q6) (fun y s7 h7=>?_) fun _ _ h=>(ff h).elim))
   obtain ⟨vy,H7,I7,r7,ys,hD,hl,q7⟩:=h7
   refine OA (PZ (cX (X:=cxC X N scope z) _ s7 σ5 H7 (.ref D) [vy] (.ref D) [y] (fun _ H'=>∃ m',m' < k /\ W (i + 1) m' H') I7 rfl (.cons r7 .nil) ⟨D,ys,vy,rfl,rfl,hD,hl,q7⟩) (fun _ s8 h8=>?_) fun _ _ h=>(ff h).elim)
   obtain ⟨_,H8,I8,_,q8⟩:=h8
   exact OE (OE ⟨rfl,again I8 q8⟩)
theorem rQ {E:Value -> Shared -> Prop} {RR:Value -> Addr -> Result -> Shared -> Prop} {Q:VK} {itv:Value} {s2:Shared} (ck:CmpOk XN sc scope N js) (hXN:X.N = XN) (hsc:X.env.scope = sc) (hc:X.calm = true)
  (hg:∀ z,PG (cxC X N scope z) tg g) (hs:Ad js g) (ht:∀ z,PIf (cxC X N scope z) ifs tt) (he:∀ z,PE (cxC X N scope z) elt te)
  (h2:PIE X pins σ tg (fun J H1=>∀ D,H1 D = none -> ∃ W:Nat -> Nat -> Hp -> Prop,(∃ m,W 0 m (upd H1 D (.lst []))) /\ ∀ i m H,W i m H ->
   (J.stop i H /\ Q (.ref D) H) \/ (J.go i H /\ ∀ x H',J.yld i H x H' -> g x (inn js σ) H' fun σ2 H2=>tt σ2 H2 fun b H3=>
    if b = true then te σ2 H3 fun y H4=>∃ ys,H4 D = some (.lst ys) /\ ys.length < sizeLine /\ ∃ m',m' < m /\ W (i + 1) m' (upd H4 D (.lst (ys ++ [y]))) else ∃ m',m' < m /\ W (i + 1) m' H3)) itv s2)
  (hRR:∀ D C s' H' m o,Inv X (pins ++ [(C,o)]) σ H' s' -> s'.heap.Ns C m -> (X.s₀.heap.objs.size <= C /\ C ≠ X.env.locals /\ (∀ x c,X.env.cells.lookup x = some c -> c ≠ C) /\ ∀ p ∈ X.pn ++ pins,p.1 ≠ C) -> H' C = none -> Q (.ref D) H' -> RR (.ref D) C (.ok .next) s') :
  wpAny (model X.prog X.w) X.A (newList []) (fun acc s₃=>wpAny (model X.prog X.w) X.A (newFunctionEnv scope X.env.globals (ku X.env scope.names []) [] X.env.qual none .none (some X.env)) (fun cenv s₄=>
   codeAny (model X.prog X.w) X.A (.compStart (.ListComp elt [⟨tg,iter,ifs,0⟩] scope pos) 0 itv acc { cenv with scope:=relabel scope X.env }) (RR acc cenv.locals) s₄) E s₃) E s2:=by
 obtain ⟨it,fp,tn,J,H2,rfl,I2,T,t2,f2,q2⟩:=h2
 have fo:∀ b ∈ fp,b < s2.heap.objs.size:=fun b hb=>by
  obtain ⟨o,e,_⟩:=T.obj _ _ t2 b hb
  exact OS e
 have hD:H2 s2.heap.objs.size = none:=I2.fresh
 obtain ⟨W,⟨n,w0⟩,turn⟩:=q2 _ hD
 refine Ps (wpAny_newFunctionEnv ck.cell (by intro y hy;simp at hy) (fun h1 hns hsb=>?_) ck.kind)
 have I3:Inv X pins σ (upd H2 s2.heap.objs.size (.lst [])) { s2 with heap:=s2.heap.push { cls:=.type "list",data:=.seq ([]:List Value).toArray },toks:=s2.toks }:=I2.lnew (its:=[]) .nil (Pl _)
 have f3:∀ b ∈ fp,rp X pins (upd H2 s2.heap.objs.size (.lst [])) b:=fun b hb=>by
  obtain ⟨g0,g1⟩:=f2 b hb
  exact ⟨by rw [aD (OX (fo b hb))];exact g0,g1⟩
 have sz:(s2.heap.push { cls:=.type "list",data:=.seq ([]:List Value).toArray }).objs.size = s2.heap.objs.size + 1:=Rh _ _
 have kept:∀ b o,(s2.heap.push { cls:=.type "list",data:=.seq ([]:List Value).toArray }).get? b = some o -> h1.get? b = some o:=fun b o e=>
  hsb.extBut b o (OX (OS e)) (OT _ e)
 have I4:=EY (tk:=s2.toks + ([]:List (Str × Value)).length) ck hXN hsc I3 f3 (fun b hb=>by show b < (s2.heap.push _).objs.size;rw [sz];exact QR (fo b hb)) hns kept
 have t4:tn 0 h1:=T.keep _ _ _ t2 fun b hb o e=>kept b o (OT _ e)
 have fz:∀ b ∈ fp,∀ H',H' b = none -> rp (cxC X N scope ⟨ku X.env scope.names [],(s2.heap.push { cls:=.type "list",data:=.seq ([]:List Value).toArray }).objs.size,{ s2 with heap:=s2.heap.push { cls:=.type "list",data:=.seq ([]:List Value).toArray },toks:=s2.toks },upd H2 s2.heap.objs.size (.lst []),fp,pins⟩) [] H' b:=fun b hb H' hn=>by
  obtain ⟨g0,g1,g2,g3,g4,g5⟩:=f3 b hb
  refine ⟨hn,(I4.ok.exf b hb).1,I4.ok.exfs b hb,.inl hb,(I4.ok.exf b hb).2,fun p hp=>?_⟩
  exact g5 p (by simpa [cxC] using hp)
 have loop:=C7 (X:=X) (σ:=σ) (N:=N) (scope:=scope) (js:=js) (iter:=iter) (pos:=pos) (E:=E) (R:=RR (.ref s2.heap.objs.size) (s2.heap.push { cls:=.type "list",data:=.seq ([]:List Value).toArray }).objs.size) (D:=s2.heap.objs.size) (W:=W) (n:=n)
  hc T fz (hg _) hs (ht _) (he _) (fun i m H w=>(turn i m H w).imp (fun a=>⟨a.1,fun s' Y=>?_⟩) id) I4 t4 (fun b hb=>(f3 b hb).1) w0
 ·exact codeAny_compStart_list loop (T.self _ 0 _ _ _ t4 loop)
 ·have bb:=Y.base
  have J0:Inv X pins σ H s':=I3.call' Y.os bb Y.hok Y.bare fun b hb=>by
   obtain ⟨g0,g1,g2,g3,g4,g5⟩:=f3 b hb
   exact ⟨g3,g1,g4,g5⟩
  obtain ⟨mC,nC,_⟩:=Y.loc
  obtain ⟨oC,eC,dC⟩:∃ o,s'.heap.get? (s2.heap.push { cls:=.type "list",data:=.seq ([]:List Value).toArray }).objs.size = some o /\ ∀ v,o.data ≠ .cell v:=by
   obtain ⟨o,es,ep,ho,hd,_⟩:=nC
   exact ⟨o,ho,fun v z=>by rw [hd] at z;cases z⟩
  have lC:X.s₀.heap.objs.size <= (s2.heap.push { cls:=.type "list",data:=.seq ([]:List Value).toArray }).objs.size:=I3.sz
  have cC:(s2.heap.push { cls:=.type "list",data:=.seq ([]:List Value).toArray }).objs.size ≠ X.env.locals:=Qh I3.lt
  have kC:∀ x c,X.env.cells.lookup x = some c -> c ≠ (s2.heap.push { cls:=.type "list",data:=.seq ([]:List Value).toArray }).objs.size:=fun x c e=>by
   obtain ⟨v,q⟩:=I3.cell x c e
   exact OX q.lt
  have pC:∀ p ∈ X.pn ++ pins,p.1 ≠ (s2.heap.push { cls:=.type "list",data:=.seq ([]:List Value).toArray }).objs.size:=fun p hp=>OX (OS (I3.pin p hp).1)
  have J1:Inv X (pins ++ [((s2.heap.push { cls:=.type "list",data:=.seq ([]:List Value).toArray }).objs.size,oC)]) σ H s':=J0.pins_of fun p hp=>by
   rcases OV.mp hp with hp | hp
   ·exact J0.pin p (OU _ hp)
   ·rw [OO.mp hp]
    exact ⟨eC,Y.free,cC,I3.nofs (OH _),dC⟩
  exact hRR _ _ s' H mC oC J1 nC ⟨lC,cC,kC,pC⟩ Y.free a.2
theorem cP (ck:CmpOk XN sc scope N js) (hi:PI X tg iter wi) (hg:∀ z,PG (cxC X N scope z) tg g) (hs:Ad js g) (ht:∀ z,PIf (cxC X N scope z) ifs tt) (he:∀ z,PE (cxC X N scope z) elt te)
  (hXN:X.N = XN:=by rfl) (hsc:X.env.scope = sc:=by rfl) (hc:X.calm = true:=by rfl) (hf:∀ x,foldedSetIterable iter X.env x = pure x:=by intro _;rfl) :
  PE X (.ListComp elt [⟨tg,iter,ifs,0⟩] scope pos) (CH js wi g tt te):=by
 intro pins s σ H Q I h
 rw [eval_ListComp]
 have hcl:closureFor scope X.env = pure (ku X.env scope.names []):=rP fun y hy hk=>I.ok.has y.1 (by
  have:=ck.free y hy hk
  rw [<- hsc] at this
  exact this)
 refine wpAny_comprehension_free (use:=none) rfl hf hcl ck.kind ck.loc (thn (hi pins s σ H _ I h) fun v s1 h1=>thn h1 fun itv s2 h2=>?_)
 refine rQ (RR:=fun acc C=>compPost (model X.prog X.w) X.A X.xe none (EP X pins σ Q) acc C) ck hXN hsc hc hg hs ht he h2 ?_
 intro D C s' H' m o J nC hC fC q
 refine ⟨m,nC,fun h' sb=>⟨.ref D,H',?_,rfl,q⟩⟩
 have J0:Inv X pins σ H' s':=J.unpinned
 exact J0.turned (t':=s'.toks) (it:=C) (fun b o hb e=>sb.extBut b o hb e) fC hC.2.1 (.inr hC.1) hC.2.2.1 hC.2.2.2
theorem Cs {i:Nat} {y:Str} {pos' spos:Pos} (ck:CmpOk XN sc scope N js) (hN:X.N.Nodup) (hi0:X.N[i]? = some y) (hx:Loc X.env.scope y) (hi:PI X tg iter wi) (hg:∀ z,PG (cxC X N scope z) tg g) (hs:Ad js g) (ht:∀ z,PIf (cxC X N scope z) ifs tt) (he:∀ z,PE (cxC X N scope z) elt te)
  (hsw:swapsWith (.ListComp elt [⟨tg,iter,ifs,0⟩] scope pos) (some (.Name y pos')) spos.line X.env = pure true:=by rfl)
  (hXN:X.N = XN:=by rfl) (hsc:X.env.scope = sc:=by rfl) (hc:X.calm = true:=by rfl) (hf:∀ x,foldedSetIterable iter X.env x = pure x:=by intro _;rfl)
  (hfn:X.fn y = true \/ X.env.scope.names.lookup y = some .local:=by first | exact .inl rfl | exact .inr rfl | assumption) :
  PS X (.Assign [.Name y pos'] (.ListComp elt [⟨tg,iter,ifs,0⟩] scope pos) spos) (Bz (CH js wi g tt te) (lW i)):=by
 intro pins s σ H D I h
 rw [exec_Assign_Name_used _ _ _ _ hsw]
 have hcl:closureFor scope X.env = pure (ku X.env scope.names []):=rP fun y hy hk=>I.ok.has y.1 (by
  have:=ck.free y hy hk
  rw [<- hsc] at this
  exact this)
 refine OA (wpAny_standAt (OA ?_))
 show wpAny (model X.prog X.w) X.A (comprehension (.ListComp elt [⟨tg,iter,ifs,0⟩] scope pos) scope X.env _ (newList []) false (eval iter X.env) (some (assign (.Name y pos') X.env)) >>= fun _=>pure ()) _ _ s
 refine OA (thn (wpAny_comprehension_free (use:=some (assign (.Name y pos') X.env)) (Q:=fun _ s'=>SP X pins D .next s') rfl hf hcl ck.kind ck.loc (thn (hi pins s σ H _ I h) fun v s1 h1=>thn h1 fun itv s2 h2=>?_)) fun _ s' q=>OE (OE q))
 refine rQ (RR:=fun acc C=>compPost (model X.prog X.w) X.A X.xe (some (assign (.Name y pos') X.env)) (fun _ s'=>SP X pins D .next s') acc C) (Q:=fun x H1=>lW i x σ H1 D.nx) ck hXN hsc hc hg hs ht he h2 ?_
 intro A C s' H' m o J nC hC fC q
 refine thn (aw hN hi0 hx hfn _ s' σ H' (.ref A) (.ref A) _ J rfl q) fun _ s3 h3=>?_
 obtain ⟨σ3,H3,J3,q3⟩:=h3
 have pc:=J3.pin (C,o) (OU _ (OU _ OI))
 have oC:s'.heap.get? C = some o:=(J.pin (C,o) (OU _ (OU _ OI))).1
 refine ⟨m,nC.at' fun o' e=>?_,fun h' sb=>⟨σ3,H3,?_,q3⟩⟩
 ·rw [oC] at e
  cases e
  exact pc.1
 ·have J0:Inv X pins σ3 H3 s3:=J3.unpinned
  exact J0.turned (t':=s3.toks) (it:=C) (fun b o hb e=>sb.extBut b o hb e) pc.2.1 hC.2.1 (.inr hC.1) hC.2.2.1 hC.2.2.2
end
end L2
namespace Srt
open PySem PySem.W PyProof.Rows
section
variable {α β:Type} (lt:Nat -> Nat -> Bool) (n:Nat)
end
section
variable {lt:Nat -> Nat -> Bool} {le:Nat -> Nat -> Prop} {n:Nat} {p:Array Nat}
noncomputable abbrev at' (p:Array Nat) (i:Nat):Nat:=p.getD i 0
theorem xT {p q:Array Nat} {i j:Nat} (h:p[i]? = q[j]?):at' p i = at' q j:=by
 have e:∀ (r:Array Nat) (k:Nat),at' r k = (r[k]?).getD 0:=fun r k=>by simp [at']
 rw [e,e,h]
def Asc (le:Nat -> Nat -> Prop) (p:Array Nat) (m:Nat):Prop:=∀ i j,i <= j -> j < m -> le (at' p i) (at' p j)
def Bel (n:Nat) (p:Array Nat):Prop:=∀ k,at' p k < n
structure Ord (lt:Nat -> Nat -> Bool) (le:Nat -> Nat -> Prop):Prop where
 tr:∀ a b c,le a b -> le b c -> le a c
 rf:∀ a,le a a
 yes:∀ a b,lt a b = true -> le a b
 no:∀ a b,lt a b = false -> le b a
theorem Jy (hn:0 < n) (hp:p.Perm (List.range n).toArray):Bel n p:=fun k=>by
 have e:at' p k = (p[k]?).getD 0:=by simp [at']
 rw [e]
 cases h:p[k]? with
 | none=>exact hn
 | some v=>
  have hm:v ∈ p:=Array.mem_of_getElem? h
  have:=(QS.mp hp).mem_iff.mp (Array.mem_toList_iff.mpr hm)
  simpa using this
theorem bU {i j:Nat} (hj:j <= p.size) (k:Nat):at' (kas_rev p i j) k = if i <= k /\ k < j then at' p (i + j - 1 - k) else at' p k:=by
 have e:=getElem?_mirror_all (i:=i) hj k
 by_cases h:i <= k /\ k < j
 ·rw [OC h] at e ⊢;exact xT e
 ·rw [OB h] at e ⊢;exact xT e
variable {z:Nat}
theorem oy {src d:Nat} (hs:src < p.size) (hd:d <= src) (k:Nat):at' (bubble p src d) k = if k = src - d then at' p src else if src - d < k /\ k <= src then at' p (k - 1) else at' p k:=by
 have e:=getElem?_bubble hs d hd k
 by_cases h1:k = src - d
 ·rw [OC h1] at e ⊢;exact xT e
 ·rw [OB h1] at e ⊢
  by_cases h2:src - d < k /\ k <= src
  ·rw [OC h2] at e ⊢;exact xT e
  ·rw [OB h2] at e ⊢;exact xT e
end
theorem xj {α:Type} {le:Nat -> Nat -> Prop} {p:Array Nat} {vs:List α} {d:α} (hp:p.Perm (List.range vs.length).toArray) (ha:Asc le p vs.length) :
  (p.toList.map fun i=>vs.getD i d).Perm vs /\ ∀ R:α -> α -> Prop,(∀ i j,i < vs.length -> j < vs.length -> le i j -> R (vs.getD i d) (vs.getD j d)) -> (p.toList.map fun i=>vs.getD i d).Pairwise R:=by
 have hl:p.toList.Perm (List.range vs.length):=by simpa using QS.mp hp
 constructor
 ·have h1:(p.toList.map fun i=>vs.getD i d).Perm ((List.range vs.length).map fun i=>vs.getD i d):=hl.map _
  have h2:((List.range vs.length).map fun i=>vs.getD i d) = vs:=by
   apply List.ext_getElem
   ·simp
   ·intro i h1 h2;simp at h1;simp [h1]
  rw [h2] at h1
  exact h1
 ·intro R hR
  rw [Ql,RL]
  intro i j hi hj hij
  have hs:p.toList.length = vs.length:=by rw [hl.length_eq];simp
  have m:∀ k (hk:k < p.toList.length),p.toList[k] < vs.length:=fun k hk=>by simpa using hl.mem_iff.mp (List.getElem_mem hk)
  have a:∀ k (hk:k < p.toList.length),at' p k = p.toList[k]:=fun k hk=>by
   have:k < p.size:=by simpa using hk
   simp [at',Array.getD,this]
  refine hR _ _ (m i hi) (m j hj) ?_
  rw [<- a i hi,<- a j hj]
  exact ha i j (Pk hij) (by lia)
noncomputable def Hm:Bool -> Keyed -> Array Keyed -> Nat -> Nat -> Nat -> StateT SortSt Sem (Option Nat):=sortPriv% PySem.Builtin.gallop
noncomputable def Fg:Array Keyed -> Array Keyed -> StateT SortSt Sem (Array Keyed):=sortPriv% PySem.Builtin.mergeLo
noncomputable def Ff:Array Keyed -> Array Keyed -> StateT SortSt Sem (Array Keyed):=sortPriv% PySem.Builtin.mergeHi
section
variable {prog:Program} {w:World} {A:Around} {E:Value -> Shared -> Prop} {s:Shared} {κ:SortKind} {it:Array Keyed} {n:Nat} {lt:Nat -> Nat -> Bool} {le:Nat -> Nat -> Prop}
def t3 (prog:Program) (w:World) (A:Around) (s:Shared) (κ:SortKind) (it:Array Keyed) (n:Nat) (lt:Nat -> Nat -> Bool):Prop:=
 ∀ i j (C:Bool -> Shared -> Prop),i < n -> j < n -> C (lt i j) s -> kas_cmp prog w A κ it i j C s
theorem w_lt (hc:t3 prog w A s κ it n lt) {i j:Nat} {Q:Option Bool -> SortSt -> Prop} {st:SortSt} (hk:kindOf st = κ) (hi:i < n) (hj:j < n) (h:Q (some (lt i j)) st):wpS (model prog w) A E s (lt' (kas_item it i) (kas_item it j)) Q st:=by
 rw [lt'_eq]
 refine OD (PB ?_)
 rw [hk]
 refine OD (Qm (Ri (PZ (hc i j (fun c s'=>s' = s /\ c = lt i j) hi hj ⟨rfl,rfl⟩) (fun c s' h'=>?_) fun _ _ hF=>hF.elim)))
 obtain ⟨rfl,rfl⟩:=h'
 exact ⟨rfl,OG h⟩
theorem bQ {X:Array Nat} {k:Nat} {Q:Keyed -> SortSt -> Prop} {st:SortSt} (hk:k < X.size) (h:Q (kas_item it (at' X k)) st):wpS (model prog w) A E s (elem' (X.map (kas_item it)) k) Q st:=by
 rw [elem'_eq]
 have e:at' X k = X[k]:=by simp [at',hk]
 rw [e] at h
 have e2:(X.map (kas_item it))[k]? = some (kas_item it X[k]):=by simp [hk]
 rw [e2]
 exact OG h
theorem i0 (o:Ord lt le) (hc:t3 prog w A s κ it n lt) {left:Bool} {key:Nat} {X:Array Nat} {base m hint:Nat} {Q:Option Nat -> SortSt -> Prop} {st:SortSt} (hk:kindOf st = κ) (hb:∀ i,i < X.size -> at' X i < n) (hkey:key < n)
  (hz:base + m <= X.size) (hh:hint < m) (hs:∀ i j,i <= j -> j < m -> le (at' X (base + i)) (at' X (base + j)))
  (h:∀ k,k <= m -> (∀ i,i < k -> le (at' X (base + i)) key) -> (∀ i,k <= i -> i < m -> le key (at' X (base + i))) -> Q (some k) st) :
  wpS (model prog w) A E s (Hm left (kas_item it key) (X.map (kas_item it)) base m hint) Q st:=by
 have bey:∀ i,i < m -> ∀ (R:Option Bool -> SortSt -> Prop),(∀ c,(c = true -> le (at' X (base + i)) key) -> (c = false -> le key (at' X (base + i))) -> R (some c) st) -> wpS (model prog w) A E s (do
   let x ← elem' (X.map (kas_item it)) (base + i)
   if left = true then lt' x (kas_item it key) else do
    let r ← lt' (kas_item it key) x
    pure (Option.map (fun x=>!x) r)) R st:=fun i hi R hR=>by
  refine OD (bQ (by lia) ?_)
  have hx:=hb (base + i) (by lia)
  cases left with
  | true=>
   rw [OC rfl]
   exact w_lt hc hk hx hkey (hR _ (o.yes _ _) (o.no _ _))
  | false=>
   rw [OB (by decide)]
   refine OD (w_lt hc hk hkey hx (OG ?_))
   refine hR _ (fun e=>o.no _ _ (by simpa using e)) (fun e=>o.yes _ _ (by simpa using e))
 have lo':∀ k,k < m -> le (at' X (base + k)) key -> ∀ i,i <= k -> le (at' X (base + i)) key:=fun k hk hl i hi=>o.tr _ _ _ (hs i k hi hk) hl
 have hi':∀ k,k < m -> le key (at' X (base + k)) -> ∀ i,k <= i -> i < m -> le key (at' X (base + i)):=fun k hk hl i hi him=>o.tr _ _ _ hl (hs k i hi him)
 refine OD (bey hint hh _ fun c c1 c2=>?_)
 dsimp only
 cases c with
 | true=>
  rw [OC rfl]
  refine OD (Pm (Pn (I:=fun x c st'=>st' = st /\ ∃ l f,c = (none,l,f) /\ x + 1 <= f /\ hint + l < m /\ le (at' X (base + (hint + l))) key)
   (Q:=fun c st'=>st' = st /\ ∃ l f,c = (none,l,f) /\ hint + l < m /\ le (at' X (base + (hint + l))) key /\ (f < m - hint -> le key (at' X (base + (hint + f))))) ?s1 ?f1 ?i1) ?p1)
  case i1=>exact ⟨rfl,0,1,rfl,by lia,by lia,c1 rfl⟩
  case f1=>
   rintro c st' ⟨rfl,l,f,rfl,h1,h2,h3⟩
   exact ⟨rfl,l,f,rfl,h2,h3,fun _=>by lia⟩
  case s1=>
   rintro x c st' _ hx ⟨rfl,l,f,rfl,h1,h2,h3⟩
   dsimp only
   by_cases hge:f ≥ m - hint
   ·rw [OC hge]
    exact OG ⟨rfl,l,f,rfl,h2,h3,fun _=>by lia⟩
   ·rw [OB hge]
    refine OD (bey (hint + f) (by lia) _ fun c d1 d2=>?_)
    dsimp only
    cases c with
    | true=>exact OG ⟨rfl,f,2 * f + 1,rfl,by lia,by lia,d1 rfl⟩
    | false=>exact OG ⟨rfl,l,f,rfl,h2,h3,fun _=>d2 rfl⟩
  case p1=>
   rintro c st' ⟨rfl,l,f,rfl,h2,h3,h4⟩
   dsimp only
   have g1:∀ i,i < hint + l + 1 -> i < m -> le (at' X (base + i)) key:=fun i hi _=>lo' _ h2 h3 i (by lia)
   have g2:∀ i,hint + min f (m - hint) <= i -> i < m -> le key (at' X (base + i)):=fun i hi him=>hi' (hint + f) (by lia) (h4 (by lia)) i (by lia) him
   have g3:hint + min f (m - hint) <= m:=by lia
   generalize hint + l + 1 = L at g1 ⊢
   generalize hint + min f (m - hint) = H at g2 g3 ⊢
   refine OD (Pm (Pn (I:=fun x c st2=>st2 = st' /\ ∃ l h,c = (none,l,h) /\ h <= m /\ h - l <= m - x /\ (∀ i,i < l -> i < m -> le (at' X (base + i)) key) /\ (∀ i,h <= i -> i < m -> le key (at' X (base + i))))
    (Q:=fun c st2=>st2 = st' /\ ∃ l h,c = (none,l,h) /\ h <= m /\ h <= l /\ (∀ i,i < l -> i < m -> le (at' X (base + i)) key) /\ (∀ i,h <= i -> i < m -> le key (at' X (base + i)))) ?s2 ?f2 ?i2) ?p2)
   case i2=>exact ⟨rfl,L,H,rfl,g3,by lia,g1,g2⟩
   case f2=>
    rintro c st2 ⟨rfl,l,h,rfl,k1,k2,k3,k4⟩
    exact ⟨rfl,l,h,rfl,k1,by lia,k3,k4⟩
   case s2=>
    rintro x c st2 _ hx ⟨rfl,l,h,rfl,k1,k2,k3,k4⟩
    dsimp only
    by_cases hge:l ≥ h
    ·rw [OC hge]
     exact OG ⟨rfl,l,h,rfl,k1,hge,k3,k4⟩
    ·rw [OB hge]
     refine OD (bey (l + (h - l) / 2) (by lia) _ fun c d1 d2=>?_)
     dsimp only
     cases c with
     | true=>exact OG ⟨rfl,_,_,rfl,k1,by lia,fun i hi him=>lo' _ (by lia) (d1 rfl) i (by lia),k4⟩
     | false=>exact OG ⟨rfl,_,_,rfl,by lia,by lia,k3,fun i hi him=>hi' _ (by lia) (d2 rfl) i hi him⟩
   case p2=>
    rintro c st2 ⟨rfl,l,h',rfl,k1,k2,k3,k4⟩
    exact OG (h h' k1 (fun i hi=>k3 i (by lia) (by lia)) k4)
 | false=>
  rw [OB (by decide)]
  refine OD (Pm (Pn (I:=fun x c st'=>st' = st /\ ∃ l f,c = (none,l,f) /\ x + 1 <= f /\ l <= hint /\ le key (at' X (base + (hint - l))))
   (Q:=fun c st'=>st' = st /\ ∃ l f,c = (none,l,f) /\ l <= hint /\ le key (at' X (base + (hint - l))) /\ (f < hint + 1 -> le (at' X (base + (hint - f))) key)) ?s1 ?f1 ?i1) ?p1)
  case i1=>exact ⟨rfl,0,1,rfl,by lia,by lia,c2 rfl⟩
  case f1=>
   rintro c st' ⟨rfl,l,f,rfl,h1,h2,h3⟩
   exact ⟨rfl,l,f,rfl,h2,h3,fun _=>by lia⟩
  case s1=>
   rintro x c st' _ hx ⟨rfl,l,f,rfl,h1,h2,h3⟩
   dsimp only
   by_cases hge:f ≥ hint + 1
   ·rw [OC hge]
    exact OG ⟨rfl,l,f,rfl,h2,h3,fun _=>by lia⟩
   ·rw [OB hge]
    refine OD (bey (hint - f) (by lia) _ fun c d1 d2=>?_)
    dsimp only
    cases c with
    | true=>exact OG ⟨rfl,l,f,rfl,h2,h3,fun _=>d1 rfl⟩
    | false=>exact OG ⟨rfl,f,2 * f + 1,rfl,by lia,by lia,d2 rfl⟩
  case p1=>
   rintro c st' ⟨rfl,l,f,rfl,h2,h3,h4⟩
   dsimp only
   have g1:∀ i,i < hint + 1 - min f (hint + 1) -> i < m -> le (at' X (base + i)) key:=fun i hi _=>lo' (hint - f) (by lia) (h4 (by lia)) i (by lia)
   have g2:∀ i,hint - l <= i -> i < m -> le key (at' X (base + i)):=fun i hi him=>hi' (hint - l) (by lia) h3 i (by lia) him
   have g3:hint - l <= m:=by lia
   generalize hint + 1 - min f (hint + 1) = L at g1 ⊢
   generalize hint - l = H at g2 g3 ⊢
   refine OD (Pm (Pn (I:=fun x c st2=>st2 = st' /\ ∃ l h,c = (none,l,h) /\ h <= m /\ h - l <= m - x /\ (∀ i,i < l -> i < m -> le (at' X (base + i)) key) /\ (∀ i,h <= i -> i < m -> le key (at' X (base + i))))
    (Q:=fun c st2=>st2 = st' /\ ∃ l h,c = (none,l,h) /\ h <= m /\ h <= l /\ (∀ i,i < l -> i < m -> le (at' X (base + i)) key) /\ (∀ i,h <= i -> i < m -> le key (at' X (base + i)))) ?s2 ?f2 ?i2) ?p2)
   case i2=>exact ⟨rfl,L,H,rfl,g3,by lia,g1,g2⟩
   case f2=>
    rintro c st2 ⟨rfl,l,h,rfl,k1,k2,k3,k4⟩
    exact ⟨rfl,l,h,rfl,k1,by lia,k3,k4⟩
   case s2=>
    rintro x c st2 _ hx ⟨rfl,l,h,rfl,k1,k2,k3,k4⟩
    dsimp only
    by_cases hge:l ≥ h
    ·rw [OC hge]
     exact OG ⟨rfl,l,h,rfl,k1,hge,k3,k4⟩
    ·rw [OB hge]
     refine OD (bey (l + (h - l) / 2) (by lia) _ fun c d1 d2=>?_)
     dsimp only
     cases c with
     | true=>exact OG ⟨rfl,_,_,rfl,k1,by lia,fun i hi him=>lo' _ (by lia) (d1 rfl) i (by lia),k4⟩
     | false=>exact OG ⟨rfl,_,_,rfl,by lia,by lia,k3,fun i hi him=>hi' _ (by lia) (d2 rfl) i hi him⟩
   case p2=>
    rintro c st2 ⟨rfl,l,h',rfl,k1,k2,k3,k4⟩
    exact OG (h h' k1 (fun i hi=>k3 i (by lia) (by lia)) k4)
end
end Srt
namespace Srt
section
variable {le:Nat -> Nat -> Prop} {tot out ra rb xs:List Nat}
def Inv (le:Nat -> Nat -> Prop) (tot out ra rb:List Nat):Prop:=(out ++ ra).Pairwise le /\ (out ++ rb).Pairwise le /\ (out ++ (ra ++ rb)).Perm tot
theorem Inv.symm (h:Inv le tot out ra rb):Inv le tot out rb ra:=⟨h.2.1,h.1,(Se _ List.perm_append_comm).trans h.2.2⟩
theorem Inv.block (h:Inv le tot out (xs ++ ra) rb) (k:∀ x ∈ xs,∀ y ∈ rb,le x y):Inv le tot (out ++ xs) ra rb:=by
 obtain ⟨h1,h2,h3⟩:=h
 refine ⟨by rw [Pb];exact h1,?_,by rw [Pb,<- Pb xs];exact h3⟩
 rw [Pe] at h1 h2
 rw [Pb,Pe]
 obtain ⟨a1,a2,a3⟩:=h1
 obtain ⟨b1,b2,b3⟩:=h2
 rw [Pe] at a2
 refine ⟨a1,Pe.mpr ⟨a2.1,b2,k⟩,fun x hx y hy=>?_⟩
 rcases OV.mp hy with hy | hy
 ·exact a3 x hx y (OY _ hy)
 ·exact b3 x hx y hy
theorem Inv.doneA (h:Inv le tot out ra []):(out ++ ra).Pairwise le /\ (out ++ ra).Perm tot:=⟨h.1,by have:=h.2.2;rwa [Pd] at this⟩
theorem Inv.lastA {x:Nat} (h:Inv le tot out [x] rb) (k:∀ y ∈ rb,le y x):(out ++ (rb ++ [x])).Pairwise le /\ (out ++ (rb ++ [x])).Perm tot:=by
 refine ⟨?_,(Se _ List.perm_append_comm).trans h.2.2⟩
 obtain ⟨h1,h2,_⟩:=h
 rw [Pe] at h1 h2
 rw [Pe]
 refine ⟨h1.1,Pe.mpr ⟨h2.2.1,QT _ _,fun y hy z hz=>?_⟩,fun a ha b hb=>?_⟩
 ·rw [OO] at hz;subst hz;exact k y hy
 ·rcases OV.mp hb with hb | hb
  ·exact h2.2.2 a ha b hb
  ·exact h1.2.2 a ha b hb
end
section
variable {X Y O:Array Nat} {le:Nat -> Nat -> Prop} {tot:List Nat}
theorem Jv {i:Nat} (h:i < X.size):at' X i = X[i]:=by simp [at',h]
theorem ji {i:Nat} (h:i < X.size):X.toList[i]'(by simpa using h) = at' X i:=by rw [Jv h];simp
theorem wI {i:Nat} (h:i < X.size):X.toList.drop i = at' X i :: X.toList.drop (i + 1):=by
 rw [Rj (by simpa using h),ji h]
theorem nv {i j:Nat} (h:i <= j):X.toList.drop i = (X.extract i j).toList ++ X.toList.drop j:=by
 rw [Rk,Rm]
 have e:X.toList.drop j = (X.toList.drop i).drop (j - i):=by rw [List.drop_drop];congr 1;lia
 rw [e,RM]
theorem sJ {i x:Nat} (h:x ∈ X.toList.drop i):∃ j,i <= j /\ j < X.size /\ at' X j = x:=by
 obtain ⟨k,hk⟩:=Sf h
 rw [Ro] at hk
 obtain ⟨h1,h2⟩:=Pg.mp hk
 have h1':i + k < X.size:=by simpa using h1
 exact ⟨i + k,by lia,h1',by rw [<- ji h1'];exact h2⟩
theorem qV {i j x:Nat} (h:x ∈ (X.extract i j).toList):∃ k,i <= k /\ k < j /\ k < X.size /\ at' X k = x:=by
 obtain ⟨k,hk⟩:=Sf h
 rw [Rk,Rm,RN] at hk
 split at hk
 ·rw [Ro] at hk
  obtain ⟨h1,h2⟩:=Pg.mp hk
  have h1':i + k < X.size:=by simpa using h1
  exact ⟨i + k,by lia,by lia,h1',by rw [<- ji h1'];exact h2⟩
 ·cases hk
abbrev J (le:Nat -> Nat -> Prop) (tot:List Nat) (X Y O:Array Nat) (ia ib:Nat):Prop:=Inv le tot O.toList (X.toList.drop ia) (Y.toList.drop ib)
variable {ia ib:Nat}
theorem J.one (j:J le tot X Y O ia ib) (h:ia < X.size) (k:∀ i,ib <= i -> i < Y.size -> le (at' X ia) (at' Y i)):J le tot X Y (O.push (at' X ia)) (ia + 1) ib:=by
 unfold J at j ⊢
 rw [wI h] at j
 have:=Inv.block (xs:=[at' X ia]) j (fun x hx y hy=>by
  rw [OO] at hx
  subst hx
  obtain ⟨i,h1,h2,rfl⟩:=sJ hy
  exact k i h1 h2)
 rwa [Qn]
theorem J.blk {m:Nat} (j:J le tot X Y O ia ib) (k:∀ i l,ia <= i -> i < ia + m -> i < X.size -> ib <= l -> l < Y.size -> le (at' X i) (at' Y l)):J le tot X Y (O ++ X.extract ia (ia + m)) (ia + m) ib:=by
 unfold J at j ⊢
 rw [nv (j:=ia + m) (by lia)] at j
 have:=Inv.block j (fun x hx y hy=>by
  obtain ⟨i,h1,h2,h3,rfl⟩:=qV hx
  obtain ⟨l,h4,h5,rfl⟩:=sJ hy
  exact k i l h1 h2 h3 h4 h5)
 rwa [Qc]
theorem J.sy (j:J le tot X Y O ia ib):J le tot Y X O ib ia:=Inv.symm j
abbrev kg (le:Nat -> Nat -> Prop) (tot:List Nat) (R:Array Nat):Prop:=R.toList.Pairwise le /\ R.toList.Perm tot
theorem J.done1 (j:J le tot X Y O ia ib) (h:Y.size <= ib) (h2:ia <= X.size):kg le tot (O ++ X.extract ia X.size ++ Y.extract ib Y.size):=by
 unfold J at j
 rw [QC (l:=Y.toList) (by simpa using h)] at j
 have e:(Y.extract ib Y.size) = #[]:=by simp;lia
 have e2:X.toList.drop ia = (X.extract ia X.size).toList:=by rw [nv h2];simp
 rw [e,Array.append_empty]
 unfold kg
 rw [Qc,<- e2]
 exact j.doneA
theorem J.done2 (j:J le tot X Y O ia ib) (h:X.size <= ia) (h2:ib <= Y.size):kg le tot (O ++ X.extract ia X.size ++ Y.extract ib Y.size):=by
 have e:(X.extract ia X.size) = #[]:=by simp;lia
 have:=j.sy.done1 h h2
 rw [e,Array.append_empty] at this ⊢
 exact this
theorem J.last (j:J le tot X Y O ia ib) (h:ia + 1 = X.size) (h2:ib <= Y.size) (k:∀ i,i < Y.size -> le (at' Y i) (at' X ia)):kg le tot (O ++ Y.extract ib Y.size ++ X.extract ia X.size):=by
 unfold J at j
 rw [wI (by lia),QC (l:=X.toList) (i:=ia + 1) (by simp;lia)] at j
 have:=j.lastA fun y hy=>by
  obtain ⟨i,h1,h2,rfl⟩:=sJ hy
  exact k i h2
 have e:(X.extract ia X.size).toList = [at' X ia]:=by
  have e2:X.toList.drop ia = (X.extract ia X.size).toList:=by rw [nv (j:=X.size) (by lia)];simp
  rw [<- e2,wI (by lia),QC (l:=X.toList) (i:=ia + 1) (by simp;lia)]
 have e3:Y.toList.drop ib = (Y.extract ib Y.size).toList:=by rw [nv h2];simp
 unfold kg
 rw [Qc,Qc,e,<- e3,Pb]
 exact this
end
end Srt
namespace Srt
open PySem PySem.W PyProof.Rows
section
variable {prog:Program} {w:World} {A:Around} {E:Value -> Shared -> Prop} {s:Shared} {κ:SortKind} {it:Array Keyed} {n:Nat} {lt:Nat -> Nat -> Bool} {le:Nat -> Nat -> Prop}
def Same (κ:SortKind) (st st':SortSt):Prop:=kindOf st' = κ /\ arrOf st' = arrOf st /\ pendingOf st' = pendingOf st /\ failedOf st' = failedOf st
theorem Same.g {st st2:SortSt} (h:Same κ st st2) (g:Nat):Same κ st (SortSt.mk' (kindOf st2) (arrOf st2) (pendingOf st2) g (failedOf st2)):=h
theorem jN {σ α:Type} {M:Model} {c:Prop} [Decidable c] {a b:StateT σ Sem α} {Q:α -> σ -> Prop} {st:σ} (h1:wpS M A E s a Q st) (h2:wpS M A E s b Q st):wpS M A E s (if c then a else b) Q st:=by
 by_cases h:c
 ·rw [OC h];exact h1
 ·rw [OB h];exact h2
theorem exm (f:Nat -> Keyed) (Z:Array Nat):(Z.map f).extract 0 Z.size = Z.map f:=by
 have:Z.size = (Z.map f).size:=by simp
 rw [this];simp
theorem Cv {X:Array Nat} (h:∀ i j,i <= j -> j < X.size -> le (at' X i) (at' X j)):X.toList.Pairwise le:=by
 rw [RL]
 intro i j hi hj hij
 have h2:j < X.size:=by simpa using hj
 rw [ji (by lia),ji h2]
 exact h i j (by lia) h2
theorem bT {σ α:Type} {M:Model} {c:Prop} [Decidable c] {a b:StateT σ Sem α} {Q:α -> σ -> Prop} {st:σ} (h1:c -> wpS M A E s a Q st) (h2:¬c -> wpS M A E s b Q st):wpS M A E s (if c then a else b) Q st:=by
 by_cases h:c
 ·rw [OC h];exact h1 h
 ·rw [OB h];exact h2 h
theorem CO {σ α β:Type} {M:Model} {c:Prop} [Decidable c] {f:β -> StateT σ Sem α} {a b:β} {Q:α -> σ -> Prop} {st:σ} (h:∀ x,wpS M A E s (f x) Q st):wpS M A E s (if c then f a else f b) Q st:=jN (h a) (h b)
theorem xG {σ α β γ:Type} {M:Model} {jp:Unit -> β -> γ -> StateT σ Sem α} {m:StateT σ Sem α} {Q:α -> σ -> Prop} {st:σ} (P:β -> γ -> Prop) (h:∀ b c,P b c -> wpS M A E s (jp () b c) Q st) (k:(∀ b c,P b c -> wpS M A E s (jp () b c) Q st) -> wpS M A E s m Q st):wpS M A E s m Q st:=k h
theorem lF {σ β:Type} {M:Model} {b:Nat} {f:Nat -> β -> StateT σ Sem (ForInStep β)} (I:Nat -> β -> σ -> Prop) (Q:β -> σ -> Prop)
  {P:β -> σ -> Prop} {c:β} {st:σ} (h:I 0 c st)
  (hs:∀ i c st (R:ForInStep β -> σ -> Prop),(∀ c st,Q c st -> R (.done c) st) -> (∀ c st,I (i + 1) c st -> R (.yield c) st) -> i < b -> I i c st -> wpS M A E s (f i c) R st)
  (he:∀ c st,I b c st -> Q c st) (hp:∀ c st,Q c st -> P c st):wpS M A E s (forIn [0:b] c f) P st:=
 Pm (Pn I (fun i c st _ hb hi=>hs i c st _ (fun _ _ h=>h) (fun _ _ h=>h) hb hi) (fun c st h=>he c st (by rwa [Nat.zero_max] at h)) h) hp
theorem rel {p:Nat -> Prop} {u a b:Nat} (h:∀ i,a <= i -> i < b -> p (u + i)) (i:Nat) (h1:u + a <= i) (h2:i < u + b):p i:=by
 have:=h (i - u) (by lia) (by lia)
 rwa [show u + (i - u) = i by lia] at this
def LR (κ:SortKind) (it:Array Keyed) (st:SortSt) (le:Nat -> Nat -> Prop) (X Y:Array Nat) (r:Option (Array Keyed)) (st2:SortSt):Prop:=∃ R,r = some (R.map (kas_item it)) /\ kg le (X.toList ++ Y.toList) R /\ Same κ st st2
def LI (κ:SortKind) (st:SortSt) (le:Nat -> Nat -> Prop) (X Y:Array Nat) (v:Nat) (st2:SortSt) (O:Array Nat) (ia ib:Nat):Prop:=Same κ st st2 /\ ia + 1 < X.size /\ ib < Y.size /\ v <= ia + ib /\ J le (X.toList ++ Y.toList) X Y O ia ib
theorem Ed (o:Ord lt le) (hc:t3 prog w A s κ it n lt) {X Y:Array Nat} {Q:Array Keyed -> SortSt -> Prop} {st:SortSt} (hk:kindOf st = κ) (hx:∀ i,i < X.size -> at' X i < n) (hy:∀ i,i < Y.size -> at' Y i < n)
  (x1:1 <= X.size) (y1:1 <= Y.size) (sx:∀ i j,i <= j -> j < X.size -> le (at' X i) (at' X j)) (sy:∀ i j,i <= j -> j < Y.size -> le (at' Y i) (at' Y j)) (hf:∀ i,i < X.size -> le (at' Y 0) (at' X i)) (hl:∀ i,i < Y.size -> le (at' Y i) (at' X (X.size - 1)))
  (h:∀ R st',Same κ st st' -> kg le (X.toList ++ Y.toList) R -> Q (R.map (kas_item it)) st') :
  wpS (model prog w) A E s (Fg (X.map (kas_item it)) (Y.map (kas_item it))) Q st:=by
 have sm0:Same κ st st:=⟨hk,rfl,rfl,rfl⟩
 have hl':∀ ia,ia + 1 = X.size -> ∀ i,i < Y.size -> le (at' Y i) (at' X ia):=fun ia e i hi=>by have:=hl i hi;rwa [<- e] at this
 have fin:∀ {O:Array Keyed} {R},O = R.map (kas_item it) -> ∀ {st'},Same κ st st' -> kg le (X.toList ++ Y.toList) R -> Q O st':=fun e _ sm g=>e ▸ h _ _ sm g
 have j0:J le (X.toList ++ Y.toList) X Y #[] 0 0:=⟨by simpa using Cv sx,by simpa using Cv sy,by simp⟩
 have j1:J le (X.toList ++ Y.toList) X Y #[at' Y 0] 0 1:=(j0.sy.one (by lia) fun i _ h2=>hf i h2).sy
 refine OD (Qm (PL ⟨rfl,?_⟩))
 refine OD (bQ (by lia) ?_)
 dsimp -zeta only
 simp -zeta only [Rp,Qk]
 refine bT (fun e=>OG (fin ?_ sm0 (j1.done1 (by lia) (by lia)))) fun e1=>bT (fun e=>OG (fin ?_ sm0 (j1.last (by lia) (by lia) (hl' 0 (by lia))))) fun e2=>?_
 ·simp [exm]
 ·simp [exm]
 refine OD (PB (OD (lF (fun x c st2=>∃ O ia ib g,c = (none,O.map (kas_item it),ia,ib,g) /\ LI κ st le X Y (x + 1) st2 O ia ib) (fun c st2=>LR κ it st le X Y c.1 st2) ⟨#[at' Y 0],0,1,_,by simp;rfl,sm0,by lia,by lia,by lia,j1⟩ ?s1 ?f1 ?p1)))
 case f1=>
  rintro c st2 ⟨O,ia,ib,g,rfl,sm,la,lb,ls,j⟩
  lia
 case p1=>
  rintro ⟨c,c'⟩ st2 ⟨R,rfl,hR,sm⟩
  exact OG (h R st2 sm hR)
 rintro x c st2 QQ hD hY hx0 ⟨O,ia,ib,g,rfl,L⟩
 refine OD (lF (fun y c st2=>∃ O ia ib a b,c = (none,O.map (kas_item it),ia,ib,a,b) /\ LI κ st le X Y (x + 1 + y) st2 O ia ib) (fun c st2=>LR κ it st le X Y c.1 st2 \/ ∃ O ia ib a b,c = (none,O.map (kas_item it),ia,ib,a,b) /\ LI κ st le X Y (x + 2) st2 O ia ib) ⟨O,ia,ib,0,0,rfl,L⟩ ?s2 ?f2 ?p2)
 case f2=>
  rintro c st2 ⟨O,ia,ib,a,b,rfl,sm,la,lb,ls,j⟩
  lia
 case s2=>
  clear hD hY
  rintro y c st2 QQ hD hY hy0 ⟨O,ia,ib,a,b,rfl,sm,la,lb,ls,j⟩
  have la':ia < X.size:=by lia
  refine OD (bQ lb (OD (bQ la' (OD (w_lt hc sm.1 (hy ib lb) (hx ia la') ?_)))))
  dsimp -zeta only
  cases cw:lt (at' Y ib) (at' X ia) with
  | true=>
   have j2:J le (X.toList ++ Y.toList) X Y (O.push (at' Y ib)) ia (ib + 1):=(j.sy.one lb fun i h1 h2=>o.tr _ _ _ (o.yes _ _ cw) (sx _ _ h1 h2)).sy
   rw [OC rfl]
   refine OD (bQ lb (bT (fun e=>OG (hD _ _ (.inl ⟨_,?_,j2.done1 (by lia) (by lia),sm⟩))) fun e=>jN (OG (hD _ _ (.inr ⟨_,ia,ib + 1,_,_,by rw [<- PM],sm,la,by lia,by lia,j2⟩))) (OG (hY _ _ ⟨_,ia,ib + 1,_,_,by rw [<- PM],sm,la,by lia,by lia,j2⟩))))
   simp
  | false=>
   have j2:=j.one la' fun i h1 h2=>o.tr _ _ _ (o.no _ _ cw) (sy _ _ h1 h2)
   rw [OB (by decide)]
   refine OD (bQ la' (bT (fun e=>OG (hD _ _ (.inl ⟨_,?_,j2.last e (by lia) (hl' _ e),sm⟩))) fun e=>jN (OG (hD _ _ (.inr ⟨_,ia + 1,ib,_,_,by rw [<- PM],sm,by lia,lb,by lia,j2⟩))) (OG (hY _ _ ⟨_,ia + 1,ib,_,_,by rw [<- PM],sm,by lia,lb,by lia,j2⟩))))
   simp
 case p2=>
  clear L
  rintro ⟨c,c'⟩ st2 (⟨R,rfl,hR,sm⟩ | ⟨O,ia,ib,a,b,hcc,L⟩)
  ·exact OG (hD _ _ ⟨R,rfl,hR,sm⟩)
  cases hcc
  refine OD (Qm (PL ⟨rfl,OD (lF (fun y c st2=>∃ O ia ib m a b,c = (none,O.map (kas_item it),ia,ib,m,a,b) /\ LI κ st le X Y (x + 2) st2 O ia ib) (fun c st2=>LR κ it st le X Y c.1 st2 \/ ∃ O ia ib m a b,c = (none,O.map (kas_item it),ia,ib,m,a,b) /\ LI κ st le X Y (x + 2) st2 O ia ib) ⟨O,ia,ib,_,_,_,rfl,L⟩ ?s3 (fun _ _ h=>.inr h) ?p3)⟩))
  case p3=>
   rintro ⟨c,c'⟩ st2 (⟨R,rfl,hR,sm⟩ | ⟨O,ia,ib,m,a,b,hcc,sm,L⟩)
   ·exact OG (hD _ _ ⟨R,rfl,hR,sm⟩)
   cases hcc
   exact OD (Pu (OG (hY _ _ ⟨O,ia,ib,_,rfl,sm.g _,L⟩)))
  clear hD hY L
  rintro y c st2 QQ hD hY hy0 ⟨O,ia,ib,m,a,b,rfl,sm,la,lb,ls,j⟩
  have dR:∀ {R' R t st2},R' = R.map (kas_item it) -> Same κ st st2 -> kg le (X.toList ++ Y.toList) R -> QQ (.done (some R',t)) st2:=fun e sm g=>hD _ _ (.inl ⟨_,OZ some e,g,sm⟩)
  dsimp -zeta only
  extract_lets -underBinder s1 out s2 ia2 s3 ib2 s4 mg s5 ac bc jp
  refine CO fun g=>?_
  replace sm:=sm.g g
  refine OD (Pu (OD (bQ lb (OD (i0 o hc sm.1 hx (hy ib lb) (show ia + (X.size - ia) <= X.size by lia) (show 0 < X.size - ia by lia) (fun i k h1 h2=>sx (ia + i) (ia + k) (by lia) (show ia + k < X.size by change k < X.size - ia at h2;lia)) fun k k1 k2 k3=>?_)))))
  replace k2:=rel (p:=fun i=>le (at' X i) (at' Y ib)) (a:=0) fun i _ h=>k2 i h
  replace k3:∀ i,ia + k <= i -> i < X.size -> le (at' Y ib) (at' X i):=fun i h1 h2=>rel (p:=fun i=>le (at' Y ib) (at' X i)) k3 i h1 (show i < ia + (X.size - ia) by lia)
  dsimp -zeta only
  extract_lets -underBinder ac2 jp2
  refine xG (jp:=jp2) (fun O' i=>∃ O,O' = O.map (kas_item it) /\ i + 1 < X.size /\ x + 2 <= i + ib /\ J le (X.toList ++ Y.toList) X Y O i ib /\ ∀ l,i <= l -> l < X.size -> le (at' Y ib) (at' X l)) ?_ fun hj=>?_
  ·rintro O' i ⟨O,rfl,la,ls,j,ky⟩
   have j2:J le (X.toList ++ Y.toList) X Y (O.push (at' Y ib)) i (ib + 1):=(j.sy.one lb ky).sy
   have li:i < X.size:=by lia
   refine OD (bQ lb (bT (fun e=>OG (dR ?_ sm (j2.done1 (Pz e.symm) (by lia)))) fun e=>OD (bQ li (OD (i0 o hc sm.1 hy (hx i li) (show ib + 1 + (Y.size - (ib + 1)) <= Y.size by lia) (show 0 < Y.size - (ib + 1) by change ¬ib + 1 = Y.size at e;lia) (fun i k h1 h2=>sy (ib + 1 + i) (ib + 1 + k) (by lia) (show ib + 1 + k < Y.size by change k < Y.size - (ib + 1) at h2;lia)) fun k k1 k2 k3=>?_)))))
   ·simp +zetaDelta
   replace k2:=rel (p:=fun l=>le (at' Y l) (at' X i)) (u:=ib + 1) (a:=0) fun i _ h=>k2 i h
   replace k3:∀ l,ib + 1 + k <= l -> l < Y.size -> le (at' X i) (at' Y l):=fun l h1 h2=>rel (p:=fun l=>le (at' X i) (at' Y l)) (u:=ib + 1) k3 l h1 (show l < ib + 1 + (Y.size - (ib + 1)) by lia)
   dsimp -zeta only
   extract_lets -underBinder bc2 jp3
   refine xG (jp:=jp3) (fun O' l=>∃ O,O' = O.map (kas_item it) /\ l < Y.size /\ ib < l /\ J le (X.toList ++ Y.toList) X Y O i l /\ ∀ i',l <= i' -> i' < Y.size -> le (at' X i) (at' Y i')) ?_ fun hj=>?_
   ·rintro O' l ⟨O,rfl,lb,lc,j,ky⟩
    have j2:=j.one li ky
    refine OD (bQ li (bT (fun e=>OG (dR ?_ sm (j2.last e (by lia) (hl' _ e)))) fun e=>jN (OG (hD _ _ (.inr ⟨_,i + 1,l,_,_,_,by rw [<- PM],sm,by lia,lb,by lia,j2⟩))) (OG (hY _ _ ⟨_,i + 1,l,_,_,_,by rw [<- PM],sm,by lia,lb,by lia,j2⟩))))
    simp
   have j3:J le (X.toList ++ Y.toList) X Y (O.push (at' Y ib) ++ Y.extract (ib + 1) (ib + 1 + k)) i (ib + 1 + k):=(j2.sy.blk fun i' l h1 h2 h3 h4 h5=>o.tr _ _ _ (k2 i' h1 h2) (sx _ _ h4 h5)).sy
   refine bT (fun k0=>bT (fun e=>OG (dR ?_ sm (j3.done1 (Pz e.symm) (Pk li)))) fun e=>hj _ _ ⟨_,?_,Nat.lt_of_le_of_ne (show ib + 1 + k <= Y.size by change k <= Y.size - (ib + 1) at k1;lia) e,show ib < ib + 1 + k by lia,j3,k3⟩) fun k0=>hj _ _ ⟨O.push (at' Y ib),?_,Nat.lt_of_le_of_ne lb e,QD ib,j2,fun l h1 h2=>k3 l (show ib + 1 + k <= l by change ib + 1 <= l at h1;lia) h2⟩
   ·simp +zetaDelta
   ·simp +zetaDelta
   ·simp +zetaDelta
  have j3:=j.blk (m:=k) fun i l h1 h2 h3 h4 h5=>o.tr _ _ _ (k2 i h1 h2) (sy _ _ h4 h5)
  have kk:ia + k <= X.size:=by change k <= X.size - ia at k1;lia
  refine bT (fun k0=>bT (fun e=>OG (dR ?_ sm (j3.last e (by lia) (hl' _ e)))) fun e=>bT (fun e2=>OG (dR ?_ sm (j3.done2 (Pz e2.symm) (by lia)))) fun e2=>hj _ _ ⟨_,?_,show ia + k + 1 < X.size by change ¬ia + k + 1 = X.size at e;change ¬ia + k = X.size at e2;lia,show x + 2 <= ia + k + ib by lia,j3,k3⟩) fun k0=>hj _ _ ⟨O,rfl,la,ls,j,fun l h1 h2=>k3 l (show ia + k <= l by change ia <= l at h1;lia) h2⟩
  ·simp +zetaDelta
  ·simp +zetaDelta
  ·simp +zetaDelta
end
section
variable {X Y O:Array Nat} {le:Nat -> Nat -> Prop} {tot:List Nat} {na nb:Nat}
theorem CJ {i:Nat} (h:i < X.size):X.toList.take (i + 1) = X.toList.take i ++ [at' X i]:=by
 rw [List.take_succ_eq_append_getElem (by simpa using h),ji h]
theorem kR {i j:Nat} (h:i <= j):X.toList.take j = X.toList.take i ++ (X.extract i j).toList:=by
 rw [Rk,Rm]
 have e:j = i + (j - i):=by lia
 conv=>lhs;rw [e,List.take_add]
theorem sL {i x:Nat} (h:x ∈ X.toList.take i):∃ j,j < i /\ j < X.size /\ at' X j = x:=by
 obtain ⟨k,hk⟩:=Sf h
 rw [RN] at hk
 split at hk
 ·obtain ⟨h1,h2⟩:=Pg.mp hk
  have h1':k < X.size:=by simpa using h1
  exact ⟨k,by lia,h1',by rw [<- ji h1'];exact h2⟩
 ·cases hk
abbrev JH (le:Nat -> Nat -> Prop) (tot:List Nat) (X Y O:Array Nat) (na nb:Nat):Prop:=Inv (fun a b=>le b a) tot O.toList (X.toList.take na).reverse (Y.toList.take nb).reverse
theorem JH.sy (j:JH le tot X Y O na nb):JH le tot Y X O nb na:=Inv.symm j
theorem JH.one (j:JH le tot X Y O na nb) (h:1 <= na) (h2:na <= X.size) (k:∀ i,i < nb -> le (at' Y i) (at' X (na - 1))):JH le tot X Y (O.push (at' X (na - 1))) (na - 1) nb:=by
 unfold JH at j ⊢
 obtain ⟨m,rfl⟩:∃ m,na = m + 1:=⟨na - 1,by lia⟩
 rw [CJ (by lia),List.reverse_append] at j
 rw [Nat.add_sub_cancel] at k ⊢
 have:=Inv.block (xs:=[at' X m]) j (fun x hx y hy=>by
  rw [OO] at hx
  subst hx
  obtain ⟨i,h1,h2,rfl⟩:=sL (RP.mp hy)
  exact k i h1)
 rwa [Qn]
theorem JH.blk {m:Nat} (j:JH le tot X Y O na nb) (h:m <= na) (h2:na <= X.size) (k:∀ i l,m <= i -> i < na -> l < nb -> le (at' Y l) (at' X i)):JH le tot X Y (O ++ (X.extract m na).reverse) m nb:=by
 unfold JH at j ⊢
 rw [kR h,List.reverse_append] at j
 have:=Inv.block j (fun x hx y hy=>by
  obtain ⟨i,h1,h2,h3,rfl⟩:=qV (RP.mp hx)
  obtain ⟨l,h4,h5,rfl⟩:=sL (RP.mp hy)
  exact k i l h1 h2 h4)
 rwa [Qc,Array.toList_reverse]
theorem zv {l r:List Nat} (h:l.Pairwise (fun a b=>le b a) /\ l.Perm tot) (e:l = r.reverse):r.Pairwise le /\ r.Perm tot:=by
 subst e
 exact ⟨Sg.mp h.1,(List.reverse_perm _).symm.trans h.2⟩
theorem JD (m:Nat):(X.extract 0 m).toList = X.toList.take m:=by rw [Rk,Rm];simp
theorem JH.done1 (j:JH le tot X Y O na nb) (h:nb = 0) (h2:na <= X.size):kg le tot (X.extract 0 na ++ Y.extract 0 nb ++ O.reverse):=by
 subst h
 refine zv (l:=O.toList ++ (X.toList.take na).reverse) (Inv.doneA (by unfold JH at j;simpa using j)) ?_
 simp [JD]
theorem JH.done2 (j:JH le tot X Y O na nb) (h:na = 0) (h2:nb <= Y.size):kg le tot (X.extract 0 na ++ Y.extract 0 nb ++ O.reverse):=by
 have:=j.sy.done1 h h2
 subst h
 simpa using this
theorem JH.first (j:JH le tot X Y O na nb) (h:nb = 1) (y1:1 <= Y.size) (h2:na <= X.size) (k:∀ i,i < X.size -> le (at' Y 0) (at' X i)):kg le tot (Y.extract 0 nb ++ X.extract 0 na ++ O.reverse):=by
 subst h
 have e:Y.toList.take 1 = [at' Y 0]:=by rw [CJ (i:=0) (by lia)];simp
 have j2:Inv (fun a b=>le b a) tot O.toList [at' Y 0] (X.toList.take na).reverse:=by have:=j.sy;unfold JH at this;rw [e] at this;exact this
 refine zv (j2.lastA fun y hy=>?_) ?_
 ·obtain ⟨i,h1,h2,rfl⟩:=sL (RP.mp hy)
  exact k i h2
 ·rw [Qc,Qc,JD,JD,e]
  simp
end
section
variable {prog:Program} {w:World} {A:Around} {E:Value -> Shared -> Prop} {s:Shared} {κ:SortKind} {it:Array Keyed} {n:Nat} {lt:Nat -> Nat -> Bool} {le:Nat -> Nat -> Prop}
def HI (κ:SortKind) (st:SortSt) (le:Nat -> Nat -> Prop) (X Y:Array Nat) (v:Nat) (st2:SortSt) (O:Array Nat) (na nb:Nat):Prop:=Same κ st st2 /\ 1 <= na /\ 1 < nb /\ na < X.size /\ nb <= Y.size /\ na + nb + v <= X.size + Y.size /\ JH le (X.toList ++ Y.toList) X Y O na nb
theorem Ec (o:Ord lt le) (hc:t3 prog w A s κ it n lt) {X Y:Array Nat} {Q:Array Keyed -> SortSt -> Prop} {st:SortSt} (hk:kindOf st = κ) (hx:∀ i,i < X.size -> at' X i < n) (hy:∀ i,i < Y.size -> at' Y i < n)
  (x1:1 <= X.size) (y1:1 <= Y.size) (sx:∀ i j,i <= j -> j < X.size -> le (at' X i) (at' X j)) (sy:∀ i j,i <= j -> j < Y.size -> le (at' Y i) (at' Y j)) (hf:∀ i,i < X.size -> le (at' Y 0) (at' X i)) (hl:∀ i,i < Y.size -> le (at' Y i) (at' X (X.size - 1)))
  (h:∀ R st',Same κ st st' -> kg le (X.toList ++ Y.toList) R -> Q (R.map (kas_item it)) st') :
  wpS (model prog w) A E s (Ff (X.map (kas_item it)) (Y.map (kas_item it))) Q st:=by
 have sm0:Same κ st st:=⟨hk,rfl,rfl,rfl⟩
 have fin:∀ {O:Array Keyed} {R},O = R.map (kas_item it) -> ∀ {st'},Same κ st st' -> kg le (X.toList ++ Y.toList) R -> Q O st':=fun e _ sm g=>e ▸ h _ _ sm g
 have j0:JH le (X.toList ++ Y.toList) X Y #[] X.size Y.size:=by
  unfold JH
  rw [QU (by simp),QU (by simp)]
  exact ⟨by simpa using Sg.mpr (Cv sx),by simpa using Sg.mpr (Cv sy),by simpa using (List.reverse_perm X.toList).append (List.reverse_perm Y.toList)⟩
 have j1:JH le (X.toList ++ Y.toList) X Y #[at' X (X.size - 1)] (X.size - 1) Y.size:=j0.one x1 (OH _) fun i h2=>hl i h2
 refine OD (Qm (PL ⟨rfl,?_⟩))
 simp -zeta only [Rp,Qk]
 refine OD (bQ (X:=X) (k:=X.size - 1) (by lia) (bT (fun e=>OG (fin ?_ sm0 (j1.done2 e (by lia)))) fun e1=>bT (fun e=>OG (fin ?_ sm0 (j1.first e (by lia) (by lia) hf))) fun e2=>?_))
 ·simp [exm]
 ·simp [exm]
 refine OD (PB (OD (lF (fun x c st2=>∃ O na nb g,c = (none,na,nb,O.map (kas_item it),g) /\ HI κ st le X Y (x + 1) st2 O na nb) (fun c st2=>LR κ it st le X Y c.1 st2) ⟨#[at' X (X.size - 1)],X.size - 1,Y.size,_,by simp;rfl,sm0,by lia,by lia,by lia,by lia,by lia,j1⟩ ?s1 ?f1 ?p1)))
 case f1=>
  rintro c st2 ⟨O,na,nb,g,rfl,sm,la,lb,lx,ly,ls,j⟩
  lia
 case p1=>
  rintro ⟨c,c'⟩ st2 ⟨R,rfl,hR,sm⟩
  exact OG (h R st2 sm hR)
 rintro x c st2 QQ hD hY hx0 ⟨O,na,nb,g,rfl,L⟩
 refine OD (lF (fun y c st2=>∃ O na nb a b,c = (none,na,nb,O.map (kas_item it),a,b) /\ HI κ st le X Y (x + 1 + y) st2 O na nb) (fun c st2=>LR κ it st le X Y c.1 st2 \/ ∃ O na nb a b,c = (none,na,nb,O.map (kas_item it),a,b) /\ HI κ st le X Y (x + 2) st2 O na nb) ⟨O,na,nb,0,0,rfl,L⟩ ?s2 ?f2 ?p2)
 case f2=>
  rintro c st2 ⟨O,na,nb,a,b,rfl,sm,la,lb,lx,ly,ls,j⟩
  lia
 case s2=>
  clear hD hY
  rintro y c st2 QQ hD hY hy0 ⟨O,na,nb,a,b,rfl,sm,la,lb,lx,ly,ls,j⟩
  have la':na - 1 < X.size:=by lia
  have lb':nb - 1 < Y.size:=by lia
  refine OD (bQ lb' (OD (bQ la' (OD (w_lt hc sm.1 (hy (nb - 1) lb') (hx (na - 1) la') ?_)))))
  dsimp -zeta only
  cases cw:lt (at' Y (nb - 1)) (at' X (na - 1)) with
  | true=>
   have j2:=j.one la (by lia) fun i h1=>o.tr _ _ _ (sy i (nb - 1) (by lia) lb') (o.yes _ _ cw)
   rw [OC rfl]
   refine OD (bQ la' (bT (fun e=>OG (hD _ _ (.inl ⟨_,?_,j2.done2 e ly,sm⟩))) fun e=>jN (OG (hD _ _ (.inr ⟨_,na - 1,nb,_,_,by rw [<- PM],sm,by lia,lb,la',ly,by lia,j2⟩))) (OG (hY _ _ ⟨_,na - 1,nb,_,_,by rw [<- PM],sm,by lia,lb,la',ly,by lia,j2⟩))))
   simp [Qd]
  | false=>
   have j2:JH le (X.toList ++ Y.toList) X Y (O.push (at' Y (nb - 1))) na (nb - 1):=(j.sy.one (by lia) (by lia) fun i h1=>o.tr _ _ _ (sx i (na - 1) (by lia) la') (o.no _ _ cw)).sy
   rw [OB (by decide)]
   refine OD (bQ lb' (bT (fun e=>OG (hD _ _ (.inl ⟨_,?_,j2.first e y1 (by lia) hf,sm⟩))) fun e=>jN (OG (hD _ _ (.inr ⟨_,na,nb - 1,_,_,by rw [<- PM],sm,la,by lia,lx,by lia,by lia,j2⟩))) (OG (hY _ _ ⟨_,na,nb - 1,_,_,by rw [<- PM],sm,la,by lia,lx,by lia,by lia,j2⟩))))
   simp [Qd]
 case p2=>
  clear L
  rintro ⟨c,c'⟩ st2 (⟨R,rfl,hR,sm⟩ | ⟨O,na,nb,a,b,hcc,L⟩)
  ·exact OG (hD _ _ ⟨R,rfl,hR,sm⟩)
  cases hcc
  refine OD (Qm (PL ⟨rfl,OD (lF (fun y c st2=>∃ O na nb m a b,c = (none,na,nb,O.map (kas_item it),m,a,b) /\ HI κ st le X Y (x + 2) st2 O na nb) (fun c st2=>LR κ it st le X Y c.1 st2 \/ ∃ O na nb m a b,c = (none,na,nb,O.map (kas_item it),m,a,b) /\ HI κ st le X Y (x + 2) st2 O na nb) ⟨O,na,nb,_,_,_,rfl,L⟩ ?s3 (fun _ _ h=>.inr h) ?p3)⟩))
  case p3=>
   rintro ⟨c,c'⟩ st2 (⟨R,rfl,hR,sm⟩ | ⟨O,na,nb,m,a,b,hcc,sm,L⟩)
   ·exact OG (hD _ _ ⟨R,rfl,hR,sm⟩)
   cases hcc
   exact OD (Pu (OG (hY _ _ ⟨O,na,nb,_,rfl,sm.g _,L⟩)))
  clear hD hY L
  rintro y c st2 QQ hD hY hy0 ⟨O,na,nb,m,a,b,rfl,sm,la,lb,lx,ly,ls,j⟩
  have dR:∀ {R' R t st2},R' = R.map (kas_item it) -> Same κ st st2 -> kg le (X.toList ++ Y.toList) R -> QQ (.done (some R',t)) st2:=fun e sm g=>hD _ _ (.inl ⟨_,OZ some e,g,sm⟩)
  have lb':nb - 1 < Y.size:=by lia
  dsimp -zeta only
  extract_lets -underBinder s1 na2 s2 nb2 s3 out s4 mg s5 ac bc jp
  refine CO fun g=>?_
  replace sm:=sm.g g
  refine OD (Pu (OD (bQ lb' (OD (i0 o hc sm.1 hx (hy (nb - 1) lb') (show 0 + na <= X.size by lia) (show na - 1 < na by lia) (fun i k h1 h2=>sx (0 + i) (0 + k) (by lia) (show 0 + k < X.size by change k < na at h2;lia)) fun k k1 k2 k3=>?_)))))
  simp only [Qo] at k2 k3
  change k <= na at k1
  dsimp -zeta only
  extract_lets -underBinder kk ac2 jp2
  refine xG (jp:=jp2) (fun i O'=>∃ O,O' = O.map (kas_item it) /\ 1 <= i /\ i < X.size /\ i + nb + (x + 2) <= X.size + Y.size /\ JH le (X.toList ++ Y.toList) X Y O i nb /\ ∀ l,l < i -> le (at' X l) (at' Y (nb - 1))) ?_ fun hj=>?_
  ·rintro i O' ⟨O,rfl,la,lx,ls,j,ky⟩
   have j2:JH le (X.toList ++ Y.toList) X Y (O.push (at' Y (nb - 1))) i (nb - 1):=(j.sy.one (by lia) (by lia) ky).sy
   have li:i - 1 < X.size:=by lia
   refine OD (bQ lb' (bT (fun e=>OG (dR ?_ sm (j2.first e y1 (by lia) hf))) fun e=>OD (bQ li (OD (i0 o hc sm.1 hy (hx (i - 1) li) (show 0 + (nb - 1) <= Y.size by lia) (show nb - 1 - 1 < nb - 1 by lia) (fun i k h1 h2=>sy (0 + i) (0 + k) (by lia) (show 0 + k < Y.size by change k < nb - 1 at h2;lia)) fun k k1 k2 k3=>?_)))))
   ·simp +zetaDelta [Qd]
   simp only [Qo] at k2 k3
   change k <= nb - 1 at k1
   dsimp -zeta only
   extract_lets -underBinder kk bc2 jp3
   refine xG (jp:=jp3) (fun l O'=>∃ O,O' = O.map (kas_item it) /\ 1 < l /\ l < nb /\ JH le (X.toList ++ Y.toList) X Y O i l /\ ∀ i',i' < l -> le (at' Y i') (at' X (i - 1))) ?_ fun hj=>?_
   ·rintro l O' ⟨O,rfl,lb,lc,j,ky⟩
    have j2:=j.one la (by lia) ky
    refine OD (bQ li (bT (fun e=>OG (dR ?_ sm (j2.done2 e (by lia)))) fun e=>jN (OG (hD _ _ (.inr ⟨_,i - 1,l,_,_,_,by rw [<- PM],sm,by lia,lb,li,by lia,by lia,j2⟩))) (OG (hY _ _ ⟨_,i - 1,l,_,_,_,by rw [<- PM],sm,by lia,lb,li,by lia,by lia,j2⟩))))
    simp [Qd]
   have j3:JH le (X.toList ++ Y.toList) X Y (O.push (at' Y (nb - 1)) ++ (Y.extract k (nb - 1)).reverse) i k:=(j2.sy.blk (by lia) (by lia) fun i' l h1 h2 h3=>o.tr _ _ _ (sx l (i - 1) (by lia) li) (k3 i' h1 h2)).sy
   refine bT (fun k0=>bT (fun e=>OG (dR ?_ sm (j3.first e y1 (by lia) hf))) fun e=>bT (fun e2=>OG (dR ?_ sm (j3.done1 e2 (by lia)))) fun e2=>hj _ _ ⟨_,?_,show 1 < k by change ¬k = 1 at e;change ¬k = 0 at e2;lia,by lia,j3,k2⟩) fun k0=>hj _ _ ⟨O.push (at' Y (nb - 1)),?_,show 1 < nb - 1 by change ¬nb - 1 = 1 at e;lia,show nb - 1 < nb by lia,j2,fun l h1=>k2 l (show l < k by change l < nb - 1 at h1;change ¬nb - 1 - k > 0 at k0;lia)⟩
   ·simp +zetaDelta [Qd]
   ·simp +zetaDelta [Qd]
   ·simp +zetaDelta [Qd]
   ·simp +zetaDelta
  have j3:=j.blk (m:=k) k1 (by lia) fun i l h1 h2 h3=>o.tr _ _ _ (sy l (nb - 1) (by lia) lb') (k3 i h1 h2)
  refine bT (fun k0=>bT (fun e=>OG (dR ?_ sm (j3.done2 e ly))) fun e=>hj _ _ ⟨_,?_,Nat.pos_of_ne_zero e,show k < X.size by lia,show k + nb + (x + 2) <= X.size + Y.size by lia,j3,k2⟩) fun k0=>hj _ _ ⟨O,rfl,la,lx,ls,j,fun l h1=>k2 l (show l < k by change l < na at h1;change ¬na - k > 0 at k0;lia)⟩
  ·simp +zetaDelta [Qd]
  ·simp +zetaDelta [Qd]
end
section
variable {α:Type}
theorem kO (lo:Nat):∀ (R:List α) (p:Array α) (j:Nat),lo + j + R.length <= p.size -> ((R.zipIdx j).foldl (fun a x=>a.setIfInBounds (lo + x.2) x.1) p).toList = p.toList.take (lo + j) ++ R ++ p.toList.drop (lo + j + R.length)
 | [],p,j,_=>by simp
 | r :: R,p,j,h=>by
  have hl:lo + j < p.toList.length:=by simp at h ⊢;lia
  rw [List.zipIdx_cons,O5,kO lo R _ (j + 1) (by simp at h ⊢;lia)]
  have e1:(p.setIfInBounds (lo + j) r).toList = p.toList.set (lo + j) r:=by simp
  have e2:(p.toList.set (lo + j) r).take (lo + (j + 1)) = p.toList.take (lo + j) ++ [r]:=by
   rw [<- Nat.add_assoc,List.take_succ_eq_append_getElem (by simpa using hl),List.take_set_of_le (OH _)]
   simp
  have e3:(p.toList.set (lo + j) r).drop (lo + (j + 1) + R.length) = p.toList.drop (lo + j + (r :: R).length):=by
   rw [List.drop_set_of_lt (by lia),OL]
   congr 1;lia
  rw [e1,e2,e3]
  simp
end
section
variable {prog:Program} {w:World} {A:Around} {E:Value -> Shared -> Prop} {s:Shared} {κ:SortKind} {it:Array Keyed} {n:Nat} {lt:Nat -> Nat -> Bool} {le:Nat -> Nat -> Prop}
def Stt (κ:SortKind) (it:Array Keyed) (st:SortSt) (p:Array Nat) (pend:Array (Nat × Nat × Nat)):Prop:=kindOf st = κ /\ arrOf st = p.map (kas_item it) /\ pendingOf st = pend /\ failedOf st = none
structure Srtd (le:Nat -> Nat -> Prop) (p p':Array Nat) (lo hi:Nat):Prop where
 perm:p'.Perm p
 out:∀ k,k < lo \/ hi <= k -> at' p' k = at' p k
 asc:∀ i j,lo <= i -> i <= j -> j < hi -> le (at' p' i) (at' p' j)
theorem Ix {σ:Type} {M:Model} {x:σ} {Q:PUnit -> σ -> Prop} {st:σ} (h:Q ⟨⟩ x):wpS M A E s (set x:StateT σ Sem PUnit) Q st:=by
 unfold wpS
 rw [StateT.run_set]
 exact OE ⟨rfl,h⟩
theorem Mp (l:List Nat) (k:Nat):at' l.toArray k = (l[k]?).getD 0:=by simp [at']
theorem Ju (p:Array Nat) (k:Nat):at' p k = (p.toList[k]?).getD 0:=by simp [at']
theorem Bh {p:Array Nat} {R:List Nat} {lo:Nat} (h:lo + R.length <= p.size) (k:Nat):at' (p.toList.take lo ++ R ++ p.toList.drop (lo + R.length)).toArray k = if lo <= k /\ k < lo + R.length then (R[k - lo]?).getD 0 else at' p k:=by
 rw [Mp,Ju]
 have hl:(p.toList.take lo).length = lo:=by rw [Qi];simp;lia
 by_cases h1:k < lo
 ·rw [OB (by lia),Pb,QB (by lia),RN,OC h1]
 ·by_cases h2:k < lo + R.length
  ·rw [OC ⟨by lia,h2⟩,Pb,QA (by lia),hl,QB (by lia)]
  ·rw [OB (by lia),QA (by rw [OM,hl];lia),OM,hl,Ro]
   congr 2;lia
theorem FL {p:Array Nat} {R:List Nat} {lo:Nat} (h:R.Perm (p.extract lo (lo + R.length)).toList):(p.toList.take lo ++ R ++ p.toList.drop (lo + R.length)).toArray.Perm p:=by
 rw [QS]
 show (p.toList.take lo ++ R ++ p.toList.drop (lo + R.length)).Perm p.toList
 refine ((h.append_left _).append_right _).trans ?_
 rw [<- kR (by lia),RM]
theorem Em {p:Array Nat} {i j k:Nat} (h:i + k < j):at' (p.extract i j) k = at' p (i + k):=by
 rw [Ju,Ju,Rk,Rm,RN,OC (by lia),Ro]
theorem zG {p:Array Nat} {i j:Nat} (h:j <= p.size):(p.extract i j).size = j - i:=by simp;lia
theorem Eb (o:Ord lt le) (hc:t3 prog w A s κ it n lt) {i sa na pw sb nb q:Nat} {p:Array Nat} {pend:Array (Nat × Nat × Nat)} {Q:Bool -> SortSt -> Prop} {st:SortSt} (S:Stt κ it st p pend) (h1:pend[i]? = some (sa,na,pw)) (h2:pend[i + 1]? = some (sb,nb,q))
  (hsb:sb = sa + na) (na1:1 <= na) (nb1:1 <= nb) (hz:sb + nb <= p.size) (hp:∀ i,i < p.size -> at' p i < n) (sA:∀ i j,i <= j -> j < na -> le (at' p (sa + i)) (at' p (sa + j))) (sB:∀ i j,i <= j -> j < nb -> le (at' p (sb + i)) (at' p (sb + j)))
  (h:∀ p' st',Stt κ it st' p' ((pend.setIfInBounds i (sa,na + nb,pw)).eraseIdxIfInBounds (i + 1)) -> Srtd le p p' sa (sa + (na + nb)) -> Q true st'):wpS (model prog w) A E s (mergeAt' i) Q st:=by
 obtain ⟨S1,S2,S3,S4⟩:=S
 refine OD (PB ?_)
 have S3':(sortPriv% PySem.Builtin.SortState.pending) st = pend:=S3
 have S2':(sortPriv% PySem.Builtin.SortState.a) st = p.map (kas_item it):=S2
 rw [S3',h1,h2]
 refine OD (Ix ?_)
 rw [S2']
 generalize hst:(sortPriv% PySem.Builtin.SortState.mk) _ _ _ _ _ = st2
 have T:Stt κ it st2 p ((pend.setIfInBounds i (sa,na + nb,pw)).eraseIdxIfInBounds (i + 1)):=by subst hst;exact ⟨S1,rfl,rfl,S4⟩
 clear hst S1 S2 S3 S4 S2' S3' h1 h2
 generalize ((pend.setIfInBounds i (sa,na + nb,pw)).eraseIdxIfInBounds (i + 1)) = pend2 at T h
 have sA':∀ i j,sa <= i -> i <= j -> j < sb -> le (at' p i) (at' p j):=fun i j a1 a2 a3=>by
  have:=sA (i - sa) (j - sa) (by lia) (by lia)
  rwa [show sa + (i - sa) = i by lia,show sa + (j - sa) = j by lia] at this
 have sB':∀ i j,sb <= i -> i <= j -> j < sb + nb -> le (at' p i) (at' p j):=fun i j a1 a2 a3=>by
  have:=sB (i - sb) (j - sb) (by lia) (by lia)
  rwa [show sb + (i - sb) = i by lia,show sb + (j - sb) = j by lia] at this
 refine OD (bQ (by lia) ?_)
 refine OD (i0 o hc T.1 hp (hp sb (by lia)) (by lia) (by lia) sA fun k k1 k2 k3=>?_)
 have k2':∀ i,sa <= i -> i < sa + k -> le (at' p i) (at' p sb):=fun i a1 a2=>by
  have:=k2 (i - sa) (by lia)
  rwa [show sa + (i - sa) = i by lia] at this
 have k3':∀ i,sa + k <= i -> i < sb -> le (at' p sb) (at' p i):=fun i a1 a2=>by
  have:=k3 (i - sa) (by lia) (by lia)
  rwa [show sa + (i - sa) = i by lia] at this
 clear k2 k3
 dsimp only
 simp only [Qk]
 by_cases e1:na - k = 0
 ·rw [OC e1]
  refine OG (h p st2 T ⟨.refl _,fun _ _=>rfl,fun i j a1 a2 a3=>?_⟩)
  by_cases b1:j < sb
  ·exact sA' i j a1 a2 b1
  ·by_cases b2:sb <= i
   ·exact sB' i j b2 a2 (by lia)
   ·exact o.tr _ _ _ (k2' i a1 (by lia)) (sB' sb j (OH _) (by lia) (by lia))
 rw [OB e1]
 refine OD (bQ (by lia) ?_)
 have e2:sa + k + (na - k) - 1 = sb - 1:=by lia
 rw [e2]
 refine OD (i0 o hc T.1 hp (hp (sb - 1) (by lia)) (by lia) (by lia) sB fun m m1 k2 k3=>?_)
 have m2':∀ i,sb <= i -> i < sb + m -> le (at' p i) (at' p (sb - 1)):=fun i a1 a2=>by
  have:=k2 (i - sb) (by lia)
  rwa [show sb + (i - sb) = i by lia] at this
 have m3':∀ i,sb + m <= i -> i < sb + nb -> le (at' p (sb - 1)) (at' p i):=fun i a1 a2=>by
  have:=k3 (i - sb) (by lia) (by lia)
  rwa [show sb + (i - sb) = i by lia] at this
 clear k2 k3
 dsimp only
 by_cases e3:m = 0
 ·rw [OC e3]
  subst e3
  refine OG (h p st2 T ⟨.refl _,fun _ _=>rfl,fun i j a1 a2 a3=>?_⟩)
  by_cases b1:j < sb
  ·exact sA' i j a1 a2 b1
  ·by_cases b2:sb <= i
   ·exact sB' i j b2 a2 (by lia)
   ·exact o.tr _ _ _ (sA' i (sb - 1) a1 (by lia) (by lia)) (m3' j (by lia) (by lia))
 rw [OB e3]
 generalize hr:na - k = r
 have hr1:na = k + r:=by lia
 have hr0:0 < r:=by lia
 clear hr e1 e2
 have zx:(p.extract (sa + k) sb).size = r:=by rw [zG (by lia)];lia
 have zy:(p.extract sb (sb + m)).size = m:=by rw [zG (by lia)];lia
 have ax:∀ i,i < r -> at' (p.extract (sa + k) sb) i = at' p (sa + k + i):=fun i hi=>Em (by lia)
 have ay:∀ i,i < m -> at' (p.extract sb (sb + m)) i = at' p (sb + i):=fun i hi=>Em (by lia)
 have exy:(p.extract (sa + k) sb).toList ++ (p.extract sb (sb + m)).toList = (p.extract (sa + k) (sb + m)).toList:=by
  have a1:=kR (X:=p) (i:=sa + k) (j:=sb) (by lia)
  have a2:=kR (X:=p) (i:=sb) (j:=sb + m) (by lia)
  have a3:=kR (X:=p) (i:=sa + k) (j:=sb + m) (by lia)
  rw [a1,a3,Pb] at a2
  exact (List.append_cancel_left a2).symm
 have key:∀ R:Array Nat,kg le ((p.extract (sa + k) sb).toList ++ (p.extract sb (sb + m)).toList) R -> R.toList.length = r + m /\ Srtd le p (p.toList.take (sa + k) ++ R.toList ++ p.toList.drop (sa + k + R.toList.length)).toArray sa (sa + (na + nb)):=fun R g=>by
  have hlen:R.toList.length = r + m:=by
   rw [g.2.length_eq,OM,Ph,Ph,zx,zy]
  refine ⟨hlen,?_,fun i hi=>?_,fun i j a1 a2 a3=>?_⟩
  ·refine FL ?_
   rw [hlen,show sa + k + (r + m) = sb + m by lia,<- exy]
   exact g.2
  ·rw [Bh (by lia),OB (by lia)]
  ·rw [Bh (by lia),Bh (by lia),hlen]
   have memR:∀ i,i < r + m -> ∃ c,(R.toList[i]?).getD 0 = at' p c /\ ((sa + k <= c /\ c < sb) \/ (sb <= c /\ c < sb + m)):=fun i hi=>by
    have hi':i < R.toList.length:=by lia
    have hm:R.toList[i] ∈ R.toList:=List.getElem_mem hi'
    have e:(R.toList[i]?).getD 0 = R.toList[i]:=by rw [P0 hi'];rfl
    rw [e]
    rcases OV.mp (g.2.mem_iff.mp hm) with hm | hm
    ·obtain ⟨c,c1,c2,c3,c4⟩:=qV hm
     exact ⟨c,c4.symm,.inl ⟨c1,c2⟩⟩
    ·obtain ⟨c,c1,c2,c3,c4⟩:=qV hm
     exact ⟨c,c4.symm,.inr ⟨c1,c2⟩⟩
   by_cases b1:sa + k <= i /\ i < sa + k + (r + m)
   ·rw [OC b1]
    by_cases b2:sa + k <= j /\ j < sa + k + (r + m)
    ·rw [OC b2]
     by_cases b3:i = j
     ·subst b3;exact o.rf _
     ·have:=RL.mp g.1 (i - (sa + k)) (j - (sa + k)) (by lia) (by lia) (by lia)
      rw [P0 (by lia),P0 (by lia)]
      exact this
    ·rw [OB b2]
     obtain ⟨c,c1,c2⟩:=memR (i - (sa + k)) (by lia)
     rw [c1]
     rcases c2 with c2 | c2
     ·exact o.tr _ _ _ (sA' c (sb - 1) (by lia) (by lia) (by lia)) (m3' j (by lia) (by lia))
     ·exact sB' c j (by lia) (by lia) (by lia)
   ·rw [OB b1]
    by_cases b2:sa + k <= j /\ j < sa + k + (r + m)
    ·rw [OC b2]
     obtain ⟨c,c1,c2⟩:=memR (j - (sa + k)) (by lia)
     rw [c1]
     rcases c2 with c2 | c2
     ·exact sA' i c (by lia) (by lia) (by lia)
     ·exact o.tr _ _ _ (k2' i (by lia) (by lia)) (sB' sb c (OH _) (by lia) (by lia))
    ·rw [OB b2]
     by_cases b3:j < sb
     ·exact sA' i j a1 a2 b3
     ·by_cases b4:sb <= i
      ·exact sB' i j b4 a2 (by lia)
      ·exact o.tr _ _ _ (k2' i a1 (by lia)) (sB' sb j (OH _) (by lia) (by lia))
 have fin:∀ (R:Array Nat) (st3:SortSt),Same κ st2 st3 -> kg le ((p.extract (sa + k) sb).toList ++ (p.extract sb (sb + m)).toList) R ->
   Q (failedOf st3).isNone (setArr st3 ((R.map (kas_item it)).toList.zipIdx.foldl (fun a x=>a.setIfInBounds (sa + k + x.2) x.1) (arrOf st3))):=fun R st3 sm g=>by
  obtain ⟨hlen,S⟩:=key R g
  have ea:arrOf st3 = p.map (kas_item it):=sm.2.1.trans T.2.1
  have ef:failedOf st3 = none:=sm.2.2.2.trans T.2.2.2
  rw [ef]
  refine h _ _ ⟨sm.1,?_,sm.2.2.1.trans T.2.2.1,ef⟩ S
  show (R.map (kas_item it)).toList.zipIdx.foldl (fun a x=>a.setIfInBounds (sa + k + x.2) x.1) (arrOf st3) = _
  rw [ea]
  apply Array.toList_inj.mp
  rw [kO (sa + k) _ _ 0 (by simp at hlen ⊢;lia)]
  simp
 have cx:(p.map (kas_item it)).extract (sa + k) sb = (p.extract (sa + k) sb).map (kas_item it):=by simp
 have cy:(p.map (kas_item it)).extract sb (sb + m) = (p.extract sb (sb + m)).map (kas_item it):=by simp
 rw [cx,cy]
 have hx:∀ i,i < (p.extract (sa + k) sb).size -> at' (p.extract (sa + k) sb) i < n:=fun i hi=>by rw [ax i (by lia)];exact hp _ (by lia)
 have hy:∀ i,i < (p.extract sb (sb + m)).size -> at' (p.extract sb (sb + m)) i < n:=fun i hi=>by rw [ay i (by lia)];exact hp _ (by lia)
 have sx:∀ i j,i <= j -> j < (p.extract (sa + k) sb).size -> le (at' (p.extract (sa + k) sb) i) (at' (p.extract (sa + k) sb) j):=fun i j a1 a2=>by rw [ax i (by lia),ax j (by lia)];exact sA' _ _ (by lia) (by lia) (by lia)
 have sy:∀ i j,i <= j -> j < (p.extract sb (sb + m)).size -> le (at' (p.extract sb (sb + m)) i) (at' (p.extract sb (sb + m)) j):=fun i j a1 a2=>by rw [ay i (by lia),ay j (by lia)];exact sB' _ _ (by lia) (by lia) (by lia)
 have hf:∀ i,i < (p.extract (sa + k) sb).size -> le (at' (p.extract sb (sb + m)) 0) (at' (p.extract (sa + k) sb) i):=fun i a1=>by rw [ay 0 (by lia),ax i (by lia)];exact k3' _ (by lia) (by lia)
 have hl:∀ i,i < (p.extract sb (sb + m)).size -> le (at' (p.extract sb (sb + m)) i) (at' (p.extract (sa + k) sb) ((p.extract (sa + k) sb).size - 1)):=fun i a1=>by
  rw [zx,ay i (by lia),ax _ (by lia),show sa + k + (r - 1) = sb - 1 by lia]
  exact m2' _ (by lia) (by lia)
 by_cases e4:r <= m
 ·rw [OC e4]
  refine OD (Ed o hc T.1 hx hy (by lia) (by lia) sx sy hf hl fun R st3 sm g=>?_)
  exact OD (Pu (OD (PB (OG (fin R st3 sm g)))))
 ·rw [OB e4]
  refine OD (Ec o hc T.1 hx hy (by lia) (by lia) sx sy hf hl fun R st3 sm g=>?_)
  exact OD (Pu (OD (PB (OG (fin R st3 sm g)))))
end
section
variable {le:Nat -> Nat -> Prop} {lt:Nat -> Nat -> Bool} {p p' p2:Array Nat} {a b c:Nat}
def Up (le:Nat -> Nat -> Prop) (p:Array Nat) (a b:Nat):Prop:=∀ i j,a <= i -> i <= j -> j < b -> le (at' p i) (at' p j)
def Dn (le:Nat -> Nat -> Prop) (p:Array Nat) (a b:Nat):Prop:=∀ i j,a <= i -> i <= j -> j < b -> le (at' p j) (at' p i)
def Es (le:Nat -> Nat -> Prop) (p:Array Nat) (a b:Nat):Prop:=∀ k,a <= k -> k < b -> le (at' p k) (at' p (b - 1)) /\ le (at' p (b - 1)) (at' p k)
def Near (p p':Array Nat) (lo hi:Nat):Prop:=p'.Perm p /\ ∀ k,k < lo \/ hi <= k -> at' p' k = at' p k
theorem Near.rf:Near p p a b:=⟨.refl _,fun _ _=>rfl⟩
theorem Near.tr (h:Near p p' a b) (h2:Near p' p2 a b):Near p p2 a b:=⟨h2.1.trans h.1,fun k hk=>(h2.2 k hk).trans (h.2 k hk)⟩
theorem Near.wide {d e:Nat} (h:Near p p' a b) (h1:d <= a) (h2:b <= e):Near p p' d e:=⟨h.1,fun k hk=>h.2 k (by lia)⟩
theorem Near.size (h:Near p p' a b):p'.size = p.size:=h.1.size_eq
theorem eN (h:b <= p.size):Near p (kas_rev p a b) a b:=⟨mirror_perm _ _ _ _,fun k hk=>by rw [bU h,OB (by lia)]⟩
theorem yQ {d:Nat} (h:b < p.size) (hd:d <= b):Near p (bubble p b d) (b - d) (b + 1):=⟨bubble_perm _ _ _,fun k hk=>by rw [oy h hd,OB (by lia),OB (by lia)]⟩
theorem Up.succ (o:Ord lt le) (h:Up le p a b) (hab:a < b) (hl:le (at' p (b - 1)) (at' p b)):Up le p a (b + 1):=fun i j h1 h2 h3=>by
 by_cases e:j = b
 ·subst e
  by_cases e2:i = j
  ·subst e2;exact o.rf _
  ·exact o.tr _ _ _ (h i (j - 1) h1 (by lia) (by lia)) hl
 ·exact h i j h1 h2 (by lia)
theorem Dn.succ (o:Ord lt le) (h:Dn le p a b) (hab:a < b) (hl:le (at' p b) (at' p (b - 1))):Dn le p a (b + 1):=fun i j h1 h2 h3=>by
 by_cases e:j = b
 ·subst e
  by_cases e2:i = j
  ·subst e2;exact o.rf _
  ·exact o.tr _ _ _ hl (h i (j - 1) h1 (by lia) (by lia))
 ·exact h i j h1 h2 (by lia)
theorem KC (o:Ord lt le):Up le p a (a + 1):=fun i j h1 h2 h3=>by
 have:i = j:=by lia
 subst this;exact o.rf _
theorem Up.of (h:Up le p a b) (k:∀ i,a <= i -> i < b -> at' p' i = at' p i):Up le p' a b:=fun i j h1 h2 h3=>by
 rw [k i h1 (by lia),k j (by lia) h3];exact h i j h1 h2 h3
theorem Dn.rev (o:Ord lt le) (h:Dn le p a b) (hb:b <= p.size) (hc:a <= c) (he:Es le p c b):Dn le (kas_rev p c b) a b:=by
 have key:∀ k,a <= k -> k < b -> ∃ k',a <= k' /\ k' < b /\ at' (kas_rev p c b) k = at' p k' /\ le (at' p k') (at' p k) /\ le (at' p k) (at' p k'):=fun k hk0 hk=>by
  rw [bU hb]
  split
  ·rename_i h1
   refine ⟨c + b - 1 - k,by lia,by lia,rfl,?_⟩
   obtain ⟨a1,a2⟩:=he k h1.1 hk
   obtain ⟨b1,b2⟩:=he (c + b - 1 - k) (by lia) (by lia)
   exact ⟨o.tr _ _ _ b1 a2,o.tr _ _ _ a1 b2⟩
  ·exact ⟨k,hk0,hk,rfl,o.rf _,o.rf _⟩
 intro i j h0 hij hj
 obtain ⟨i',_,_,e1,x1,x2⟩:=key i h0 (by lia)
 obtain ⟨j',_,_,e2,y1,y2⟩:=key j (by lia) hj
 rw [e1,e2]
 exact o.tr _ _ _ y1 (o.tr _ _ _ (h i j h0 hij hj) x2)
theorem Dn.turn (h:Dn le p a b) (hb:b <= p.size):Up le (kas_rev p a b) a b:=by
 intro i j h0 hij hj
 rw [bU hb,bU hb,OC ⟨h0,by lia⟩,OC ⟨by lia,hj⟩]
 exact h _ _ (by lia) (by lia) (by lia)
theorem oJ (o:Ord lt le) (h:a + 1 = b):Es le p a b:=fun k h1 h2=>by
 have:k = b - 1:=by lia
 subst this
 exact ⟨o.rf _,o.rf _⟩
end
section
variable {prog:Program} {w:World} {A:Around} {E:Value -> Shared -> Prop} {s:Shared} {κ:SortKind} {it:Array Keyed} {n:Nat} {lt:Nat -> Nat -> Bool} {le:Nat -> Nat -> Prop} {p:Array Nat} {pend:Array (Nat × Nat × Nat)} {st:SortSt}
theorem gU (hc:t3 prog w A s κ it n lt) (S:Stt κ it st p pend) (hp:∀ i,i < p.size -> at' p i < n) {i j:Nat} {Q:Option Bool -> SortSt -> Prop} (hi:i < p.size) (hj:j < p.size) (h:Q (some (lt (at' p i) (at' p j))) st):wpS (model prog w) A E s (ltAt' i j) Q st:=by
 rw [ltAt'_eq]
 refine OD (PB ?_)
 dsimp only
 rw [S.2.1]
 exact OD (bQ hi (OD (bQ hj (w_lt hc S.1 (hp _ hi) (hp _ hj) h))))
theorem n6 (S:Stt κ it st p pend) {i j:Nat} {Q:Unit -> SortSt -> Prop} (h:∀ st',Stt κ it st' (kas_rev p i j) pend -> Q () st'):wpS (model prog w) A E s (reverseSlice' i j) Q st:=by
 rw [reverseSlice'_eq]
 refine Pu (h _ ⟨S.1,?_,S.2.2⟩)
 show mirror (arrOf st) i j ((j - i) / 2) = _
 rw [S.2.1]
 exact kas_swaps_map (kas_item it) (fun k=>i + k) (fun k=>j - 1 - k) _ p
theorem KD (S:Stt κ it st p pend) {i j:Nat} {Q:Unit -> SortSt -> Prop} (h:∀ st',Stt κ it st' (bubble p i (i - j)) pend -> Q () st'):wpS (model prog w) A E s (moveDown' i j) Q st:=by
 rw [moveDown'_eq]
 refine Pu (h _ ⟨S.1,?_,S.2.2⟩)
 show bubble (arrOf st) i (i - j) = _
 rw [S.2.1]
 exact kas_swaps_map (kas_item it) (fun k=>i - k) (fun k=>i - k - 1) _ p
theorem L4 (o:Ord lt le) (hc:t3 prog w A s κ it n lt) (S:Stt κ it st p pend) (hp:∀ p':Array Nat,p'.Perm p -> ∀ i,i < p'.size -> at' p' i < n) {lo m ok:Nat} {Q:Bool -> SortSt -> Prop} (hz:lo + m <= p.size) (hok:ok <= m) (ok1:1 <= ok) (hs:Up le p lo (lo + ok))
  (h:∀ p' st',Stt κ it st' p' pend -> Near p p' lo (lo + m) -> Up le p' lo (lo + m) -> Q true st'):wpS (model prog w) A E s (binarySort' lo m ok) Q st:=by
 refine OD (Pm (Pn (I:=fun k c st'=>c = (none,()) /\ ∃ p',Stt κ it st' p' pend /\ Near p p' lo (lo + m) /\ Up le p' lo (lo + min k m))
  (Q:=fun c st'=>c = (none,()) /\ ∃ p',Stt κ it st' p' pend /\ Near p p' lo (lo + m) /\ Up le p' lo (lo + m)) ?step ?fin ?init) ?post)
 case post=>
  rintro c st' ⟨rfl,p',S',N,U⟩
  exact OG (h p' st' S' N U)
 case init=>exact ⟨rfl,p,S,.rf,by rw [show min (max ok 1) m = ok by lia];exact hs⟩
 case fin=>
  rintro c st' ⟨hc',p',S',N,U⟩
  exact ⟨hc',p',S',N,by rwa [show min (max (max ok 1) m) m = m by lia] at U⟩
 case step=>
  rintro k c st' hak hkn ⟨rfl,p',S',N,U⟩
  rw [show min k m = k by lia] at U
  have hsz:=N.size
  have hk1:1 <= k:=by lia
  have hkm:k < m:=by lia
  clear hak hkn hok ok1 hs
  refine OD (Pm (Pn (I:=fun x c st''=>st'' = st' /\ ∃ l r,c = (none,l,r) /\ l <= r /\ r <= k /\ r - l <= k - x /\
    (∀ i,i < l -> le (at' p' (lo + i)) (at' p' (lo + k))) /\ (∀ i,r <= i -> i < k -> le (at' p' (lo + k)) (at' p' (lo + i))))
   (Q:=fun c st''=>st'' = st' /\ ∃ l r,c = (none,l,r) /\ l <= k /\
    (∀ i,i < l -> le (at' p' (lo + i)) (at' p' (lo + k))) /\ (∀ i,l <= i -> i < k -> le (at' p' (lo + k)) (at' p' (lo + i)))) ?istep ?ifin ?iinit) ?ipost)
  case iinit=>exact ⟨rfl,0,k,rfl,by lia,by lia,by lia,fun i hi=>by lia,fun i h1 h2=>by lia⟩
  case ifin=>
   rintro c st'' ⟨rfl,l,r,rfl,hlr,hrk,hm,hlo,hhi⟩
   have:l = r:=by lia
   subst this
   exact ⟨rfl,l,l,rfl,hrk,hlo,hhi⟩
  case istep=>
   rintro x c st'' _ hxk ⟨rfl,l,r,rfl,hlr,hrk,hm,hlo,hhi⟩
   dsimp only
   by_cases hge:l ≥ r
   ·rw [OC hge]
    have:l = r:=by lia
    subst this
    exact OG ⟨rfl,l,l,rfl,hrk,hlo,hhi⟩
   ·rw [OB hge]
    refine OD (gU hc S' (hp _ N.1) (by lia) (by lia) ?_)
    dsimp only
    cases cw:lt (at' p' (lo + k)) (at' p' (lo + (l + r) / 2)) with
    | true=>
     rw [OC rfl]
     exact OG ⟨rfl,l,(l + r) / 2,rfl,by lia,by lia,by lia,hlo,fun i h1 h2=>o.tr _ _ _ (o.yes _ _ cw) (U _ _ (by lia) (by lia) (by lia))⟩
    | false=>
     rw [OB (by decide)]
     exact OG ⟨rfl,(l + r) / 2 + 1,r,rfl,by lia,by lia,by lia,fun i h1=>o.tr _ _ _ (U _ _ (by lia) (by lia) (by lia)) (o.no _ _ cw),hhi⟩
  case ipost=>
   rintro c st'' ⟨rfl,l,r,rfl,hlk,hlo,hhi⟩
   dsimp only
   refine OD (KD S' fun st3 S3=>OG ⟨rfl,_,S3,N.tr ((yQ (by lia) (by lia)).wide (by lia) (by lia)),?_⟩)
   rw [show min (k + 1) m = k + 1 by lia,show lo + k - (lo + l) = k - l by lia]
   intro i j h1 h2 h3
   rw [oy (by lia) (by lia),oy (by lia) (by lia)]
   rw [show lo + k - (k - l) = lo + l by lia]
   by_cases i1:i = lo + l
   ·rw [OC i1]
    by_cases j1:j = lo + l
    ·rw [OC j1];exact o.rf _
    ·rw [OB j1]
     rw [OC (by lia)]
     have:=hhi (j - 1 - lo) (by lia) (by lia)
     rwa [show lo + (j - 1 - lo) = j - 1 by lia] at this
   ·rw [OB i1]
    by_cases j1:j = lo + l
    ·rw [OC j1,OB (by lia)]
     have:=hlo (i - lo) (by lia)
     rwa [show lo + (i - lo) = i by lia] at this
    ·rw [OB j1]
     by_cases i2:lo + l < i /\ i <= lo + k
     ·rw [OC i2,OC (by lia)]
      exact U _ _ (by lia) (by lia) (by lia)
     ·rw [OB i2]
      by_cases j2:lo + l < j /\ j <= lo + k
      ·rw [OC j2]
       exact U _ _ (by lia) (by lia) (by lia)
      ·rw [OB j2]
       exact U _ _ (by lia) (by lia) (by lia)
end
section
variable {prog:Program} {w:World} {A:Around} {E:Value -> Shared -> Prop} {s:Shared} {κ:SortKind} {it:Array Keyed} {n:Nat} {lt:Nat -> Nat -> Bool} {le:Nat -> Nat -> Prop} {p:Array Nat} {pend:Array (Nat × Nat × Nat)} {st:SortSt}
theorem Iu (o:Ord lt le) (hc:t3 prog w A s κ it n lt) (S:Stt κ it st p pend) (hp:∀ p':Array Nat,p'.Perm p -> ∀ i,i < p'.size -> at' p' i < n) {lo nrem:Nat} {Q:Option Nat -> SortSt -> Prop} (h1:1 <= nrem) (hz:lo + nrem <= p.size)
  (h:∀ m p' st',Stt κ it st' p' pend -> 1 <= m -> m <= nrem -> Near p p' lo (lo + m) -> Up le p' lo (lo + m) -> Q (some m) st'):wpS (model prog w) A E s (countRun' lo nrem) Q st:=by
 refine OD (Pm (Pn (I:=fun x c st'=>st' = st /\ c = (none,x) /\ x <= nrem /\ Up le p lo (lo + x))
  (Q:=fun c st'=>st' = st /\ ∃ m,c = (none,m) /\ 1 <= m /\ m <= nrem /\ Up le p lo (lo + m) /\ (m < nrem -> le (at' p (lo + m)) (at' p (lo + m - 1)))) ?s1 ?f1 ?i1) ?p1)
 case i1=>exact ⟨rfl,rfl,h1,KC o⟩
 case f1=>
  rintro c st' ⟨rfl,rfl,k1,k2⟩
  exact ⟨rfl,_,rfl,by lia,k1,k2,fun _=>by lia⟩
 case s1=>
  rintro x c st' hx0 hx ⟨rfl,rfl,k1,k2⟩
  dsimp only
  refine OD (gU hc S (hp p (.refl _)) (by lia) (by lia) ?_)
  dsimp only
  cases cw:lt (at' p (lo + x)) (at' p (lo + x - 1)) with
  | true=>
   rw [OC rfl]
   exact OG ⟨rfl,x,rfl,hx0,k1,k2,fun _=>o.yes _ _ cw⟩
  | false=>
   rw [OB (by decide)]
   exact OG ⟨rfl,rfl,by lia,Up.succ (b:=lo + x) o k2 (by lia) (o.no _ _ cw)⟩
 case p1=>
  rintro c st' ⟨rfl,m,rfl,m1,m2,U,hd⟩
  dsimp only
  simp only [Qk]
  by_cases e1:m = nrem
  ·rw [OC e1]
   exact OG (h m p st' S m1 m2 .rf U)
  rw [OB e1]
  have e1':m < nrem:=by lia
  clear e1
  by_cases e2:m > 1
  ·rw [OC e2]
   refine OD (gU hc S (hp p (.refl _)) (by lia) (by lia) ?_)
   dsimp only
   cases cw:lt (at' p lo) (at' p (lo + m - 1)) with
   | true=>
    rw [OC rfl]
    exact OG (h m p st' S m1 m2 .rf U)
   | false=>
    rw [OB (by decide)]
    have g0:=o.no _ _ cw
    refine OD (n6 S fun stx Sx=>?_)
    have same:∀ i j,lo <= i -> i < lo + m -> lo <= j -> j < lo + m -> le (at' p i) (at' p j):=fun i j a1 a2 a3 a4=>o.tr _ _ _ (U i (lo + m - 1) a1 (by lia) (by lia)) (o.tr _ _ _ g0 (U lo j (OH _) a3 a4))
    have d0:Dn le (kas_rev p lo (lo + m)) lo (lo + m):=fun i j a1 a2 a3=>by
     rw [bU (by lia),bU (by lia),OC (by lia),OC (by lia)]
     exact same _ _ (by lia) (by lia) (by lia) (by lia)
    have Dx:Dn le (kas_rev p lo (lo + m)) lo (lo + (m + 1)):=Dn.succ (b:=lo + m) o d0 (by lia) (by
     rw [bU (by lia),bU (by lia),OB (by lia),OC (by lia)]
     exact o.tr _ _ _ (hd (by lia)) (same _ _ (by lia) (by lia) (by lia) (by lia)))
    have Nx:Near p (kas_rev p lo (lo + m)) lo (lo + (m + 1)):=(eN (by lia)).wide (OH _) (by lia)
    generalize kas_rev p lo (lo + m) = px at Sx Dx Nx
    refine OD (Qm (PL ⟨rfl,?_⟩))
    refine OD (Pm (Pn (I:=fun x c st'=>∃ q p',c = (none,x,q) /\ Stt κ it st' p' pend /\ Near p p' lo (lo + x) /\ x <= nrem /\ q + 1 <= x /\ Dn le p' lo (lo + x) /\ Es le p' (lo + x - (q + 1)) (lo + x))
     (Q:=fun c st'=>∃ x q p',c = (none,x,q) /\ m + 1 <= x /\ Stt κ it st' p' pend /\ Near p p' lo (lo + x) /\ x <= nrem /\ q + 1 <= x /\ Dn le p' lo (lo + x) /\ Es le p' (lo + x - (q + 1)) (lo + x)) ?s2 ?f2 ?i2) ?p2)
    case i2=>exact ⟨0,px,rfl,Sx,Nx,by lia,by lia,Dx,oJ o (by lia)⟩
    case f2=>
     rintro c st' ⟨q,p',rfl,S',N',k1,k2,D',E'⟩
     exact ⟨_,q,p',rfl,by lia,S',N',k1,k2,D',E'⟩
    case s2=>
     rintro x c st' hx0 hx ⟨q,p',rfl,S',N',k1,k2,D',E'⟩
     dsimp only
     have hs2:=N'.size
     refine OD (gU hc S' (hp _ N'.1) (by lia) (by lia) ?_)
     dsimp only
     cases cw:lt (at' p' (lo + x)) (at' p' (lo + x - 1)) with
     | true=>
      rw [OC rfl]
      have hl:=o.yes _ _ cw
      by_cases q0:q > 0
      ·rw [OC q0]
       refine OD (n6 S' fun st4 S4=>OG ?_)
       have d1:=D'.rev o (by lia) (by lia) E'
       have b1:at' (kas_rev p' (lo + x - (q + 1)) (lo + x)) (lo + x) = at' p' (lo + x):=by rw [bU (by lia),OB (by lia)]
       have b2:at' (kas_rev p' (lo + x - (q + 1)) (lo + x)) (lo + x - 1) = at' p' (lo + x - (q + 1)):=by
        rw [bU (by lia),OC (by lia)]
        congr 1;lia
       exact ⟨0,_,rfl,S4,(N'.tr ((eN (by lia)).wide (by lia) (by lia))).wide (by lia) (by lia),by lia,by lia,Dn.succ (b:=lo + x) o d1 (by lia) (by rw [b1,b2];exact o.tr _ _ _ hl (E' _ (OH _) (by lia)).2),oJ o (by lia)⟩
      ·rw [OB q0]
       exact OG ⟨0,p',rfl,S',N'.wide (by lia) (by lia),by lia,by lia,Dn.succ (b:=lo + x) o D' (by lia) hl,oJ o (by lia)⟩
     | false=>
      rw [OB (by decide)]
      have g1:=o.no _ _ cw
      refine OD (gU hc S' (hp _ N'.1) (by lia) (by lia) ?_)
      dsimp only
      cases cw2:lt (at' p' (lo + x - 1)) (at' p' (lo + x)) with
      | true=>
       rw [OC rfl]
       exact OG ⟨x,q,p',rfl,hx0,S',N',k1,k2,D',E'⟩
      | false=>
       rw [OB (by decide)]
       have g2:=o.no _ _ cw2
       refine OG ⟨q + 1,p',rfl,S',N'.wide (by lia) (by lia),by lia,by lia,Dn.succ (b:=lo + x) o D' (by lia) g2,fun k a1 a2=>?_⟩
       rw [show lo + (x + 1) - 1 = lo + x by lia]
       by_cases hk:k = lo + x
       ·subst hk;exact ⟨o.rf _,o.rf _⟩
       ·obtain ⟨x1,x2⟩:=E' k (by lia) (by lia)
        exact ⟨o.tr _ _ _ x1 g1,o.tr _ _ _ g2 x2⟩
    case p2=>
     rintro c st' ⟨x,q,p',rfl,x1,S',N',x2,x3,D',E'⟩
     dsimp only
     have hs2:=N'.size
     by_cases q0:q > 0
     ·rw [OC q0]
      refine OD (n6 S' fun stX SX=>?_)
      have DX:=D'.rev o (by lia) (by lia) E'
      have NX:=N'.tr ((eN (by lia)).wide (a:=lo + x - (q + 1)) (b:=lo + x) (d:=lo) (e:=lo + x) (by lia) (by lia))
      generalize kas_rev p' (lo + x - (q + 1)) (lo + x) = pX at SX DX NX
      refine OD (n6 SX fun st4 S4=>?_)
      have hs4:=NX.size
      have N4:=NX.tr (eN (a:=lo) (b:=lo + x) (by lia))
      have U4:=DX.turn (by lia)
      refine OD (Pm (Pn (I:=fun y c st'=>st' = st4 /\ c = (none,y) /\ y <= nrem /\ Up le (kas_rev pX lo (lo + x)) lo (lo + y))
       (Q:=fun c st'=>st' = st4 /\ ∃ y,c = (none,y) /\ x <= y /\ y <= nrem /\ Up le (kas_rev pX lo (lo + x)) lo (lo + y)) ?s3 ?f3 ?i3) ?p3)
      case i3=>exact ⟨rfl,rfl,x2,U4⟩
      case f3=>
       rintro c st' ⟨rfl,rfl,k1,k2⟩
       exact ⟨rfl,_,rfl,by lia,k1,k2⟩
      case s3=>
       rintro y c st' hy0 hy ⟨rfl,rfl,k1,k2⟩
       dsimp only
       have hs5:=N4.size
       refine OD (gU hc S4 (hp _ N4.1) (by lia) (by lia) ?_)
       dsimp only
       cases cw:lt (at' (kas_rev pX lo (lo + x)) (lo + y)) (at' (kas_rev pX lo (lo + x)) (lo + y - 1)) with
       | true=>
        rw [OC rfl]
        exact OG ⟨rfl,y,rfl,hy0,k1,k2⟩
       | false=>
        rw [OB (by decide)]
        exact OG ⟨rfl,rfl,by lia,Up.succ (b:=lo + y) o k2 (by lia) (o.no _ _ cw)⟩
      case p3=>
       rintro c st' ⟨rfl,y,rfl,y1,y2,U⟩
       exact OG (h y _ st' S4 (by lia) y2 (N4.wide (OH _) (by lia)) U)
     ·rw [OB q0]
      have DX:=D'
      have NX:=N'
      have SX:=S'
      generalize p' = pX at SX DX NX
      refine OD (n6 SX fun st4 S4=>?_)
      have hs4:=NX.size
      have N4:=NX.tr (eN (a:=lo) (b:=lo + x) (by lia))
      have U4:=DX.turn (by lia)
      refine OD (Pm (Pn (I:=fun y c st'=>st' = st4 /\ c = (none,y) /\ y <= nrem /\ Up le (kas_rev pX lo (lo + x)) lo (lo + y))
       (Q:=fun c st'=>st' = st4 /\ ∃ y,c = (none,y) /\ x <= y /\ y <= nrem /\ Up le (kas_rev pX lo (lo + x)) lo (lo + y)) ?s3 ?f3 ?i3) ?p3)
      case i3=>exact ⟨rfl,rfl,x2,U4⟩
      case f3=>
       rintro c st' ⟨rfl,rfl,k1,k2⟩
       exact ⟨rfl,_,rfl,by lia,k1,k2⟩
      case s3=>
       rintro y c st' hy0 hy ⟨rfl,rfl,k1,k2⟩
       dsimp only
       have hs5:=N4.size
       refine OD (gU hc S4 (hp _ N4.1) (by lia) (by lia) ?_)
       dsimp only
       cases cw:lt (at' (kas_rev pX lo (lo + x)) (lo + y)) (at' (kas_rev pX lo (lo + x)) (lo + y - 1)) with
       | true=>
        rw [OC rfl]
        exact OG ⟨rfl,y,rfl,hy0,k1,k2⟩
       | false=>
        rw [OB (by decide)]
        exact OG ⟨rfl,rfl,by lia,Up.succ (b:=lo + y) o k2 (by lia) (o.no _ _ cw)⟩
      case p3=>
       rintro c st' ⟨rfl,y,rfl,y1,y2,U⟩
       exact OG (h y _ st' S4 (by lia) y2 (N4.wide (OH _) (by lia)) U)
  ·rw [OB e2]
   have m11:m = 1:=by lia
   have Sx:=S
   have Dx:Dn le p lo (lo + (m + 1)):=Dn.succ (b:=lo + m) o (fun i j a1 a2 a3=>by
    have:i = j:=by lia
    subst this;exact o.rf _) (by lia) (hd (by lia))
   have Nx:Near p p lo (lo + (m + 1)):=.rf
   obtain ⟨px,hpx⟩:∃ px,px = p:=⟨p,rfl⟩
   rw [<- hpx] at Sx Dx
   replace Nx:Near p px lo (lo + (m + 1)):=by rw [hpx];exact .rf
   refine OD (Qm (PL ⟨rfl,?_⟩))
   refine OD (Pm (Pn (I:=fun x c st'=>∃ q p',c = (none,x,q) /\ Stt κ it st' p' pend /\ Near p p' lo (lo + x) /\ x <= nrem /\ q + 1 <= x /\ Dn le p' lo (lo + x) /\ Es le p' (lo + x - (q + 1)) (lo + x))
    (Q:=fun c st'=>∃ x q p',c = (none,x,q) /\ m + 1 <= x /\ Stt κ it st' p' pend /\ Near p p' lo (lo + x) /\ x <= nrem /\ q + 1 <= x /\ Dn le p' lo (lo + x) /\ Es le p' (lo + x - (q + 1)) (lo + x)) ?s2 ?f2 ?i2) ?p2)
   case i2=>exact ⟨0,px,rfl,Sx,Nx,by lia,by lia,Dx,oJ o (by lia)⟩
   case f2=>
    rintro c st' ⟨q,p',rfl,S',N',k1,k2,D',E'⟩
    exact ⟨_,q,p',rfl,by lia,S',N',k1,k2,D',E'⟩
   case s2=>
    rintro x c st' hx0 hx ⟨q,p',rfl,S',N',k1,k2,D',E'⟩
    dsimp only
    have hs2:=N'.size
    refine OD (gU hc S' (hp _ N'.1) (by lia) (by lia) ?_)
    dsimp only
    cases cw:lt (at' p' (lo + x)) (at' p' (lo + x - 1)) with
    | true=>
     rw [OC rfl]
     have hl:=o.yes _ _ cw
     by_cases q0:q > 0
     ·rw [OC q0]
      refine OD (n6 S' fun st4 S4=>OG ?_)
      have d1:=D'.rev o (by lia) (by lia) E'
      have b1:at' (kas_rev p' (lo + x - (q + 1)) (lo + x)) (lo + x) = at' p' (lo + x):=by rw [bU (by lia),OB (by lia)]
      have b2:at' (kas_rev p' (lo + x - (q + 1)) (lo + x)) (lo + x - 1) = at' p' (lo + x - (q + 1)):=by
       rw [bU (by lia),OC (by lia)]
       congr 1;lia
      exact ⟨0,_,rfl,S4,(N'.tr ((eN (by lia)).wide (by lia) (by lia))).wide (by lia) (by lia),by lia,by lia,Dn.succ (b:=lo + x) o d1 (by lia) (by rw [b1,b2];exact o.tr _ _ _ hl (E' _ (OH _) (by lia)).2),oJ o (by lia)⟩
     ·rw [OB q0]
      exact OG ⟨0,p',rfl,S',N'.wide (by lia) (by lia),by lia,by lia,Dn.succ (b:=lo + x) o D' (by lia) hl,oJ o (by lia)⟩
    | false=>
     rw [OB (by decide)]
     have g1:=o.no _ _ cw
     refine OD (gU hc S' (hp _ N'.1) (by lia) (by lia) ?_)
     dsimp only
     cases cw2:lt (at' p' (lo + x - 1)) (at' p' (lo + x)) with
     | true=>
      rw [OC rfl]
      exact OG ⟨x,q,p',rfl,hx0,S',N',k1,k2,D',E'⟩
     | false=>
      rw [OB (by decide)]
      have g2:=o.no _ _ cw2
      refine OG ⟨q + 1,p',rfl,S',N'.wide (by lia) (by lia),by lia,by lia,Dn.succ (b:=lo + x) o D' (by lia) g2,fun k a1 a2=>?_⟩
      rw [show lo + (x + 1) - 1 = lo + x by lia]
      by_cases hk:k = lo + x
      ·subst hk;exact ⟨o.rf _,o.rf _⟩
      ·obtain ⟨x1,x2⟩:=E' k (by lia) (by lia)
       exact ⟨o.tr _ _ _ x1 g1,o.tr _ _ _ g2 x2⟩
   case p2=>
    rintro c st' ⟨x,q,p',rfl,x1,S',N',x2,x3,D',E'⟩
    dsimp only
    have hs2:=N'.size
    by_cases q0:q > 0
    ·rw [OC q0]
     refine OD (n6 S' fun stX SX=>?_)
     have DX:=D'.rev o (by lia) (by lia) E'
     have NX:=N'.tr ((eN (by lia)).wide (a:=lo + x - (q + 1)) (b:=lo + x) (d:=lo) (e:=lo + x) (by lia) (by lia))
     generalize kas_rev p' (lo + x - (q + 1)) (lo + x) = pX at SX DX NX
     refine OD (n6 SX fun st4 S4=>?_)
     have hs4:=NX.size
     have N4:=NX.tr (eN (a:=lo) (b:=lo + x) (by lia))
     have U4:=DX.turn (by lia)
     refine OD (Pm (Pn (I:=fun y c st'=>st' = st4 /\ c = (none,y) /\ y <= nrem /\ Up le (kas_rev pX lo (lo + x)) lo (lo + y))
      (Q:=fun c st'=>st' = st4 /\ ∃ y,c = (none,y) /\ x <= y /\ y <= nrem /\ Up le (kas_rev pX lo (lo + x)) lo (lo + y)) ?s3 ?f3 ?i3) ?p3)
     case i3=>exact ⟨rfl,rfl,x2,U4⟩
     case f3=>
      rintro c st' ⟨rfl,rfl,k1,k2⟩
      exact ⟨rfl,_,rfl,by lia,k1,k2⟩
     case s3=>
      rintro y c st' hy0 hy ⟨rfl,rfl,k1,k2⟩
      dsimp only
      have hs5:=N4.size
      refine OD (gU hc S4 (hp _ N4.1) (by lia) (by lia) ?_)
      dsimp only
      cases cw:lt (at' (kas_rev pX lo (lo + x)) (lo + y)) (at' (kas_rev pX lo (lo + x)) (lo + y - 1)) with
      | true=>
       rw [OC rfl]
       exact OG ⟨rfl,y,rfl,hy0,k1,k2⟩
      | false=>
       rw [OB (by decide)]
       exact OG ⟨rfl,rfl,by lia,Up.succ (b:=lo + y) o k2 (by lia) (o.no _ _ cw)⟩
     case p3=>
      rintro c st' ⟨rfl,y,rfl,y1,y2,U⟩
      exact OG (h y _ st' S4 (by lia) y2 (N4.wide (OH _) (by lia)) U)
    ·rw [OB q0]
     have DX:=D'
     have NX:=N'
     have SX:=S'
     generalize p' = pX at SX DX NX
     refine OD (n6 SX fun st4 S4=>?_)
     have hs4:=NX.size
     have N4:=NX.tr (eN (a:=lo) (b:=lo + x) (by lia))
     have U4:=DX.turn (by lia)
     refine OD (Pm (Pn (I:=fun y c st'=>st' = st4 /\ c = (none,y) /\ y <= nrem /\ Up le (kas_rev pX lo (lo + x)) lo (lo + y))
      (Q:=fun c st'=>st' = st4 /\ ∃ y,c = (none,y) /\ x <= y /\ y <= nrem /\ Up le (kas_rev pX lo (lo + x)) lo (lo + y)) ?s3 ?f3 ?i3) ?p3)
     case i3=>exact ⟨rfl,rfl,x2,U4⟩
     case f3=>
      rintro c st' ⟨rfl,rfl,k1,k2⟩
      exact ⟨rfl,_,rfl,by lia,k1,k2⟩
     case s3=>
      rintro y c st' hy0 hy ⟨rfl,rfl,k1,k2⟩
      dsimp only
      have hs5:=N4.size
      refine OD (gU hc S4 (hp _ N4.1) (by lia) (by lia) ?_)
      dsimp only
      cases cw:lt (at' (kas_rev pX lo (lo + x)) (lo + y)) (at' (kas_rev pX lo (lo + x)) (lo + y - 1)) with
      | true=>
       rw [OC rfl]
       exact OG ⟨rfl,y,rfl,hy0,k1,k2⟩
      | false=>
       rw [OB (by decide)]
       exact OG ⟨rfl,rfl,by lia,Up.succ (b:=lo + y) o k2 (by lia) (o.no _ _ cw)⟩
     case p3=>
      rintro c st' ⟨rfl,y,rfl,y1,y2,U⟩
      exact OG (h y _ st' S4 (by lia) y2 (N4.wide (OH _) (by lia)) U)
end
section
variable {le:Nat -> Nat -> Prop} {p p':Array Nat} {a b c:Nat}
noncomputable def Rn (le:Nat -> Nat -> Prop) (p:Array Nat):Nat -> List (Nat × Nat × Nat) -> Nat -> Prop
 | a,[],b=>a = b
 | a,e :: es,b=>e.1 = a /\ 1 <= e.2.1 /\ Up le p a (a + e.2.1) /\ Rn le p (a + e.2.1) es b
theorem Rn.len_le:∀ {l:List (Nat × Nat × Nat)} {a:Nat},Rn le p a l b -> a + l.length <= b
 | [],a,h=>by have:a = b:=h;simp [this]
 | e :: es,a,h=>by
  have:=Rn.len_le h.2.2.2
  have:=h.2.1
  simp;lia
theorem Rn.of:∀ {l:List (Nat × Nat × Nat)} {a:Nat},Rn le p a l b -> (∀ k,a <= k -> k < b -> at' p' k = at' p k) -> Rn le p' a l b
 | [],a,h,_=>h
 | e :: es,a,h,k=>⟨h.1,h.2.1,h.2.2.1.of fun i h1 h2=>k i h1 (by have:=Rn.len_le h.2.2.2;lia),Rn.of h.2.2.2 fun i h1 h2=>k i (by lia) h2⟩
theorem Rn.app:∀ {l l':List (Nat × Nat × Nat)} {a:Nat},Rn le p a (l ++ l') b -> ∃ c,Rn le p a l c /\ Rn le p c l' b
 | [],l',a,h=>⟨a,rfl,h⟩
 | e :: es,l',a,h=>by
  obtain ⟨c,h1,h2⟩:=Rn.app h.2.2.2
  exact ⟨c,⟨h.1,h.2.1,h.2.2.1,h1⟩,h2⟩
theorem Rn.put:∀ {l l':List (Nat × Nat × Nat)} {a:Nat},Rn le p a l c -> Rn le p c l' b -> Rn le p a (l ++ l') b
 | [],l',a,h,h2=>by have:a = c:=h;subst this;exact h2
 | e :: es,l',a,h,h2=>⟨h.1,h.2.1,h.2.2.1,Rn.put h.2.2.2 h2⟩
theorem Rn.same:∀ {l l':List (Nat × Nat × Nat)} {a:Nat},(l.map fun e=>(e.1,e.2.1)) = (l'.map fun e=>(e.1,e.2.1)) -> Rn le p a l b -> Rn le p a l' b
 | [],[],a,_,h=>h
 | [],_ :: _,a,h,_=>by simp at h
 | _ :: _,[],a,h,_=>by simp at h
 | e :: es,e' :: es',a,h,k=>by
  simp only [OQ,List.cons.injEq,Prod.mk.injEq] at h
  obtain ⟨⟨h1,h2⟩,h3⟩:=h
  obtain ⟨k1,k2,k3,k4⟩:=k
  rw [h1] at k1
  rw [h2] at k2 k3 k4
  exact ⟨k1,k2,k3,Rn.same h3 k4⟩
theorem Hu {c:Prop} [Decidable c] {k m:Nat} (h:k + 1 < m):(if c then k - 1 else k) + 1 < m:=by split <;> lia
theorem Ks {α:Type} (x z:α) (r:List α):∀ pre:List α,(pre ++ x :: r).set pre.length z = pre ++ z :: r
 | []=>rfl
 | y :: pre=>by simp
theorem EG {α:Type} (z y:α) (r:List α):∀ pre:List α,(pre ++ z :: y :: r).eraseIdx (pre.length + 1) = pre ++ z :: r
 | []=>rfl
 | x :: pre=>by
  have:=EG z y r pre
  simp only [List.cons_append,OL,List.eraseIdx_cons_succ,this]
theorem Kw {α:Type} {l:List α} {i:Nat} (h:i + 1 < l.length):∃ pre x y post,l = pre ++ x :: y :: post /\ pre.length = i:=by
 refine ⟨l.take i,l[i],l[i + 1],l.drop (i + 2),?_,by rw [Qi];lia⟩
 rw [<- Rj h,<- Rj (by lia),RM]
end
section
variable {prog:Program} {w:World} {A:Around} {E:Value -> Shared -> Prop} {s:Shared} {κ:SortKind} {it:Array Keyed} {n:Nat} {lt:Nat -> Nat -> Bool} {le:Nat -> Nat -> Prop} {p:Array Nat} {pend:Array (Nat × Nat × Nat)} {st:SortSt}
theorem pA (o:Ord lt le) (hc:t3 prog w A s κ it n lt) (S:Stt κ it st p pend) (hp:∀ i,i < p.size -> at' p i < n) {i b:Nat} {Q:Bool -> SortSt -> Prop} (hi:i + 1 < pend.size) (R:Rn le p 0 pend.toList b) (hb:b <= p.size)
  (h:∀ p' pend' st',Stt κ it st' p' pend' -> Near p p' 0 b -> Rn le p' 0 pend'.toList b -> pend'.size + 1 = pend.size -> Q true st'):wpS (model prog w) A E s (mergeAt' i) Q st:=by
 obtain ⟨pre,⟨sa,na,pw⟩,⟨sb,nb,q⟩,post,e,hl⟩:=Kw (l:=pend.toList) (i:=i) (by simpa using hi)
 rw [e] at R
 obtain ⟨c,R1,R2⟩:=R.app
 obtain ⟨r1,r2,r3,r4,r5,r6,r7⟩:=R2
 dsimp only at r1 r2 r3 r4 r5 r6 r7
 subst r1
 have hle:=r7.len_le
 have g1:pend[i]? = some (sa,na,pw):=by rw [<- PN,e,QA (by lia)];simp [hl]
 have g2:pend[i + 1]? = some (sb,nb,q):=by rw [<- PN,e,QA (by lia)];simp [hl]
 refine Eb o hc S g1 g2 r4 r2 r5 (by lia) hp (fun i j a1 a2=>r3 _ _ (by lia) (by lia) (by lia)) (fun i j a1 a2=>r6 _ _ (by lia) (by lia) (by lia)) fun p' st' S' so=>?_
 have en:((pend.setIfInBounds i (sa,na + nb,pw)).eraseIdxIfInBounds (i + 1)).toList = pre ++ (sa,na + nb,pw) :: post:=by
  have h2:i + 1 < (pend.setIfInBounds i (sa,na + nb,pw)).size:=by simpa using hi
  rw [Array.eraseIdxIfInBounds,dif_pos h2,Array.toList_eraseIdx,Array.toList_setIfInBounds,e,<- hl]
  rw [Ks,EG]
 have hle1:=R1.len_le
 refine h p' _ st' S' ⟨so.perm,fun k hk=>so.out k (by lia)⟩ ?_ ?_
 ·rw [en]
  refine Rn.put (R1.of fun k _ h2=>so.out k (by lia)) ⟨rfl,by dsimp only;lia,fun i j a1 a2 a3=>so.asc i j a1 a2 a3,?_⟩
  dsimp only
  rw [show sa + (na + nb) = sa + na + nb by lia]
  exact r7.of fun k h1 h2=>so.out k (by lia)
 ·have e4:=OZ List.length en
  have e3:=OZ List.length e
  rw [Ph] at e4 e3
  rw [e4,e3]
  simp only [OM,OL]
  lia
theorem KE (o:Ord lt le) (hc:t3 prog w A s κ it n lt) (S:Stt κ it st p #[]) (hp:∀ p':Array Nat,p'.Perm p -> ∀ i,i < p'.size -> at' p' i < n) {Q:Unit -> SortSt -> Prop}
  (h:∀ p' pend' st',Stt κ it st' p' pend' -> p'.Perm p -> Up le p' 0 p.size -> Q () st'):wpS (model prog w) A E s sortRuns' Q st:=by
 rw [sortRuns'_eq]
 refine OD (PB ?_)
 dsimp only
 rw [S.2.1,Rp]
 generalize minRun' p.size p.size 0 = minrun
 refine OD (Pm (Pn (I:=fun x c st'=>∃ lo p' pend',c = (none,lo) /\ Stt κ it st' p' pend' /\ p'.Perm p /\ Rn le p' 0 pend'.toList lo /\ lo <= p.size /\ x <= lo)
  (Q:=fun c st'=>∃ p' pend',c.1 = none /\ Stt κ it st' p' pend' /\ p'.Perm p /\ Rn le p' 0 pend'.toList p.size) ?s1 ?f1 ?i1) ?p1)
 case i1=>exact ⟨0,p,#[],rfl,S,.refl _,rfl,by lia,by lia⟩
 case f1=>
  rintro c st' ⟨lo,p',pend',rfl,S',P',R',l1,l2⟩
  have:lo = p.size:=by lia
  subst this
  exact ⟨p',pend',rfl,S',P',R'⟩
 case s1=>
  rintro x c st' _ hx ⟨lo,p',pend',rfl,S',P',R',l1,l2⟩
  dsimp only
  by_cases e1:lo ≥ p.size
  ·rw [OC e1]
   have:lo = p.size:=by lia
   subst this
   exact OG ⟨p',pend',rfl,S',P',R'⟩
  rw [OB e1]
  have hs':=P'.size_eq
  refine OD (Iu o hc S' (fun q hq=>hp q (hq.trans P')) (by lia) (by lia) fun m p2 st2 S2 m1 m2 N2 U2=>?_)
  have P2:=N2.1.trans P'
  have hs2:=P2.size_eq
  have R2:Rn le p2 0 pend'.toList lo:=R'.of fun k _ h2=>N2.2 k (.inl h2)
  dsimp only
  by_cases e2:m < minrun
  ·rw [OC e2]
   refine OD (Qm (PL ⟨rfl,?_⟩))
   refine OD (L4 o hc S2 (fun q hq=>hp q (hq.trans P2)) (m:=min (p.size - lo) minrun) (by lia) (by lia) m1 U2 fun p3 st3 S3 N3 U3=>?_)
   replace R2:Rn le p3 0 pend'.toList lo:=R2.of fun k _ h2=>N3.2 k (.inl h2)
   replace P2:=N3.1.trans P2
   replace S2:=S3
   replace U2:=U3
   have hnn:1 <= min (p.size - lo) minrun:=by lia
   have hnn2:lo + min (p.size - lo) minrun <= p.size:=by lia
   clear S3 U3 N3 N2 hs2
   generalize min (p.size - lo) minrun = nn at *
   rw [OB (by decide)]
   clear st2 p2
   generalize p3 = p2 at *
   generalize st3 = st2 at *
   refine OD (PB ?_)
   rw [S2.2.2.1]
   cases hbk:pend'.back? with
   | none=>
    dsimp only
    refine OD (Pu (OG ⟨lo + nn,p2,pend'.push (lo,nn,0),rfl,⟨S2.1,S2.2.1,?_,S2.2.2.2⟩,P2,?_,by lia,by lia⟩))
    ·show (pendingOf st2).push _ = _
     rw [S2.2.2.1]
    ·rw [Qn]
     exact R2.put ⟨rfl,hnn,U2,rfl⟩
   | some e=>
    obtain ⟨s1,n1,z1⟩:=e
    dsimp only
    generalize power' _ _ _ _ = pw
    refine OD (Pm (Pn (I:=fun y c st3=>c = (none,()) /\ ∃ p3 pend3,Stt κ it st3 p3 pend3 /\ p3.Perm p /\ Rn le p3 0 pend3.toList lo /\ Up le p3 lo (lo + nn))
     (Q:=fun c st3=>c = (none,()) /\ ∃ p3 pend3,Stt κ it st3 p3 pend3 /\ p3.Perm p /\ Rn le p3 0 pend3.toList lo /\ Up le p3 lo (lo + nn)) ?s2 ?f2 ?i2) ?p2)
    case i2=>exact ⟨rfl,p2,pend',S2,P2,R2,U2⟩
    case f2=>exact fun c st3 h=>h
    case s2=>
     rintro y c st3 _ hy ⟨rfl,p3,pend3,S3,P3,R3,U3⟩
     refine OD (PB ?_)
     rw [S3.2.2.1]
     by_cases c1:pend3.size > 1
     ·rw [OC c1]
      cases hg:pend3[pend3.size - 2]? with
      | none=>exact OG ⟨rfl,p3,pend3,S3,P3,R3,U3⟩
      | some e=>
       obtain ⟨z2,z3,older⟩:=e
       dsimp only
       by_cases c2:older <= pw
       ·rw [OC c2]
        exact OG ⟨rfl,p3,pend3,S3,P3,R3,U3⟩
       ·rw [OB c2]
        have hs3:=P3.size_eq
        refine OD (pA o hc S3 (hp _ P3) (i:=pend3.size - 2) (by lia) R3 (by lia) fun p4 pend4 st4 S4 N4 R4 _=>?_)
        exact OG ⟨rfl,p4,pend4,S4,N4.1.trans P3,R4,U3.of fun i h1 h2=>N4.2 i (.inr h1)⟩
     ·rw [OB c1]
      exact OG ⟨rfl,p3,pend3,S3,P3,R3,U3⟩
    case p2=>
     rintro c st3 ⟨rfl,p3,pend3,S3,P3,R3,U3⟩
     dsimp only
     refine OD (Pu (OD (Pu (OG ⟨lo + nn,p3,(pend3.modify (pend3.size - 1) fun e=>(e.1,e.2.1,pw)).push (lo,nn,0),rfl,⟨S3.1,S3.2.1,?_,S3.2.2.2⟩,P3,?_,by lia,by lia⟩))))
     ·show ((pendingOf st3).modify ((pendingOf st3).size - 1) _).push _ = _
      rw [S3.2.2.1]
     ·rw [Qn]
      refine Rn.put (R3.same ?_) ⟨rfl,hnn,U3,rfl⟩
      apply QV
      intro k
      rw [O6,O6,PN,PN,Array.getElem?_modify]
      split
      ·cases pend3[k]? <;> rfl
      ·rfl
  ·rw [OB e2]
   have hnn:=m1
   have hnn2:lo + m <= p.size:=by lia
   refine OD (PB ?_)
   rw [S2.2.2.1]
   cases hbk:pend'.back? with
   | none=>
    dsimp only
    refine OD (Pu (OG ⟨lo + m,p2,pend'.push (lo,m,0),rfl,⟨S2.1,S2.2.1,?_,S2.2.2.2⟩,P2,?_,by lia,by lia⟩))
    ·show (pendingOf st2).push _ = _
     rw [S2.2.2.1]
    ·rw [Qn]
     exact R2.put ⟨rfl,hnn,U2,rfl⟩
   | some e=>
    obtain ⟨s1,n1,z1⟩:=e
    dsimp only
    generalize power' _ _ _ _ = pw
    refine OD (Pm (Pn (I:=fun y c st3=>c = (none,()) /\ ∃ p3 pend3,Stt κ it st3 p3 pend3 /\ p3.Perm p /\ Rn le p3 0 pend3.toList lo /\ Up le p3 lo (lo + m))
     (Q:=fun c st3=>c = (none,()) /\ ∃ p3 pend3,Stt κ it st3 p3 pend3 /\ p3.Perm p /\ Rn le p3 0 pend3.toList lo /\ Up le p3 lo (lo + m)) ?s2 ?f2 ?i2) ?p2)
    case i2=>exact ⟨rfl,p2,pend',S2,P2,R2,U2⟩
    case f2=>exact fun c st3 h=>h
    case s2=>
     rintro y c st3 _ hy ⟨rfl,p3,pend3,S3,P3,R3,U3⟩
     refine OD (PB ?_)
     rw [S3.2.2.1]
     by_cases c1:pend3.size > 1
     ·rw [OC c1]
      cases hg:pend3[pend3.size - 2]? with
      | none=>exact OG ⟨rfl,p3,pend3,S3,P3,R3,U3⟩
      | some e=>
       obtain ⟨z2,z3,older⟩:=e
       dsimp only
       by_cases c2:older <= pw
       ·rw [OC c2]
        exact OG ⟨rfl,p3,pend3,S3,P3,R3,U3⟩
       ·rw [OB c2]
        have hs3:=P3.size_eq
        refine OD (pA o hc S3 (hp _ P3) (i:=pend3.size - 2) (by lia) R3 (by lia) fun p4 pend4 st4 S4 N4 R4 _=>?_)
        exact OG ⟨rfl,p4,pend4,S4,N4.1.trans P3,R4,U3.of fun i h1 h2=>N4.2 i (.inr h1)⟩
     ·rw [OB c1]
      exact OG ⟨rfl,p3,pend3,S3,P3,R3,U3⟩
    case p2=>
     rintro c st3 ⟨rfl,p3,pend3,S3,P3,R3,U3⟩
     dsimp only
     refine OD (Pu (OD (Pu (OG ⟨lo + m,p3,(pend3.modify (pend3.size - 1) fun e=>(e.1,e.2.1,pw)).push (lo,m,0),rfl,⟨S3.1,S3.2.1,?_,S3.2.2.2⟩,P3,?_,by lia,by lia⟩))))
     ·show ((pendingOf st3).modify ((pendingOf st3).size - 1) _).push _ = _
      rw [S3.2.2.1]
     ·rw [Qn]
      refine Rn.put (R3.same ?_) ⟨rfl,hnn,U3,rfl⟩
      apply QV
      intro k
      rw [O6,O6,PN,PN,Array.getElem?_modify]
      split
      ·cases pend3[k]? <;> rfl
      ·rfl
 case p1=>
  rintro ⟨c,c'⟩ st' ⟨p',pend',hc1,S',P',R'⟩
  dsimp only at hc1
  subst hc1
  dsimp only
  refine OD (Pm (Pn (I:=fun x c st'=>∃ p' pend',c = (none,()) /\ Stt κ it st' p' pend' /\ p'.Perm p /\ Rn le p' 0 pend'.toList p.size /\ pend'.size + x <= p.size)
   (Q:=fun c st'=>∃ p' pend',c = (none,()) /\ Stt κ it st' p' pend' /\ p'.Perm p /\ Rn le p' 0 pend'.toList p.size /\ pend'.size <= 1) ?s5 ?f5 ?i5) ?p5)
  case i5=>exact ⟨p',pend',rfl,S',P',R',by have:=R'.len_le;rw [Ph] at this;lia⟩
  case f5=>
   rintro c st' ⟨p',pend',rfl,S',P',R',hl⟩
   exact ⟨p',pend',rfl,S',P',R',by lia⟩
  case s5=>
   rintro x c st' _ hx ⟨p',pend',rfl,S',P',R',hl⟩
   refine OD (PB ?_)
   rw [S'.2.2.1]
   by_cases e1:pend'.size <= 1
   ·rw [OC e1]
    exact OG ⟨p',pend',rfl,S',P',R',e1⟩
   rw [OB e1]
   have hs':=P'.size_eq
   refine OD (pA o hc S' (hp _ P') ?_ R' (by lia) fun p4 pend4 st4 S4 N4 R4 h4=>?_)
   ·exact Hu (by lia)
   ·exact OG ⟨p4,pend4,rfl,S4,N4.1.trans P',R4,by lia⟩
  case p5=>
   rintro c st' ⟨p',pend',rfl,S',P',R',hl⟩
   refine OG (h p' pend' st' S' P' ?_)
   cases hq:pend'.toList with
   | nil=>
    rw [hq] at R'
    have:0 = p.size:=R'
    intro i j _ _ h3
    lia
   | cons e es=>
    cases es with
    | nil=>
     rw [hq] at R'
     obtain ⟨r1,r2,r3,r4⟩:=R'
     have r4':0 + e.2.1 = p.size:=r4
     rw [<- r4']
     exact r3
    | cons e2 es=>
     have:=OZ List.length hq
     rw [Ph] at this
     simp at this
     lia
end
section
variable {prog:Program} {w:World} {A:Around} {E:Value -> Shared -> Prop} {s:Shared}
structure Known (prog:Program) (w:World) (s:Shared) (vs:List Value) (κ:SortKind) (lt:Nat -> Nat -> Bool):Prop where
 kind:∀ (A:Around) (E:Value -> Shared -> Prop) (h':Heap) (Q:SortKind -> Shared -> Prop),(∀ b o,s.heap.get? b = some o -> h'.get? b = some o) -> 2 <= vs.length -> Q κ { s with heap:=h' } -> wpAny (model prog w) A (keyKind' vs.toArray) Q E { s with heap:=h' }
 ask:∀ (A:Around) (h':Heap) (i j:Nat) (C:Bool -> Shared -> Prop),(∀ b o,s.heap.get? b = some o -> h'.get? b = some o) -> i < vs.length -> j < vs.length -> C (lt i j) { s with heap:=h' } -> kas_ask prog w A κ vs i j C { s with heap:=h' }
theorem Known.on {vs:List Value} {κ:SortKind} {lt:Nat -> Nat -> Bool} {h:Heap} (k:Known prog w s vs κ lt) (hk:∀ b o,s.heap.get? b = some o -> h.get? b = some o):Known prog w { s with heap:=h } vs κ lt:=
 ⟨fun A E h' Q h2=>k.kind A E h' Q fun b o e=>h2 b o (hk b o e),fun A h' i j C h2=>k.ask A h' i j C fun b o e=>h2 b o (hk b o e)⟩
noncomputable def gL (vs:List Value) (p:Array Nat):Array Value:=(p.toList.map fun i=>vs.getD i Value.none).toArray
theorem A9 {vs:List Value} {p:Array Nat} (h:p.size = vs.length):(gL vs p).size = vs.length:=by
 unfold gL;simp [h]
theorem y9 {vs:List Value}:gL vs (List.range vs.length).toArray = vs.toArray:=by
 unfold gL
 congr 1
 apply List.ext_getElem
 ·simp
 ·intro i h1 h2
  simp at h1
  simp [h1]
theorem G1 {le:Nat -> Nat -> Prop} (rf:∀ a,le a a) {n:Nat} (h:n < 2) (p:Array Nat):Asc le p n:=fun i j hij hj=>by
 have e:i = j:=by lia
 subst e;exact rf _
theorem yM {a:Addr} {vs:List Value} {n:Nat} {κ:SortKind} {lt:Nat -> Nat -> Bool} {le:Nat -> Nat -> Prop} {P:PySem.Fin -> Shared -> Prop} (o:Ord lt le) (ho:s.heap.get? a = some (seqObj "list" vs.toArray n)) (hN:vs.length <= sizeLine)
  (hk:∀ h',(∀ b o,b ≠ a -> s.heap.get? b = some o -> h'.get? b = some o) -> Known prog w { s with heap:=h' } vs κ lt)
  (h:∀ p:Array Nat,p.Perm (List.range vs.length).toArray -> Asc le p vs.length -> P (.done (.ret .none)) { s with heap:=sortedHeap s.heap a vs (gL vs p) }):wpAny (model prog w) A (Builtin.«list.sort» ⟨[.ref a],[]⟩) P E s:=by
 have ha:a < s.heap.objs.size:=OS ho
 obtain ⟨e1,ho1⟩:∃ e1,(s.heap.update a (Obj.mapSeq fun _=>#[])).get? a = some (seqObj "list" #[] e1):=⟨_,get?_update_seq ho fun _=>#[]⟩
 have ne1:a ≠ ((s.heap.update a (Obj.mapSeq fun _=>#[])).push (seqObj "tuple" vs.toArray 0)).objs.size:=by rw [size_push',Heap.size_update];exact OX (QR ha)
 have ne2:a ≠ (s.heap.update a (Obj.mapSeq fun _=>#[])).objs.size:=by rw [Heap.size_update];exact OX ha
 have ho6:(((s.heap.update a (Obj.mapSeq fun _=>#[])).push (seqObj "tuple" vs.toArray 0)).push (seqObj "list" #[] 0)).get? a = some (seqObj "list" #[] e1):=by rw [Heap.get?_push_ne _ _ _ ne1,Heap.get?_push_ne _ _ _ ne2,ho1]
 have keep:∀ b q,b ≠ a -> s.heap.get? b = some q -> (((s.heap.update a (Obj.mapSeq fun _=>#[])).push (seqObj "tuple" vs.toArray 0)).push (seqObj "list" #[] 0)).get? b = some q:=fun b q hb hq=>
  OT _ (OT _ ((PV _ _ _ _ hb).trans hq))
 have K:=hk _ keep
 rw [list_sort_plain];refine OA (listItems_at ho rfl (OA (listUpdate_at ho rfl (OA (seqEpoch_at ho1 rfl (OA (wpAny_newTuple (OA (wpAny_newList (Pp ?_))))))))))
 dsimp only
 have hn:vs.toArray.size = vs.length:=by simp
 have fin:∀ (p:Array Nat) (st:SortSt),p.Perm (List.range vs.length).toArray -> Asc le p vs.length -> (arrOf st).map (·.2) = gL vs p -> failedOf st = none ->
   wpAny (model prog w) A (do
    let touched:=(← seqEpoch a) != e1
    Builtin.List.listUpdate (.ref a) fun _=>(arrOf st).map (·.2)
    if let some e:=failedOf st then rule "list.sort.comparison-raised"; throw e
    if touched then rule "list.sort.modified"; raiseError "ValueError" "list modified during sort"
    ret .none) P E { s with heap:=((s.heap.update a (Obj.mapSeq fun _=>#[])).push (seqObj "tuple" vs.toArray 0)).push (seqObj "list" #[] 0) }:=fun p st hp hs ho2 hf=>by
  have hz:(gL vs p).size <= sizeLine + 1:=by
   rw [A9 (by rw [hp.size_eq];simp)];lia
  rw [ho2,hf]
  refine OA (seqEpoch_at ho6 rfl (OA (listUpdate_at ho6 rfl ?_ (hsz2:=hz))))
  simp only [bne_self_eq_false,Bool.false_eq_true,Qj]
  exact OE (h p hp hs)
 by_cases h2:vs.toArray.size < 2
 ·rw [OC h2,OC h2]
  refine OA (OE ?_)
  rw [StateT.run_pure]
  refine OA (OE (fin (List.range vs.length).toArray _ (Array.Perm.refl _) (G1 o.rf (by lia) _) ?_ rfl))
  rw [y9]
  show ((vs.toArray.zip vs.toArray).map (·.2)) = vs.toArray
  apply Array.ext
  ·simp
  ·intro i h1 h2;simp
 ·rw [OB h2,OB h2]
  refine OA (K.kind _ _ _ _ (fun _ _ e=>e) (by lia) ?_)
  have pos:0 < vs.length:=by lia
  have perm0:∀ p':Array Nat,p'.Perm (List.range vs.length).toArray -> ∀ i,i < p'.size -> at' p' i < vs.length:=fun p' h' i _=>Jy pos h' i
  have esz:(vs.toArray.zip vs.toArray).size = vs.length:=by simp
  have er:=kas_range (vs.toArray.zip vs.toArray)
  rw [esz] at er
  have run:=KE (prog:=prog) (w:=w) (A:=A) (E:=E) (κ:=κ) (it:=vs.toArray.zip vs.toArray) (n:=vs.length) (lt:=lt) (le:=le) (p:=(List.range vs.length).toArray) (st:=SortSt.mk' κ (vs.toArray.zip vs.toArray) #[] 7 none)
   (s:={ s with heap:=((s.heap.update a (Obj.mapSeq fun _=>#[])).push (seqObj "tuple" vs.toArray 0)).push (seqObj "list" #[] 0) })
   (Q:=fun _ st=>∃ p:Array Nat,(arrOf st).map (·.2) = gL vs p /\ failedOf st = none /\ p.Perm (List.range vs.length).toArray /\ Asc le p vs.length) o
   (fun i j C hi hj hc=>by rw [<- kat_ask_eq (ks:=vs) (vs:=vs) rfl];exact K.ask _ _ i j C (fun _ _ e=>e) hi hj hc) ⟨rfl,er.symm,rfl,rfl⟩ perm0
   (fun p' pend' st' S' hp hu=>⟨p',kat_snds rfl S'.2.1,S'.2.2.2,hp,fun i j hij hj=>hu i j (Pl _) hij (by simpa using hj)⟩)
  refine OA (PZ run (fun r s' hr=>?_) fun _ _ e=>e)
  ·obtain ⟨rfl,p,e2,hf,hp,hs⟩:=hr
   exact fin p r.2 hp hs e2 hf
theorem vY {l:Addr} {vs:List Value} {κ:SortKind} {lt:Nat -> Nat -> Bool} {le:Nat -> Nat -> Prop} {Q:Value -> Shared -> Prop} (o:Ord lt le) (hl:s.heap.IsList l vs.toArray) (hN:vs.length <= sizeLine) (hk:Known prog w s vs κ lt)
  (h:∀ p:Array Nat,p.Perm (List.range vs.length).toArray -> Asc le p vs.length -> Q (.ref (s.heap.objs.size + 1)) { s with heap:=sortedAll s.heap vs (gL vs p) }):wpAny (model prog w) A (call (.builtin "sorted") [.ref l]) Q E s:=by
 have hz:vs.length <= sizeLine:=hN
 have sz:((s.heap.push (seqObj "list" #[] 0)).update s.heap.objs.size (Obj.mapSeq (· ++ vs.toArray))).objs.size = s.heap.objs.size + 1:=by rw [Heap.size_update,size_push']
 have at1:(((s.heap.push (seqObj "list" #[] 0)).update s.heap.objs.size (Obj.mapSeq (· ++ vs.toArray))).push (seqObj "list" vs.toArray 0)).get? (s.heap.objs.size + 1) = some (seqObj "list" vs.toArray 0):=by rw [<- sz];exact O3 _ rfl
 have old:∀ b q,s.heap.get? b = some q -> b ≠ s.heap.objs.size + 1 /\ (((s.heap.push (seqObj "list" #[] 0)).update s.heap.objs.size (Obj.mapSeq (· ++ vs.toArray))).push (seqObj "list" vs.toArray 0)).get? b = some q:=fun b q e=>by
  have hb:=OS e
  refine ⟨OX (QR hb),OT _ ?_⟩
  rw [PV _ _ _ _ (OX hb)]
  exact OT _ e
 refine Calls.call_function_entry kind_sorted plain_sorted entry_sorted (args_sorted1 (.ref l)) ?_;unfold Builtin.«sorted»
 refine OA (m:=checkCount "sorted" 1 1 _) (OE (OA (collect_list hl (OA (wpAny_newList ?_ hz)) hz)))
 show wpAny (model prog w) _ _ _ _ { s with heap:=((s.heap.push (seqObj "list" #[] 0)).update s.heap.objs.size (Obj.mapSeq (· ++ vs.toArray))).push (seqObj "list" vs.toArray 0) }
 rw [sz]
 refine OA (Pp (PR slot_list_sort ⟨_,at1,rfl⟩ entry_list_sort (yM (κ:=κ) (le:=le) o at1 hN (fun h' kp=>?_) fun p hp hs=>⟨_,rfl,OE ⟨_,rfl,h p hp hs⟩⟩) (args_list_sort _)))
 exact hk.on fun b q e=>kp b q (old b q e).1 (old b q e).2
end
section
variable {prog:Program} {w:World} {A:Around} {E:Value -> Shared -> Prop} {s:Shared}
noncomputable def gH:List Int -> List Int -> Bool
 | [],[]=>false
 | [],_ :: _=>true
 | _ :: _,[]=>false
 | x :: xs,y :: ys=>if x = y then gH xs ys else decide (x < y)
theorem pN:∀ a:List Int,gH a a = false
 | []=>rfl
 | x :: xs=>by unfold gH;rw [OC rfl];exact pN xs
theorem sC:∀ a b:List Int,gH a b = true -> gH b a = false
 | [],[],h=>by unfold gH at h;cases h
 | [],_ :: _,_=>by unfold gH;rfl
 | _ :: _,[],h=>by unfold gH at h;cases h
 | x :: xs,y :: ys,h=>by
  unfold gH at h ⊢
  by_cases e:x = y
  ·rw [OC e] at h;rw [OC e.symm];exact sC xs ys h
  ·rw [OB e] at h
   rw [OB (O8 e)]
   have:=Qp h
   exact Pf (by lia)
theorem sD:∀ a b c:List Int,gH b a = false -> gH c b = false -> gH c a = false
 | [],_,[],_,_=>rfl
 | [],[],_ :: _,_,h=>by unfold gH at h;cases h <;> rfl
 | [],_ :: _,_ :: _,_,_=>by unfold gH;rfl
 | _ :: _,[],_,h,_=>by unfold gH at h;cases h
 | x :: xs,y :: ys,[],_,h=>by unfold gH at h;cases h
 | x :: xs,y :: ys,z :: zs,h1,h2=>by
  unfold gH at h1 h2 ⊢
  by_cases e1:y = x
  ·rw [OC e1] at h1
   by_cases e2:z = y
   ·rw [OC e2] at h2
    rw [OC (e2.trans e1)]
    exact sD xs ys zs h1 h2
   ·rw [OB e2] at h2
    rw [OB (by lia)]
    have:=Pv h2
    exact Pf (by lia)
  ·rw [OB e1] at h1
   have g1:=Pv h1
   by_cases e2:z = y
   ·rw [OB (by lia)]
    exact Pf (by lia)
   ·rw [OB e2] at h2
    have g2:=Pv h2
    rw [OB (by lia)]
    exact Pf (by lia)
theorem Fc (f:Nat -> List Int):Ord (fun i j=>gH (f i) (f j)) (fun i j=>gH (f j) (f i) = false):=
 ⟨fun a b c h1 h2=>sD _ _ _ h1 h2,fun a=>pN _,fun a b h=>sC _ _ h,fun a b h=>h⟩
def KP (h:Heap) (v:Value) (ns:List Int):Prop:=∃ a o xs n,v = .ref a /\ h.get? a = some o /\ o.cls = .type "tuple" /\ o.data = .seq xs n /\ IntsAre xs.toList ns
theorem HB:∀ (xs ys:List Value) (ns ms:List Int) (i:Nat) (fin:Bool) (Q:Bool -> Shared -> Prop),IntsAre xs ns -> IntsAre ys ms -> (fin = decide (xs.length < ys.length)) -> Q (gH ns ms) s ->
  KatLex prog w A true fin Q (xs.zip ys) i s:=by
 intro xs
 induction xs with
 | nil=>
  intro ys ns ms i fin Q hx hy hf hq
  cases hx
  rw [List.zip_nil_left]
  show Q fin s
  rw [hf]
  cases hy with
  | nil=>exact hq
  | cons b u ty=>exact hq
 | cons x xs ih=>
  intro ys ns ms i fin Q hx hy hf hq
  cases hx with
  | cons a t tx=>
   cases hy with
   | nil=>
    rw [List.zip_nil_right]
    show Q fin s
    rw [hf]
    exact hq
   | @cons c u ys' ms' ty=>
    rw [Rq]
    refine kat_cons ((SeqAt.EqAt.int_int a t c u) prog w _ _ ?_)
    unfold gH at hq
    by_cases e:a = c
    ·rw [OC e] at hq
     have eb:(a == c) = true:=by simpa using e
     rw [eb]
     exact kat_yes (ih ys' _ ms' (i + 1) fin Q tx ty (by rw [hf];simp) hq)
    ·rw [OB e] at hq
     have eb:(a == c) = false:=by simpa using e
     rw [eb]
     refine kat_no ?_
     cases q:i == 0 with
     | true=>exact oneLt_int hq
     | false=>exact kat_one _ _ (lt_int hq)
theorem AO {vs:List Value} {f:Nat -> List Int} (hv:∀ i,i < vs.length -> KP s.heap (vs.getD i Value.none) (f i) /\ f i ≠ []):Known prog w s vs (tuples' true) fun i j=>gH (f i) (f j):=by
 refine ⟨fun A E h' Q hk h2 hq=>?_,fun A h' i j C hk hi hj hc=>?_⟩
 ·have hv':∀ v ∈ vs,∃ n t fj a o xs k,v = .ref a /\ h'.get? a = some o /\ o.cls = .type "tuple" /\ o.data = .seq xs k /\ xs.toList = Value.int n t :: fj:=fun v hm=>by
   obtain ⟨i,hi,e⟩:=List.getElem_of_mem hm
   obtain ⟨⟨a,o,xs,k,e1,e2,e3,e4,e5⟩,ne⟩:=hv i hi
   have ev:vs.getD i Value.none = v:=by rw [Sh,P0 hi];exact e
   rw [ev] at e1
   revert e5 ne
   generalize f i = ns
   generalize ex:xs.toList = L
   intro ne e5
   cases e5 with
   | nil=>exact absurd rfl ne
   | @cons n t vs' ns' tl=>exact ⟨n,t,vs',a,o,xs,k,e1,hk _ _ e2,e3,e4,ex⟩
  have fs:∀ L:List Value,(∀ v ∈ L,∃ n t fj a o xs k,v = .ref a /\ h'.get? a = some o /\ o.cls = .type "tuple" /\ o.data = .seq xs k /\ xs.toList = Value.int n t :: fj) -> ∃ gs,KatTups h' L gs /\ gs.length = L.length /\ ∀ v ∈ gs,∃ n t,v = Value.int n t:=by
   intro L
   induction L with
   | nil=>exact fun _=>⟨[],.nil,rfl,fun _ h=>(by cases h)⟩
   | cons v L ih=>
    intro hL
    obtain ⟨gs,g1,g2,g3⟩:=ih fun u hu=>hL u (OK _ hu)
    obtain ⟨n,t,fj,a,o,xs,k,rfl,e2,e3,e4,e5⟩:=hL v OI
    refine ⟨.int n t :: gs,.cons e2 e3 e4 (by rw [<- PN,e5];rfl) g1,by rw [OL,OL,g2],fun u hu=>?_⟩
    rcases OP.mp hu with rfl | hu
    ·exact ⟨n,t,rfl⟩
    ·exact g3 u hu
  obtain ⟨gs,g1,g2,g3⟩:=fs vs hv'
  refine kat_kind (s:={ s with heap:=h' }) (T:=.type "int") g1 (by lia) (fun v hm=>?_) (by decide) hq
  obtain ⟨n,t,rfl⟩:=g3 v hm
  exact Looks.of_pure rfl
 ·obtain ⟨⟨a,o,xs,k,e1,e2,e3,e4,e5⟩,_⟩:=hv i hi
  obtain ⟨⟨a',o',xs',k',e1',e2',e3',e4',e5'⟩,_⟩:=hv j hj
  unfold kas_ask
  rw [e1,e1']
  refine kat_lt (s:={ s with heap:=h' }) (hk _ _ e2) e4 (hk _ _ e2') e4' ?_
  refine HB (s:={ s with heap:=h' }) _ _ _ _ _ _ _ e5 e5' ?_ hc
  simp
theorem qU:∀ {vs:List Value} {ns:List Int},IntsAre vs ns -> ∀ i,i < vs.length -> ∃ t,vs.getD i Value.none = .int (ns.getD i 0) t
 | _,_,.nil,i,h=>by simp at h
 | _,_,.cons n t _,0,_=>⟨t,rfl⟩
 | _,_,.cons n t tl,i + 1,h=>by
  obtain ⟨u,e⟩:=qU tl i (by simpa using h)
  exact ⟨u,by simpa using e⟩
theorem su {vs:List Value} {ns:List Int} (hI:IntsAre vs ns):Known prog w s vs oneType' fun i j=>decide (ns.getD i 0 < ns.getD j 0):=by
 refine ⟨fun A E h' Q hk h2 hq=>?_,fun A h' i j C hk hi hj hc=>?_⟩
 ·rw [ksk_kind (keys:=vs.toArray) (kz:=ns) (by simpa using hI) (by simpa using h2)]
  exact OE hq
 ·obtain ⟨t,e1⟩:=qU hI i hi
  obtain ⟨u,e2⟩:=qU hI j hj
  unfold kas_ask
  rw [e1,e2,keyLt'_oneType]
  exact oneLt_int hc
theorem y8 (f:Nat -> Int):Ord (fun i j=>decide (f i < f j)) (fun i j=>f i <= f j):=
 ⟨fun _ _ _ h k=>Int.le_trans h k,fun _=>Pi _,fun a b h=>Int.le_of_lt (Qp h),fun a b h=>by have:=Pv h;show f b <= f a;lia⟩
theorem fR {vs:List Value} {ns:List Int} (hI:IntsAre vs ns):∀ L:List Nat,(∀ i ∈ L,i < vs.length) -> IntsAre (L.map fun i=>vs.getD i Value.none) (L.map fun i=>ns.getD i 0)
 | [],_=>.nil
 | i :: L,h=>by
  obtain ⟨t,e⟩:=qU hI i (h i OI)
  rw [OQ,OQ,e]
  exact .cons _ t (fR hI L fun j hj=>h j (OK _ hj))
theorem sj:∀ {vs:List Value} {ns:List Int},IntsAre vs ns -> vs.length = ns.length
 | _,_,.nil=>rfl
 | _,_,.cons n t tl=>by rw [OL,OL,sj tl]
theorem xD {l:Addr} {vs:List Value} {ns:List Int} {Q:Value -> Shared -> Prop} (hl:s.heap.IsList l vs.toArray) (hI:IntsAre vs ns) (hN:vs.length <= sizeLine)
  (h:∀ (out:Array Value) ms,IntsAre out.toList ms -> ms.Perm ns -> ms.Pairwise (· <= ·) -> Q (.ref (s.heap.objs.size + 1)) { s with heap:=sortedAll s.heap vs out }):wpAny (model prog w) A (call (.builtin "sorted") [.ref l]) Q E s:=by
 refine vY (y8 fun i=>ns.getD i 0) hl hN (su hI) fun p hp ha=>?_
 have e:=sj hI
 have hb:∀ i ∈ p.toList,i < vs.length:=fun i hi=>by simpa using (QS.mp hp).mem_iff.mp hi
 rw [e] at hp ha
 obtain ⟨p1,p2⟩:=xj (vs:=ns) (d:=0) hp ha
 exact h (gL vs p) _ (by simpa [gL] using fR hI p.toList hb) p1 (p2 _ fun i j _ _ h=>h)
end
end Srt
namespace L2
open PySem
noncomputable def Kc (K:W.Frag):List V -> Hp -> VK -> Prop:=fun xs H Q=>∃ p ys,xs = [.ref p] /\ ((SqL K H p ys /\ ∀ l,H l = none -> Q (.ref l) (upd H l (.tup ys))) \/ (SqT K H p ys /\ Q (.ref p) H))
noncomputable def Lo (K:W.Frag):List V -> Hp -> VK -> Prop:=fun xs H Q=>∃ p ys,xs = [.ref p] /\ (SqL K H p ys \/ SqT K H p ys) /\ ∀ l,H l = none -> Q (.ref l) (upd H l (.lst ys))
noncomputable def Lp:List V -> Hp -> VK -> Prop:=fun xs H Q=>∃ i j,xs = [.int i,.int j] /\ Q (.int (if j > i then j else i)) H
noncomputable def Lk:List V -> Hp -> VK -> Prop:=fun xs H Q=>(∃ i,xs = [.int i] /\ Q (.int i) H) \/ ∃ k,xs = [.bl k] /\ Q (.int (if k then 1 else 0)) H
noncomputable def My:R2:=fun x y H Q=>y = .non /\ Q (.bl (decide (x = .non))) H
noncomputable def LV (K:W.Frag) (ta:TE):TT:=fun σ H Q=>ta σ H fun x H'=>∃ k,Eh K x H' k /\ Q k H'
noncomputable def zn (K:W.Frag):List V -> Hp -> VK -> Prop:=fun xs H Q=>∃ p,∃ ns:List Int,xs = [.ref p] /\ SqL K H p (ns.map V.int) /\ ns.length < 30000 /\
 ∀ (ms:List Int) l,ms.Perm ns -> ms.Pairwise (· <= ·) -> H l = none -> Q (.ref l) (upd H l (.lst (ms.map V.int)))
noncomputable def IY (K:W.Frag):List V -> Hp -> VK -> Prop:=fun xs H Q=>∃ p,∃ ns:List Int,xs = [.ref p] /\ SqL K H p (ns.map V.int) /\ Q (.int ns.sum) H
noncomputable def JL (K:W.Frag) (tl:TE):TI:=fun σ H R=>tl σ H fun x H1=>∃ a,x = .ref a /\ (((∃ xs,SqL K H1 a xs) /\ R (Itl K a) H1) \/ ((∃ xs,SqT K H1 a xs) /\ R (Itt K a) H1))
end L2
namespace M
open PySem L2
inductive D where
 | non | bl (b:Bool) | int (i:Int) | str (x:Str) | ty (n:String) | lst (l:List D) | tup (l:List D) | scr (l:List D) | ins (N:Str) (ns:List Str) (l:List D) | dic (ks:List (List Int)) | dif (ks:List (List Int)) | mtp (l:List D)
 deriving Inhabited
theorem cR {S S':Hp} (s:Same S S') {a:Addr} {u:HO} (h:Rd S a u):Rd S' a u:=h.elim (fun e=>.inl (s _ _ e)) fun ⟨o,e⟩=>.inr ⟨o,s _ _ e⟩
theorem dP {K:W.Frag} {S S':Hp} (s:Same S S') {a:Addr} {xs:List V} (h:SqL K S a xs):SqL K S' a xs:=h.elim (fun e=>.inl (cR s e)) .inr
theorem ba {K:W.Frag} {S S':Hp} (s:Same S S') {a:Addr} {xs:List V} (h:SqT K S a xs):SqT K S' a xs:=h.elim (fun e=>.inl (cR s e)) .inr
def TpA (K:W.Frag) (S:Hp) (a:Addr) (xs:List V):Prop:=S a = some (.tup xs)
theorem TpA.of {K:W.Frag} {S:Hp} {a:Addr} {xs:List V} (h:S a = some (.tup xs)):TpA K S a xs:=h
theorem TpA.sq {K:W.Frag} {S:Hp} {a:Addr} {xs:List V} (h:TpA K S a xs):SqT K S a xs:=SqT.of h
theorem TpA.mono {K:W.Frag} {S S':Hp} (s:Same S S') {a:Addr} {xs:List V} (h:TpA K S a xs):TpA K S' a xs:=s _ _ h
noncomputable def bn (ks:List (List Int)):List (List Key × V):=ks.map fun k=>(k.map Sum.inl,V.bl true)
mutual
noncomputable def Den (K:W.Frag) (S:Hp):D -> V -> Prop
 | .non,v=>v = .non
 | .bl b,v=>v = .bl b
 | .int i,v=>v = .int i
 | .str x,v=>v = .str x
 | .ty x,v=>v = .ty x
 | .lst l,v=>∃ p xs,v = .ref p /\ Rd S p (.lst xs) /\ Dens K S l xs
 | .tup l,v=>∃ p xs,v = .ref p /\ TpA K S p xs /\ Dens K S l xs
 | .scr l,v=>∃ p xs,v = .ref p /\ SqL K S p xs /\ Dens K S l xs
 | .mtp l,v=>∃ p xs,v = .ref p /\ SqT K S p xs /\ Dens K S l xs
 | .ins N ns l,v=>∃ p C dx fs,v = .ref p /\ W.nsIn K mainGlobals N = some (some (.ref C)) /\ S p = some (.ins C dx fs) /\ fs.map (·.1) = ns /\ Dens K S l (fs.map (·.2))
 | .dic ks,v=>∃ p,v = .ref p /\ Rd S p (.dT (bn ks))
 | .dif ks,v=>∃ p o,v = .ref p /\ S p = some (.frz o (.dT (bn ks)))
noncomputable def Dens (K:W.Frag) (S:Hp):List D -> List V -> Prop
 | [],xs=>xs = []
 | d :: ds,xs=>∃ y ys,xs = y :: ys /\ Den K S d y /\ Dens K S ds ys
end
section
variable {K:W.Frag} {S S' H H':Hp}
theorem Dens.nil:Dens K S [] []:=by unfold Dens;rfl
theorem Dens.cons {d:D} {ds:List D} {y:V} {ys:List V} (h:Den K S d y) (k:Dens K S ds ys):Dens K S (d :: ds) (y :: ys):=by unfold Dens;exact ⟨y,ys,rfl,h,k⟩
theorem Dens.nil_of {xs:List V} (h:Dens K S [] xs):xs = []:=by unfold Dens at h;exact h
theorem Dens.cons_of {d:D} {ds:List D} {xs:List V} (h:Dens K S (d :: ds) xs):∃ y ys,xs = y :: ys /\ Den K S d y /\ Dens K S ds ys:=by unfold Dens at h;exact h
theorem Dens.length:∀ {ds:List D} {xs:List V},Dens K S ds xs -> ds.length = xs.length
 | [],_,h=>by rw [h.nil_of];rfl
 | _ :: _,_,h=>by
  obtain ⟨y,ys,rfl,_,k⟩:=h.cons_of
  rw [OL,OL,k.length]
theorem Dens.append:∀ {ds es:List D} {xs ys:List V},Dens K S ds xs -> Dens K S es ys -> Dens K S (ds ++ es) (xs ++ ys)
 | [],_,_,_,h,k=>by rw [h.nil_of];exact k
 | _ :: _,_,_,_,h,k=>by
  obtain ⟨y,ys,rfl,a,b⟩:=h.cons_of
  exact .cons a (b.append k)
theorem Dens.get:∀ {ds:List D} {xs:List V} {i:Nat} {d:D},Dens K S ds xs -> ds[i]? = some d -> ∃ x,xs[i]? = some x /\ Den K S d x
 | [],_,_,_,_,e=>by simp at e
 | _ :: _,_,0,_,h,e=>by
  obtain ⟨y,ys,rfl,a,b⟩:=h.cons_of
  simp at e;subst e
  exact ⟨y,rfl,a⟩
 | _ :: _,_,i + 1,_,h,e=>by
  obtain ⟨y,ys,rfl,a,b⟩:=h.cons_of
  obtain ⟨x,e1,h1⟩:=b.get (i:=i) (by simpa using e)
  exact ⟨x,by simpa using e1,h1⟩
theorem Dens.set:∀ {ds:List D} {xs:List V} {d:D} {x:V} (i:Nat),Dens K S ds xs -> Den K S d x -> Dens K S (ds.set i d) (xs.set i x)
 | [],_,_,_,_,h,_=>by rw [h.nil_of];exact .nil
 | _ :: _,_,_,_,0,h,k=>by
  obtain ⟨y,ys,rfl,a,b⟩:=h.cons_of
  exact .cons k b
 | _ :: _,_,_,_,i + 1,h,k=>by
  obtain ⟨y,ys,rfl,a,b⟩:=h.cons_of
  exact .cons a (b.set i k)
theorem Dens.take:∀ {ds:List D} {xs:List V} (i:Nat),Dens K S ds xs -> Dens K S (ds.take i) (xs.take i)
 | [],_,_,h=>by rw [h.nil_of];simp;exact .nil
 | _ :: _,_,0,h=>by simp;exact .nil
 | _ :: _,_,i + 1,h=>by
  obtain ⟨y,ys,rfl,a,b⟩:=h.cons_of
  exact .cons a (b.take i)
theorem Dens.drop:∀ {ds:List D} {xs:List V} (i:Nat),Dens K S ds xs -> Dens K S (ds.drop i) (xs.drop i)
 | [],_,_,h=>by rw [h.nil_of];simp;exact .nil
 | _ :: _,_,0,h=>h
 | _ :: _,_,i + 1,h=>by
  obtain ⟨y,ys,rfl,a,b⟩:=h.cons_of
  exact b.drop i
mutual
theorem Den.mono (s:Same S S'):∀ {d:D} {v:V},Den K S d v -> Den K S' d v
 | .dic _,_,h=>by
  unfold Den at *
  obtain ⟨p,e,h1⟩:=h
  exact ⟨p,e,cR s h1⟩
 | .dif _,_,h=>by
  unfold Den at *
  obtain ⟨p,o,e,h1⟩:=h
  exact ⟨p,o,e,s _ _ h1⟩
 | .non,_,h=>by unfold Den at *;exact h
 | .bl _,_,h=>by unfold Den at *;exact h
 | .int _,_,h=>by unfold Den at *;exact h
 | .str _,_,h=>by unfold Den at *;exact h
 | .ty _,_,h=>by unfold Den at *;exact h
 | .lst _,_,h=>by
  unfold Den at *
  obtain ⟨p,xs,e,h1,h2⟩:=h
  exact ⟨p,xs,e,cR s h1,Dens.mono s h2⟩
 | .tup _,_,h=>by
  unfold Den at *
  obtain ⟨p,xs,e,h1,h2⟩:=h
  exact ⟨p,xs,e,TpA.mono s h1,Dens.mono s h2⟩
 | .scr _,_,h=>by
  unfold Den at *
  obtain ⟨p,xs,e,h1,h2⟩:=h
  exact ⟨p,xs,e,dP s h1,Dens.mono s h2⟩
 | .mtp _,_,h=>by
  unfold Den at *
  obtain ⟨p,xs,e,h1,h2⟩:=h
  exact ⟨p,xs,e,ba s h1,Dens.mono s h2⟩
 | .ins _ _ _,_,h=>by
  unfold Den at *
  obtain ⟨p,C,dx,fs,e,h0,h1,h2,h3⟩:=h
  exact ⟨p,C,dx,fs,e,h0,s _ _ h1,h2,Dens.mono s h3⟩
theorem Dens.mono (s:Same S S'):∀ {ds:List D} {xs:List V},Dens K S ds xs -> Dens K S' ds xs
 | [],_,h=>by rw [h.nil_of];exact .nil
 | _ :: _,_,h=>by
  obtain ⟨y,ys,rfl,a,b⟩:=h.cons_of
  exact .cons (Den.mono s a) (Dens.mono s b)
end
theorem den_int {i:Int} {v:V}:Den K S (.int i) v ↔ v = .int i:=by unfold Den;exact PX
theorem den_bl {b:Bool} {v:V}:Den K S (.bl b) v ↔ v = .bl b:=by unfold Den;exact PX
theorem den_non {v:V}:Den K S .non v ↔ v = .non:=by unfold Den;exact PX
theorem den_str {x:Str} {v:V}:Den K S (.str x) v ↔ v = .str x:=by unfold Den;exact PX
theorem den_ty {x:String} {v:V}:Den K S (.ty x) v ↔ v = .ty x:=by unfold Den;exact PX
theorem den_tup {l:List D} {v:V}:Den K S (.tup l) v ↔ ∃ p xs,v = .ref p /\ TpA K S p xs /\ Dens K S l xs:=by
 constructor
 ·intro h;unfold Den at h;exact h
 ·intro h;unfold Den;exact h
theorem gA {l:List D} {v:V} (h:Den K S (.tup l) v):∃ p xs,v = .ref p /\ SqT K S p xs /\ Dens K S l xs:=by
 obtain ⟨p,xs,e,h1,h2⟩:=den_tup.mp h
 exact ⟨p,xs,e,h1.sq,h2⟩
theorem den_lst {l:List D} {v:V}:Den K S (.lst l) v ↔ ∃ p xs,v = .ref p /\ Rd S p (.lst xs) /\ Dens K S l xs:=by
 constructor
 ·intro h;unfold Den at h;exact h
 ·intro h;unfold Den;exact h
theorem den_scr {l:List D} {v:V}:Den K S (.scr l) v ↔ ∃ p xs,v = .ref p /\ SqL K S p xs /\ Dens K S l xs:=by
 constructor
 ·intro h;unfold Den at h;exact h
 ·intro h;unfold Den;exact h
theorem den_mtp {l:List D} {v:V}:Den K S (.mtp l) v ↔ ∃ p xs,v = .ref p /\ SqT K S p xs /\ Dens K S l xs:=by
 constructor
 ·intro h;unfold Den at h;exact h
 ·intro h;unfold Den;exact h
theorem den_ins {N:Str} {ns:List Str} {l:List D} {v:V}:Den K S (.ins N ns l) v ↔ ∃ p C dx fs,v = .ref p /\ W.nsIn K mainGlobals N = some (some (.ref C)) /\ S p = some (.ins C dx fs) /\ fs.map (·.1) = ns /\ Dens K S l (fs.map (·.2)):=by
 constructor
 ·intro h;unfold Den at h;exact h
 ·intro h;unfold Den;exact h
def DenP (K:W.Frag) (S H:Hp) (d:D) (v:V):Prop:=Den K S d v \/ ∃ l p xs,d = .lst l /\ v = .ref p /\ H p = some (.lst xs) /\ Dens K S l xs
theorem DenP.lst {l:List D} {v:V} (s:Same S H) (h:DenP K S H (.lst l) v):∃ p xs,v = .ref p /\ Rd H p (.lst xs) /\ Dens K S l xs:=by
 rcases h with h | ⟨l',p,xs,e,e1,e2,e3⟩
 ·obtain ⟨p,xs,e,e1,e2⟩:=den_lst.mp h
  exact ⟨p,xs,e,cR s e1,e2⟩
 ·cases e
  exact ⟨p,xs,e1,.inl e2,e3⟩
theorem DenP.tup {l:List D} {v:V} (s:Same S H) (h:DenP K S H (.tup l) v):∃ p xs,v = .ref p /\ SqT K H p xs /\ Dens K S l xs:=by
 rcases h with h | ⟨l',p,xs,e,e1,e2,e3⟩
 ·obtain ⟨p,xs,e,e1,e2⟩:=gA h
  exact ⟨p,xs,e,ba s e1,e2⟩
 ·cases e
theorem DenP.scr {l:List D} {v:V} (s:Same S H) (h:DenP K S H (.scr l) v):∃ p xs,v = .ref p /\ SqL K H p xs /\ Dens K S l xs:=by
 rcases h with h | ⟨l',p,xs,e,e1,e2,e3⟩
 ·obtain ⟨p,xs,e,e1,e2⟩:=den_scr.mp h
  exact ⟨p,xs,e,dP s e1,e2⟩
 ·cases e
theorem DenP.int {i:Int} {v:V} (h:DenP K S H (.int i) v):v = .int i:=by
 rcases h with h | ⟨l',p,xs,e,_⟩
 ·exact den_int.mp h
 ·cases e
theorem DenP.bl {i:Bool} {v:V} (h:DenP K S H (.bl i) v):v = .bl i:=by
 rcases h with h | ⟨l',p,xs,e,_⟩
 ·exact den_bl.mp h
 ·cases e
theorem DenP.str {i:Str} {v:V} (h:DenP K S H (.str i) v):v = .str i:=by
 rcases h with h | ⟨l',p,xs,e,_⟩
 ·exact den_str.mp h
 ·cases e
theorem DenP.non {v:V} (h:DenP K S H .non v):v = .non:=by
 rcases h with h | ⟨l',p,xs,e,_⟩
 ·exact den_non.mp h
 ·cases e
theorem DenP.ty {i:String} {v:V} (h:DenP K S H (.ty i) v):v = .ty i:=by
 rcases h with h | ⟨l',p,xs,e,_⟩
 ·exact den_ty.mp h
 ·cases e
def IT (o:HO):Prop:=∃ ks:List Int,o = .tup (ks.map V.int)
structure Ext (S H S' H':Hp):Prop where
 sh:Same S S'
 sub:Same S' H'
 alw:∀ b o,H b = some o -> S b = none -> H' b = some o /\ (S' b = none \/ IT o)
theorem Ext.al (z:Ext S H S' H') (b:Addr) (o:HO) (h:H b = some o) (n:S b = none) (hn:¬ IT o:=by exact fun ⟨_,z⟩=>nomatch z):H' b = some o /\ S' b = none:=
 ⟨(z.alw b o h n).1,(z.alw b o h n).2.resolve_right hn⟩
theorem Ext.refl (h:Same S H):Ext S H S H:=⟨Same.refl _,h,fun _ _ h n=>⟨h,.inl n⟩⟩
theorem Ext.trans {S1 H1 S2 H2:Hp} (a:Ext S H S1 H1) (b:Ext S1 H1 S2 H2):Ext S H S2 H2:=⟨a.sh.trans b.sh,b.sub,fun c o h n=>by
 obtain ⟨k1,k2⟩:=a.alw c o h n
 rcases k2 with k2 | k2
 ·exact b.alw c o k1 k2
 ·cases q:S1 c with
  | none=>exact ⟨(b.alw c o k1 q).1,.inr k2⟩
  | some u=>
   have:=a.sub c u q
   rw [k1] at this
   cases this
   exact ⟨b.sub c _ (b.sh c _ q),.inr k2⟩⟩
theorem Ext.same (a:Ext S H S' H') (s:Same S H):Same H H':=fun b o h=>by
 cases q:S b with
 | none=>exact (a.alw b o h q).1
 | some u=>
  have:=s b u q
  rw [h] at this
  cases this
  exact a.sub b o (a.sh b o q)
theorem Ext.new (s:Same S H) {p:Addr} {o:HO} (h:H p = none):Ext S H (upd S p o) (upd H p o) where
 sh:=fun b u e=>by rw [aD (a7 e (s.free h))];exact e
 sub:=fun b u e=>by
  by_cases hb:b = p
  ·subst hb;rw [aB] at e ⊢;exact e
  ·rw [aD hb] at e ⊢;exact s b u e
 alw:=fun b u e n=>by
  have hb:=a7 e h
  rw [aD hb,aD hb]
  exact ⟨e,.inl n⟩
theorem Ext.own (s:Same S H) {p:Addr} {o:HO} (h:H p = none):Ext S H S (upd H p o) where
 sh:=Same.refl _
 sub:=fun b u e=>by rw [aD (a7 (s b u e) h)];exact s b u e
 alw:=fun b u e n=>by
  have hb:=a7 e h
  rw [aD hb]
  exact ⟨e,.inl n⟩
theorem DenP.mono {d:D} {v:V} (e:Ext S H S' H') (s:Same S H) (h:DenP K S H d v):DenP K S' H' d v:=by
 rcases h with h | ⟨l,p,xs,h1,h2,h3,h4⟩
 ·exact .inl (h.mono e.sh)
 ·exact .inr ⟨l,p,xs,h1,h2,e.same s _ _ h3,h4.mono e.sh⟩
inductive DensP (K:W.Frag) (S H:Hp):List D -> List V -> Prop where
 | nil:DensP K S H [] []
 | cons {d ds v vs}:DenP K S H d v -> DensP K S H ds vs -> DensP K S H (d :: ds) (v :: vs)
inductive O where
 | sh (d:D) | lst (l:List O) | tup (l:List O) | dic (ks:List (List Int)) | hd (p:Addr) (ks:List (List Int)) (os:List O)
 deriving Inhabited
mutual
noncomputable def O.d:O -> D
 | .sh d=>d
 | .dic ks=>.dic ks
 | .hd _ ks os=>(O.ds os).headD (.dic ks)
 | .lst l=>.lst (O.ds l)
 | .tup l=>.tup (O.ds l)
noncomputable def O.ds:List O -> List D
 | []=>[]
 | o :: l=>o.d :: O.ds l
end
mutual
noncomputable def Own (K:W.Frag) (S H:Hp):O -> V -> List Addr -> Prop
 | .sh d,v,fp=>fp = [] /\ Den K S d v
 | .lst l,v,fp=>∃ a xs f,v = .ref a /\ fp = a :: f /\ H a = some (.lst xs) /\ Owns K S H l xs f
 | .tup l,v,fp=>∃ a xs f,v = .ref a /\ fp = a :: f /\ (H a = some (.tup xs) /\ ¬ IT (.tup xs)) /\ Owns K S H l xs f
 | .dic ks,v,fp=>∃ a,v = .ref a /\ fp = [a] /\ H a = some (.dT (bn ks))
 | .hd p ks os,v,fp=>∃ xs f,v = xs.headD (.ref p) /\ fp = p :: f /\ H p = some (.dT (bn ks)) /\ Owns K S H os xs f
noncomputable def Owns (K:W.Frag) (S H:Hp):List O -> List V -> List Addr -> Prop
 | [],xs,fp=>xs = [] /\ fp = []
 | o :: l,xs,fp=>∃ y ys f g,xs = y :: ys /\ fp = f ++ g /\ Own K S H o y f /\ Owns K S H l ys g
end
theorem den_dic {ks:List (List Int)} {v:V}:Den K S (.dic ks) v ↔ ∃ p,v = .ref p /\ Rd S p (.dT (bn ks)):=by unfold Den;exact PX
theorem own_dic {ks:List (List Int)} {v:V} {fp:List Addr}:Own K S H (.dic ks) v fp ↔ ∃ a,v = .ref a /\ fp = [a] /\ H a = some (.dT (bn ks)):=by unfold Own;exact PX
theorem den_dif {ks:List (List Int)} {v:V}:Den K S (.dif ks) v ↔ ∃ p o,v = .ref p /\ S p = some (.frz o (.dT (bn ks))):=by unfold Den;exact PX
theorem own_hd {p:Addr} {ks:List (List Int)} {os:List O} {v:V} {fp:List Addr}:Own K S H (.hd p ks os) v fp ↔ ∃ xs f,v = xs.headD (.ref p) /\ fp = p :: f /\ H p = some (.dT (bn ks)) /\ Owns K S H os xs f:=by
 constructor
 ·intro h;unfold Own at h;exact h
 ·intro h;unfold Own;exact h
theorem own_sh {d:D} {v:V} {fp:List Addr}:Own K S H (.sh d) v fp ↔ fp = [] /\ Den K S d v:=by unfold Own;exact PX
theorem own_lst {l:List O} {v:V} {fp:List Addr}:Own K S H (.lst l) v fp ↔ ∃ a xs f,v = .ref a /\ fp = a :: f /\ H a = some (.lst xs) /\ Owns K S H l xs f:=by
 constructor
 ·intro h;unfold Own at h;exact h
 ·intro h;unfold Own;exact h
theorem own_tup {l:List O} {v:V} {fp:List Addr}:Own K S H (.tup l) v fp ↔ ∃ a xs f,v = .ref a /\ fp = a :: f /\ (H a = some (.tup xs) /\ ¬ IT (.tup xs)) /\ Owns K S H l xs f:=by
 constructor
 ·intro h;unfold Own at h;exact h
 ·intro h;unfold Own;exact h
theorem Owns.nil:Owns K S H [] [] []:=by unfold Owns;exact ⟨rfl,rfl⟩
theorem Owns.cons {o:O} {l:List O} {y:V} {ys:List V} {f g:List Addr} (h:Own K S H o y f) (k:Owns K S H l ys g):Owns K S H (o :: l) (y :: ys) (f ++ g):=by unfold Owns;exact ⟨y,ys,f,g,rfl,rfl,h,k⟩
theorem Owns.nil_of {xs:List V} {fp:List Addr} (h:Owns K S H [] xs fp):xs = [] /\ fp = []:=by unfold Owns at h;exact h
theorem Owns.cons_of {o:O} {l:List O} {xs:List V} {fp:List Addr} (h:Owns K S H (o :: l) xs fp):∃ y ys f g,xs = y :: ys /\ fp = f ++ g /\ Own K S H o y f /\ Owns K S H l ys g:=by unfold Owns at h;exact h
theorem Owns.length:∀ {l:List O} {xs:List V} {fp:List Addr},Owns K S H l xs fp -> l.length = xs.length
 | [],_,_,h=>by rw [h.nil_of.1];rfl
 | _ :: _,_,_,h=>by
  obtain ⟨y,ys,f,g,rfl,rfl,_,k⟩:=h.cons_of
  rw [OL,OL,k.length]
theorem Owns.append:∀ {l m:List O} {xs ys:List V} {f g:List Addr},Owns K S H l xs f -> Owns K S H m ys g -> Owns K S H (l ++ m) (xs ++ ys) (f ++ g)
 | [],_,_,_,_,_,h,k=>by rw [h.nil_of.1,h.nil_of.2];exact k
 | _ :: _,_,_,_,_,_,h,k=>by
  obtain ⟨y,ys,f,g,rfl,rfl,a,b⟩:=h.cons_of
  rw [Pb]
  exact .cons a (b.append k)
theorem nN:∀ {ds:List D} {xs:List V},Dens K S ds xs -> Owns K S H (ds.map .sh) xs []
 | [],_,h=>by rw [h.nil_of];exact .nil
 | _ :: _,_,h=>by
  obtain ⟨y,ys,rfl,a,b⟩:=h.cons_of
  exact .cons (f:=[]) (own_sh.mpr ⟨rfl,a⟩) (nN b)
theorem fh:∀ {ds:List D} {xs:List V} {fp:List Addr},Owns K S H (ds.map .sh) xs fp -> Dens K S ds xs /\ fp = []
 | [],_,_,h=>by rw [h.nil_of.1,h.nil_of.2];exact ⟨.nil,rfl⟩
 | _ :: _,_,_,h=>by
  obtain ⟨y,ys,f,g,rfl,rfl,a,b⟩:=h.cons_of
  obtain ⟨e,a⟩:=own_sh.mp a
  obtain ⟨b,e2⟩:=fh b
  exact ⟨.cons a b,by rw [e,e2];rfl⟩
mutual
theorem Own.mono (s:Same S S'):∀ {o:O} {v:V} {fp:List Addr},(∀ b ∈ fp,H' b = H b) -> Own K S H o v fp -> Own K S' H' o v fp
 | .dic _,_,_,k,h=>by
  obtain ⟨a,e,rfl,h1⟩:=own_dic.mp h
  exact own_dic.mpr ⟨a,e,rfl,by rw [k a OI];exact h1⟩
 | .hd _ _ _,_,_,k,h=>by
  obtain ⟨xs,f,e,rfl,h1,h2⟩:=own_hd.mp h
  exact own_hd.mpr ⟨xs,f,e,rfl,by rw [k _ OI];exact h1,Owns.mono s (fun b hb=>k b (OK _ hb)) h2⟩
 | .sh _,_,_,k,h=>by
  obtain ⟨e,d⟩:=own_sh.mp h
  exact own_sh.mpr ⟨e,d.mono s⟩
 | .lst _,_,_,k,h=>by
  obtain ⟨a,xs,f,e,rfl,h1,h2⟩:=own_lst.mp h
  exact own_lst.mpr ⟨a,xs,f,e,rfl,by rw [k a OI];exact h1,Owns.mono s (fun b hb=>k b (OK _ hb)) h2⟩
 | .tup _,_,_,k,h=>by
  obtain ⟨a,xs,f,e,rfl,h1,h2⟩:=own_tup.mp h
  exact own_tup.mpr ⟨a,xs,f,e,rfl,by rw [k a OI];exact h1,Owns.mono s (fun b hb=>k b (OK _ hb)) h2⟩
theorem Owns.mono (s:Same S S'):∀ {l:List O} {xs:List V} {fp:List Addr},(∀ b ∈ fp,H' b = H b) -> Owns K S H l xs fp -> Owns K S' H' l xs fp
 | [],_,_,k,h=>by rw [h.nil_of.1,h.nil_of.2];exact .nil
 | _ :: _,_,_,k,h=>by
  obtain ⟨y,ys,f,g,rfl,rfl,a,b⟩:=h.cons_of
  exact .cons (Own.mono s (fun b hb=>k b (OY _ hb)) a) (Owns.mono s (fun b hb=>k b (OU _ hb)) b)
end
mutual
theorem Own.there:∀ {o:O} {v:V} {fp:List Addr},Own K S H o v fp -> ∀ b ∈ fp,H b ≠ none
 | .dic _,_,_,h=>by
  obtain ⟨a,e,rfl,h1⟩:=own_dic.mp h
  intro b hb
  rw [OO] at hb
  subst hb
  rw [h1];exact fun z=>by cases z
 | .hd _ _ _,_,_,h=>by
  obtain ⟨xs,f,e,rfl,h1,h2⟩:=own_hd.mp h
  intro b hb
  rcases OP.mp hb with rfl | hb
  ·rw [h1];exact fun z=>by cases z
  ·exact Owns.there h2 b hb
 | .sh _,_,_,h=>by
  obtain ⟨e,d⟩:=own_sh.mp h
  rw [e];intro b hb;cases hb
 | .lst _,_,_,h=>by
  obtain ⟨a,xs,f,e,rfl,h1,h2⟩:=own_lst.mp h
  intro b hb
  rcases OP.mp hb with rfl | hb
  ·rw [h1];exact fun z=>by cases z
  ·exact Owns.there h2 b hb
 | .tup _,_,_,h=>by
  obtain ⟨a,xs,f,e,rfl,⟨h1,_⟩,h2⟩:=own_tup.mp h
  intro b hb
  rcases OP.mp hb with rfl | hb
  ·rw [h1];exact fun z=>by cases z
  ·exact Owns.there h2 b hb
theorem Owns.there:∀ {l:List O} {xs:List V} {fp:List Addr},Owns K S H l xs fp -> ∀ b ∈ fp,H b ≠ none
 | [],_,_,h=>by rw [h.nil_of.2];intro b hb;cases hb
 | _ :: _,_,_,h=>by
  obtain ⟨y,ys,f,g,rfl,rfl,a,b⟩:=h.cons_of
  intro c hc
  rcases OV.mp hc with hc | hc
  ·exact Own.there a c hc
  ·exact Owns.there b c hc
end
mutual
theorem Own.nit:∀ {o:O} {v:V} {fp:List Addr},Own K S H o v fp -> ∀ b ∈ fp,∀ u,H b = some u -> ¬ IT u
 | .dic _,_,_,h=>by
  obtain ⟨a,e,rfl,h1⟩:=own_dic.mp h
  intro b hb u hu
  rw [OO.mp hb,h1] at hu
  cases hu
  exact fun ⟨_,z⟩=>nomatch z
 | .hd _ _ _,_,_,h=>by
  obtain ⟨xs,f,e,rfl,h1,h2⟩:=own_hd.mp h
  intro b hb u hu
  rcases OP.mp hb with rfl | hb
  ·rw [h1] at hu
   cases hu
   exact fun ⟨_,z⟩=>nomatch z
  ·exact Owns.nit h2 b hb u hu
 | .sh _,_,_,h=>by
  obtain ⟨e,d⟩:=own_sh.mp h
  rw [e];intro b hb;cases hb
 | .lst _,_,_,h=>by
  obtain ⟨a,xs,f,e,rfl,h1,h2⟩:=own_lst.mp h
  intro b hb u hu
  rcases OP.mp hb with rfl | hb
  ·rw [h1] at hu
   cases hu
   exact fun ⟨_,z⟩=>nomatch z
  ·exact Owns.nit h2 b hb u hu
 | .tup _,_,_,h=>by
  obtain ⟨a,xs,f,e,rfl,⟨h1,hn⟩,h2⟩:=own_tup.mp h
  intro b hb u hu
  rcases OP.mp hb with rfl | hb
  ·rw [h1] at hu
   cases hu
   exact hn
  ·exact Owns.nit h2 b hb u hu
theorem Owns.nit:∀ {l:List O} {xs:List V} {fp:List Addr},Owns K S H l xs fp -> ∀ b ∈ fp,∀ u,H b = some u -> ¬ IT u
 | [],_,_,h=>by rw [h.nil_of.2];intro b hb;cases hb
 | _ :: _,_,_,h=>by
  obtain ⟨y,ys,f,g,rfl,rfl,a,b⟩:=h.cons_of
  intro c hc u hu
  rcases OV.mp hc with hc | hc
  ·exact Own.nit a c hc u hu
  ·exact Owns.nit b c hc u hu
end
mutual
theorem Own.den {S2:Hp} (s:Same S S2):∀ {o:O} {v:V} {fp:List Addr},(∀ b ∈ fp,S2 b = H b) -> Own K S H o v fp -> Den K S2 o.d v
 | .dic _,_,_,k,h=>by
  obtain ⟨a,e,rfl,h1⟩:=own_dic.mp h
  rw [O.d]
  exact den_dic.mpr ⟨a,e,.inl (by rw [k a OI];exact h1)⟩
 | .hd p ks os,_,_,k,h=>by
  obtain ⟨xs,f,e,rfl,h1,h2⟩:=own_hd.mp h
  have ds:=Owns.den s (fun b hb=>k b (OK _ hb)) h2
  rw [O.d,e]
  cases q:O.ds os with
  | nil=>
   rw [q] at ds
   rw [ds.nil_of]
   exact den_dic.mpr ⟨p,rfl,.inl (by rw [k p OI];exact h1)⟩
  | cons d l=>
   rw [q] at ds
   obtain ⟨y,ys,rfl,a,_⟩:=ds.cons_of
   exact a
 | .sh _,_,_,k,h=>by
  obtain ⟨e,d⟩:=own_sh.mp h
  exact d.mono s
 | .lst l,_,_,k,h=>by
  obtain ⟨a,xs,f,e,rfl,h1,h2⟩:=own_lst.mp h
  rw [O.d]
  exact den_lst.mpr ⟨a,xs,e,.inl (by rw [k a OI];exact h1),Owns.den s (fun b hb=>k b (OK _ hb)) h2⟩
 | .tup l,_,_,k,h=>by
  obtain ⟨a,xs,f,e,rfl,h1,h2⟩:=own_tup.mp h
  rw [O.d]
  exact den_tup.mpr ⟨a,xs,e,TpA.of (by rw [k a OI];exact h1.1),Owns.den s (fun b hb=>k b (OK _ hb)) h2⟩
theorem Owns.den {S2:Hp} (s:Same S S2):∀ {l:List O} {xs:List V} {fp:List Addr},(∀ b ∈ fp,S2 b = H b) -> Owns K S H l xs fp -> Dens K S2 (O.ds l) xs
 | [],_,_,k,h=>by rw [h.nil_of.1,O.ds];exact .nil
 | _ :: _,_,_,k,h=>by
  obtain ⟨y,ys,f,g,rfl,rfl,a,b⟩:=h.cons_of
  rw [O.ds]
  exact .cons (Own.den s (fun b hb=>k b (OY _ hb)) a) (Owns.den s (fun b hb=>k b (OU _ hb)) b)
end
theorem Own.denH {o:O} {v:V} {fp:List Addr} (s:Same S H) (h:Own K S H o v fp):Den K H o.d v:=h.den s fun _ _=>rfl
theorem Ext.keeps {fp:List Addr} (e:Ext S H S' H') (h:∀ b ∈ fp,S b = none) (t:∀ b ∈ fp,H b ≠ none) (ni:∀ b ∈ fp,∀ u,H b = some u -> ¬ IT u):(∀ b ∈ fp,H' b = H b) /\ ∀ b ∈ fp,S' b = none:=by
 have key:∀ b ∈ fp,H' b = H b /\ S' b = none:=fun b hb=>by
  cases q:H b with
  | none=>exact absurd q (t b hb)
  | some o=>exact e.al b o q (h b hb) (ni b hb o q)
 exact ⟨fun b hb=>(key b hb).1,fun b hb=>(key b hb).2⟩
inductive Sl where
 | un | lo | sh (d:D) | ow (o:O)
 deriving Inhabited
noncomputable abbrev Env:=List Sl
structure RlF (K:W.Frag) (A:Hp) (Λ:Nat -> Option Addr) (Φ:Nat -> List Addr) (ρ:Env) (σ:St) (S H:Hp):Prop where
 len:σ.length = ρ.length
 sub:Same S H
 sh:∀ (i:Nat) d,ρ[i]? = some (.sh d) -> ∃ v,σ[i]? = some (some v) /\ Den K S d v
 ow:∀ (i:Nat) o,ρ[i]? = some (.ow o) -> ∃ v,σ[i]? = some (some v) /\ Own K S H o v (Φ i) /\ (Φ i).Nodup /\ ∀ b ∈ Φ i,S b = none /\ A b = none
 dj:∀ (i j:Nat) o o',i ≠ j -> ρ[i]? = some (.ow o) -> ρ[j]? = some (.ow o') -> ∀ b ∈ Φ i,b ∉ Φ j
 lo:∀ (i:Nat),ρ[i]? = some .lo -> ∃ a,Λ i = some a /\ σ[i]? = some (some (.ref a))
 asub:Same A H
 adis:∀ b,S b = none \/ A b = none \/ ∃ u,A b = some u /\ IT u
def RlA (K:W.Frag) (A:Hp) (Λ:Nat -> Option Addr) (ρ:Env) (σ:St) (S H:Hp):Prop:=∃ Φ,RlF K A Λ Φ ρ σ S H
def Rl (K:W.Frag) (ρ:Env) (σ:St) (S H:Hp):Prop:=∃ A Λ Φ,RlF K A Λ Φ ρ σ S H
theorem RlF.ext {A:Hp} {Λ:Nat -> Option Addr} {Φ:Nat -> List Addr} {ρ:Env} {σ:St} (r:RlF K A Λ Φ ρ σ S H) (e:Ext S H S' H'):RlF K A Λ Φ ρ σ S' H' where
 len:=r.len
 sub:=e.sub
 sh:=fun i d h=>by
  obtain ⟨v,h1,h2⟩:=r.sh i d h
  exact ⟨v,h1,h2.mono e.sh⟩
 ow:=fun i o h=>by
  obtain ⟨v,h1,h2,h3,h4⟩:=r.ow i o h
  obtain ⟨k1,k2⟩:=e.keeps (fun b hb=>(h4 b hb).1) h2.there h2.nit
  exact ⟨v,h1,h2.mono e.sh k1,h3,fun b hb=>⟨k2 b hb,(h4 b hb).2⟩⟩
 dj:=r.dj
 lo:=r.lo
 asub:=fun b o h=>e.same r.sub b o (r.asub b o h)
 adis:=fun b=>by
  rcases r.adis b with h | h
  ·cases q:A b with
   | none=>exact .inr (.inl rfl)
   | some o=>
    rcases (e.alw b o (r.asub b o q) h).2 with k | k
    ·exact .inl k
    ·exact .inr (.inr ⟨o,rfl,k⟩)
  ·exact .inr h
theorem RlA.ext {A:Hp} {Λ:Nat -> Option Addr} {ρ:Env} {σ:St} (r:RlA K A Λ ρ σ S H) (e:Ext S H S' H'):RlA K A Λ ρ σ S' H':=let ⟨Φ,f⟩:=r;⟨Φ,f.ext e⟩
theorem RlA.toRl {A:Hp} {Λ:Nat -> Option Addr} {ρ:Env} {σ:St} (r:RlA K A Λ ρ σ S H):Rl K ρ σ S H:=let ⟨Φ,f⟩:=r;⟨A,Λ,Φ,f⟩
theorem RlA.sub {A:Hp} {Λ:Nat -> Option Addr} {ρ:Env} {σ:St} (r:RlA K A Λ ρ σ S H):Same S H:=let ⟨_,f⟩:=r;f.sub
theorem RlA.asub {A:Hp} {Λ:Nat -> Option Addr} {ρ:Env} {σ:St} (r:RlA K A Λ ρ σ S H):Same A H:=let ⟨_,f⟩:=r;f.asub
theorem RlA.adis {A:Hp} {Λ:Nat -> Option Addr} {ρ:Env} {σ:St} (r:RlA K A Λ ρ σ S H):∀ b,S b = none \/ A b = none \/ ∃ u,A b = some u /\ IT u:=let ⟨_,f⟩:=r;f.adis
theorem Rl.ext {ρ:Env} {σ:St} (r:Rl K ρ σ S H) (e:Ext S H S' H'):Rl K ρ σ S' H':=let ⟨A,Λ,Φ,f⟩:=r;⟨A,Λ,Φ,f.ext e⟩
theorem Rl.sub {ρ:Env} {σ:St} (r:Rl K ρ σ S H):Same S H:=let ⟨_,_,_,f⟩:=r;f.sub
theorem Rl.sh {ρ:Env} {σ:St} (r:Rl K ρ σ S H):∀ (i:Nat) d,ρ[i]? = some (.sh d) -> ∃ v,σ[i]? = some (some v) /\ Den K S d v:=let ⟨_,_,_,f⟩:=r;f.sh
theorem Rl.ow {ρ:Env} {σ:St} (r:Rl K ρ σ S H):∀ (i:Nat) o,ρ[i]? = some (.ow o) -> ∃ v fp,σ[i]? = some (some v) /\ Own K S H o v fp /\ fp.Nodup /\ ∀ b ∈ fp,S b = none:=fun i o h=>by
 obtain ⟨A,Λ,Φ,f⟩:=r
 obtain ⟨v,h1,h2,h3,h4⟩:=f.ow i o h
 exact ⟨v,_,h1,h2,h3,fun b hb=>(h4 b hb).1⟩
noncomputable abbrev XE:=Env -> Option D
noncomputable abbrev XT:=Env -> Option Bool
noncomputable abbrev XA:=Env -> Option (List D)
def SE (K:W.Frag) (t:TE) (e:XE):Prop:=∀ ρ σ S H (Q:VK) d,Rl K ρ σ S H -> e ρ = some d -> (∀ v S' H',Ext S H S' H' -> Den K S' d v -> Q v H') -> t σ H Q
def SPk (K:W.Frag) (t:TE) (e:XE):Prop:=∀ ρ σ S H (Q:VK) d,Rl K ρ σ S H -> e ρ = some d -> (∀ v S' H',Ext S H S' H' -> DenP K S' H' d v -> Q v H') -> t σ H Q
def SF (K:W.Frag) (t:TE) (e:XA):Prop:=∀ ρ σ S H (Q:VK) l,Rl K ρ σ S H -> e ρ = some l -> (∀ a xs S' H',Ext S H S' H' -> H a = none -> S' a = none -> H' a = some (.lst xs) -> Dens K S' l xs -> Q (.ref a) H') -> t σ H Q
def ST (K:W.Frag) (t:TT) (c:XT):Prop:=∀ ρ σ S H (Q:Bool -> Hp -> Prop) b,Rl K ρ σ S H -> c ρ = some b -> (∀ S' H',Ext S H S' H' -> Q b H') -> t σ H Q
def SA (K:W.Frag) (t:TA) (e:XA):Prop:=∀ ρ σ S H (Q:List V -> Hp -> Prop) ds,Rl K ρ σ S H -> e ρ = some ds -> (∀ vs S' H',Ext S H S' H' -> Dens K S' ds vs -> Q vs H') -> t σ H Q
def SAP (K:W.Frag) (t:TA) (e:XA):Prop:=∀ ρ σ S H (Q:List V -> Hp -> Prop) ds,Rl K ρ σ S H -> e ρ = some ds -> (∀ vs S' H',Ext S H S' H' -> DensP K S' H' ds vs -> Q vs H') -> t σ H Q
theorem SE.p {t:TE} {e:XE} (h:SE K t e):SPk K t e:=fun ρ σ S H Q d r x k=>h ρ σ S H Q d r x fun v S' H' z dv=>k v S' H' z (.inl dv)
@[simp] noncomputable def xL (e:XA):XE:=fun ρ=>(e ρ).map D.lst
theorem SF.e {t:TE} {e:XA} (h:SF K t e):SE K t (xL e):=fun ρ σ S H Q d r x k=>by
 unfold xL at x
 cases q:e ρ with
 | none=>rw [q] at x;cases x
 | some l=>
  rw [q] at x
  cases x
  refine h ρ σ S H Q l r q fun a xs S' H' z h1 h2 h3 h4=>?_
  have s2:Same S' (upd S' a (.lst xs)):=fun b u e=>by rw [aD (a7 e h2)];exact e
  refine k _ (upd S' a (.lst xs)) H' ⟨z.sh.trans s2,fun b u e=>?_,fun b o e n=>?_⟩ (den_lst.mpr ⟨a,xs,rfl,.inl aB,h4.mono s2⟩)
  ·by_cases hb:b = a
   ·subst hb;rw [aB] at e;cases e;exact h3
   ·rw [aD hb] at e;exact z.sub b u e
  ·obtain ⟨y1,y2⟩:=z.alw b o e n
   exact ⟨y1,by rw [aD (a7 e h1)];exact y2⟩
@[simp] noncomputable def aA (i:Nat):XE:=fun ρ=>match ρ[i]? with | some (.sh d)=>some d | _=>none
noncomputable def shs:List O -> Option (List D)
 | []=>some []
 | .sh d :: l=>(shs l).map fun r=>d :: r
 | _=>none
theorem rd:∀ l:List D,shs (l.map .sh) = some l
 | []=>rfl
 | d :: l=>by rw [OQ,shs,rd l];rfl
theorem o8:∀ {os:List O} {l:List D},shs os = some l -> os = l.map .sh
 | [],l,h=>by cases h;rfl
 | o :: os,l,h=>by
  cases o with
  | sh d=>
   have h':(shs os).map (fun r=>d :: r) = some l:=h
   cases q:shs os with
   | none=>rw [q] at h';cases h'
   | some m=>rw [q] at h';cases h';rw [o8 q];rfl
  | lst _=>cases h
  | tup _=>cases h
  | dic _=>cases h
  | hd _ _ _=>cases h
noncomputable def Fx:Sl -> Option D
 | .sh d=>some d
 | .ow (.sh d)=>some d
 | .ow (.lst os)=>(shs os).map D.lst
 | _=>none
@[simp] theorem Mb (d:D):Fx (.ow (.sh d)) = some d:=rfl
@[simp] theorem Md (d:D):Fx (.sh d) = some d:=rfl
@[simp] theorem Mc (l:List D):Fx (.ow (.lst (l.map .sh))) = some (.lst l):=by show (shs _).map D.lst = _;rw [rd];rfl
@[simp] noncomputable def aj (i:Nat):XE:=fun ρ=>(ρ[i]?).bind Fx
theorem aE (i:Nat):SE K (g6 i) (aA i):=fun ρ σ S H Q d r x k=>by
 unfold aA at x
 split at x
 ·rename_i d' e
  cases x
  obtain ⟨v,h1,h2⟩:=r.sh i _ e
  exact ⟨v,h1,k v S H (Ext.refl r.sub) h2⟩
 ·cases x
theorem ak (i:Nat):SPk K (g6 i) (aj i):=fun ρ σ S H Q d r x k=>by
 unfold aj at x
 cases q:ρ[i]? with
 | none=>rw [q] at x;cases x
 | some s=>
  rw [q] at x
  cases s with
  | un=>cases x
  | lo=>cases x
  | sh d'=>
   cases x
   obtain ⟨v,h1,h2⟩:=r.sh i _ q
   exact ⟨v,h1,k v S H (Ext.refl r.sub) (.inl h2)⟩
  | ow o=>
   cases o with
   | sh d'=>
    cases x
    obtain ⟨v,fp,h1,h2,h3,h4⟩:=r.ow i _ q
    exact ⟨v,h1,k v S H (Ext.refl r.sub) (.inl (own_sh.mp h2).2)⟩
   | tup l=>cases x
   | dic ks=>cases x
   | hd _ _ _=>cases x
   | lst os=>
    have x':(shs os).map D.lst = some d:=x
    cases qs:shs os with
    | none=>rw [qs] at x';cases x'
    | some l=>
     rw [qs] at x'
     cases x'
     have e:=o8 qs
     subst e
     obtain ⟨v,fp,h1,h2,h3,h4⟩:=r.ow i _ q
     obtain ⟨a,xs,f,rfl,rfl,h5,h6⟩:=own_lst.mp h2
     exact ⟨_,h1,k _ S H (Ext.refl r.sub) (.inr ⟨l,a,xs,rfl,rfl,h5,(fh h6).1⟩)⟩
def SQ (K:W.Frag) (t:TE) (e:XE):Prop:=∀ ρ σ S H (Q:VK) d,Rl K ρ σ S H -> e ρ = some d -> (∀ v S' H',Ext S H S' H' -> Den K H' d v -> Q v H') -> t σ H Q
theorem rT {d:D} {v:V} (s:Same S H) (h:DenP K S H d v):Den K H d v:=by
 rcases h with h | ⟨l,p,xs,rfl,rfl,h1,h2⟩
 ·exact h.mono s
 ·exact den_lst.mpr ⟨p,xs,rfl,.inl h1,h2.mono s⟩
theorem SPk.q {t:TE} {e:XE} (h:SPk K t e):SQ K t e:=fun ρ σ S H Q d r x k=>h ρ σ S H Q d r x fun v S' H' z dv=>k v S' H' z (rT z.sub dv)
noncomputable def Fy:Sl -> Option D
 | .sh d=>some d
 | .ow o=>some o.d
 | _=>none
@[simp] theorem Ld (d:D):Fy (.sh d) = some d:=rfl
@[simp] theorem Lc (o:O):Fy (.ow o) = some o.d:=rfl
@[simp] noncomputable def wc (i:Nat):XE:=fun ρ=>(ρ[i]?).bind Fy
theorem xx (i:Nat):SQ K (g6 i) (wc i):=fun ρ σ S H Q d r x k=>by
 unfold wc at x
 cases q:ρ[i]? with
 | none=>rw [q] at x;cases x
 | some s=>
  rw [q] at x
  cases s with
  | un=>cases x
  | lo=>cases x
  | sh d'=>
   cases x
   obtain ⟨v,h1,h2⟩:=r.sh i _ q
   exact ⟨v,h1,k v S H (Ext.refl r.sub) (h2.mono r.sub)⟩
  | ow o=>
   cases x
   obtain ⟨v,fp,h1,h2,h3,h4⟩:=r.ow i _ q
   exact ⟨_,h1,k _ S H (Ext.refl r.sub) (h2.denH r.sub)⟩
@[simp] noncomputable def xC (d:D):XE:=fun _=>some d
noncomputable def mE:D -> Option V
 | .non=>some .non | .bl b=>some (.bl b) | .int i=>some (.int i) | .str x=>some (.str x) | .ty x=>some (.ty x) | _=>none
theorem iH {d:D} {v:V} (h:mE d = some v):Den K S d v:=by
 cases d <;> simp [mE] at h <;> subst h <;> unfold Den <;> rfl
theorem s_c {v:V} {d:D} (h:mE d = some v):SE K (tC v) (xC d):=fun ρ σ S H Q e r x k=>by
 cases x
 exact k v S H (Ext.refl r.sub) (iH h)
@[simp] noncomputable def xFl (e:XE):XE:=fun ρ=>(e ρ).bind fun d=>if (mE d).isSome then some d else none
theorem Hi {d:D} {v w:V} (h:mE d = some w) (k:Den K S d v):v = w:=by
 cases d <;> simp [mE] at h <;> subst h <;> unfold Den at k <;> exact k
theorem SQ.fl {t:TE} {e:XE} (h:SQ K t e):SE K t (xFl e):=fun ρ σ S H Q d r x k=>by
 unfold xFl at x
 cases q:e ρ with
 | none=>rw [q] at x;cases x
 | some d'=>
  rw [q] at x
  dsimp only [Option.bind] at x
  split at x
  ·rename_i hf
   cases x
   obtain ⟨w,hw⟩:=Re.mp hf
   refine h ρ σ S H Q d r q fun v S' H' z dv=>k v S' H' z ?_
   rw [Hi hw dv]
   exact iH hw
  ·cases x
@[simp] noncomputable def xOp (f:D -> D -> Option D) (a b:XE):XE:=fun ρ=>(a ρ).bind fun x=>(b ρ).bind fun y=>f x y
def SR2 (K:W.Frag) (r:R2) (f:D -> D -> Option D):Prop:=∀ S H x y d e g (Q:VK),Same S H -> DenP K S H d x -> DenP K S H e y -> f d e = some g -> (∀ v S' H',Ext S H S' H' -> Den K S' g v -> Q v H') -> r x y H Q
theorem aG {r:R2} {f:D -> D -> Option D} {ta tb:TE} {a b:XE} (hr:SR2 K r f) (ha:SPk K ta a) (hb:SPk K tb b):SE K (tOp r ta tb) (xOp f a b):=fun ρ σ S H Q d r x k=>by
 unfold xOp at x
 cases qa:a ρ with
 | none=>rw [qa] at x;cases x
 | some da=>
  rw [qa] at x
  dsimp only [Option.bind] at x
  cases qb:b ρ with
  | none=>rw [qb] at x;cases x
  | some db=>
   rw [qb] at x
   refine ha ρ σ S H _ da r qa fun v S1 H1 z1 d1=>?_
   have r1:=r.ext z1
   refine hb ρ σ S1 H1 _ db r1 qb fun w S2 H2 z2 d2=>?_
   exact hr S2 H2 v w da db d Q z2.sub (d1.mono z2 r1.sub) d2 x fun u S3 H3 z3 d3=>k u S3 H3 ((z1.trans z2).trans z3) d3
theorem wL {S2 H3 S3:Hp} (s:Same S H) (z:Ext H H S3 H3):Ext S H S H3:=⟨Same.refl _,fun b u e=>z.sub b u (z.sh b u (s b u e)),fun b o h n=>⟨z.sub b o (z.sh b o h),.inl n⟩⟩
theorem Jb {r:R2} {f:D -> D -> Option D} {ta tb:TE} {a b:XE} (hr:SR2 K r f) (ha:SQ K ta a) (hb:SQ K tb b):SQ K (tOp r ta tb) (xOp f a b):=fun ρ σ S H Q d r x k=>by
 unfold xOp at x
 cases qa:a ρ with
 | none=>rw [qa] at x;cases x
 | some da=>
  rw [qa] at x
  dsimp only [Option.bind] at x
  cases qb:b ρ with
  | none=>rw [qb] at x;cases x
  | some db=>
   rw [qb] at x
   refine ha ρ σ S H _ da r qa fun v S1 H1 z1 d1=>?_
   have r1:=r.ext z1
   refine hb ρ σ S1 H1 _ db r1 qb fun w S2 H2 z2 d2=>?_
   exact hr H2 H2 v w da db d Q (Same.refl _) (.inl (d1.mono (z2.same r1.sub))) (.inl d2) x fun u S3 H3 z3 d3=>k u S2 H3 ((z1.trans z2).trans (wL (S2:=S2) z2.sub z3)) (d3.mono z3.sub)
@[simp] noncomputable def xUn (f:D -> Option D) (a:XE):XE:=fun ρ=>(a ρ).bind f
def SR1 (K:W.Frag) (r:V -> Hp -> VK -> Prop) (f:D -> Option D):Prop:=∀ S H x d g (Q:VK),Same S H -> DenP K S H d x -> f d = some g -> (∀ v S' H',Ext S H S' H' -> Den K S' g v -> Q v H') -> r x H Q
theorem lJ {r:V -> Hp -> VK -> Prop} {f:D -> Option D} {ta:TE} {a:XE} (hr:SR1 K r f) (ha:SPk K ta a):SE K (tUn r ta) (xUn f a):=fun ρ σ S H Q d r x k=>by
 unfold xUn at x
 cases qa:a ρ with
 | none=>rw [qa] at x;cases x
 | some da=>
  rw [qa] at x
  refine ha ρ σ S H _ da r qa fun v S1 H1 z1 d1=>?_
  exact hr S1 H1 v da d Q z1.sub d1 x fun u S3 H3 z3 d3=>k u S3 H3 (z1.trans z3) d3
@[simp] noncomputable def av:XA:=fun _=>some []
@[simp] noncomputable def ad (a:XE) (b:XA):XA:=fun ρ=>(a ρ).bind fun x=>(b ρ).bind fun y=>some (x :: y)
theorem aq:SA K mV av:=fun ρ σ S H Q ds r x k=>by cases x;exact k [] S H (Ext.refl r.sub) .nil
theorem bP:SAP K mV av:=fun ρ σ S H Q ds r x k=>by cases x;exact k [] S H (Ext.refl r.sub) .nil
theorem gX {a:XE} {b:XA} {ρ:Env} {ds:List D} (x:ad a b ρ = some ds):∃ d r,a ρ = some d /\ b ρ = some r /\ ds = d :: r:=by
 unfold ad at x
 cases qa:a ρ with
 | none=>rw [qa] at x;cases x
 | some da=>
  rw [qa] at x
  dsimp only [Option.bind] at x
  cases qb:b ρ with
  | none=>rw [qb] at x;cases x
  | some db=>rw [qb] at x;cases x;exact ⟨_,_,rfl,rfl,rfl⟩
theorem af {ta:TE} {tr:TA} {a:XE} {b:XA} (ha:SE K ta a) (hb:SA K tr b):SA K (eW ta tr) (ad a b):=fun ρ σ S H Q ds r x k=>by
 obtain ⟨da,db,qa,qb,rfl⟩:=gX x
 refine ha ρ σ S H _ da r qa fun v S1 H1 z1 d1=>hb ρ σ S1 H1 _ db (r.ext z1) qb fun vs S2 H2 z2 d2=>k _ S2 H2 (z1.trans z2) (.cons (d1.mono z2.sh) d2)
theorem a6 {ta:TE} {tr:TA} {a:XE} {b:XA} (ha:SPk K ta a) (hb:SAP K tr b):SAP K (eW ta tr) (ad a b):=fun ρ σ S H Q ds r x k=>by
 obtain ⟨da,db,qa,qb,rfl⟩:=gX x
 refine ha ρ σ S H _ da r qa fun v S1 H1 z1 d1=>hb ρ σ S1 H1 _ db (r.ext z1) qb fun vs S2 H2 z2 d2=>k _ S2 H2 (z1.trans z2) (.cons (d1.mono z2 (r.ext z1).sub) d2)
@[irreducible] noncomputable def LIM:Nat:=1000000
theorem fg:LIM < sizeLine:=by rw [O2];unfold LIM;decide
@[simp] noncomputable def bq (a:XA):XE:=fun ρ=>(a ρ).bind fun l=>if l.length <= LIM then some (.tup l) else none
theorem br {t:TA} {a:XA} (h:SA K t a):SE K (Iq t) (bq a):=fun ρ σ S H Q d r x k=>by
 unfold bq at x
 cases q:a ρ with
 | none=>rw [q] at x;cases x
 | some l=>
  rw [q] at x
  dsimp only [Option.bind] at x
  split at x
  ·rename_i hl
   cases x
   refine h ρ σ S H _ l r q fun vs S1 H1 z1 d1=>⟨?_,fun p hp=>?_⟩
   ·rw [<- d1.length];exact Pk (Pw hl fg)
   ·have z2:=Ext.new (o:=.tup vs) z1.sub hp
    exact k _ _ _ (z1.trans z2) (den_tup.mpr ⟨p,vs,rfl,TpA.of aB,d1.mono z2.sh⟩)
  ·cases x
@[simp] noncomputable def j7 (a:XA):XA:=fun ρ=>(a ρ).bind fun l=>if l.length <= LIM then some l else none
theorem ij {t:TA} {a:XA} (h:SA K t a):SF K (Kz t) (j7 a):=fun ρ σ S H Q l r x k=>by
 unfold j7 at x
 cases q:a ρ with
 | none=>rw [q] at x;cases x
 | some l=>
  rw [q] at x
  dsimp only [Option.bind] at x
  split at x
  ·rename_i hl
   cases x
   refine h ρ σ S H _ l r q fun vs S1 H1 z1 d1=>⟨?_,fun p hp=>?_⟩
   ·rw [<- d1.length];exact Pk (Pw hl fg)
   ·have hp0:H p = none:=(z1.same r.sub).free hp
    exact k p vs S1 _ (z1.trans (Ext.own z1.sub hp)) hp0 (z1.sub.free hp) aB d1
  ·cases x
@[simp] noncomputable def xCB (f:List D -> Option D) (a:XA):XE:=fun ρ=>(a ρ).bind f
def SRB (K:W.Frag) (r:List V -> Hp -> VK -> Prop) (f:List D -> Option D):Prop:=∀ S H vs ds g (Q:VK),Same S H -> DensP K S H ds vs -> f ds = some g -> (∀ v S' H',Ext S H S' H' -> Den K S' g v -> Q v H') -> r vs H Q
theorem iY {r:List V -> Hp -> VK -> Prop} {f:List D -> Option D} {t:TA} {a:XA} (hr:SRB K r f) (h:SAP K t a):SE K (tCB r t) (xCB f a):=fun ρ σ S H Q d rl x k=>by
 unfold xCB at x
 cases q:a ρ with
 | none=>rw [q] at x;cases x
 | some ds=>
  rw [q] at x
  refine h ρ σ S H _ ds rl q fun vs S1 H1 z1 d1=>?_
  exact hr S1 H1 vs ds d Q z1.sub d1 x fun v S2 H2 z2 d2=>k v S2 H2 (z1.trans z2) d2
@[simp] noncomputable def GK (f:List D -> Option (List D)) (a:XA):XA:=fun ρ=>(a ρ).bind f
def SRF (K:W.Frag) (r:List V -> Hp -> VK -> Prop) (f:List D -> Option (List D)):Prop:=∀ S H vs ds g (Q:VK),Same S H -> DensP K S H ds vs -> f ds = some g -> (∀ a xs H',Ext S H S H' -> H a = none -> H' a = some (.lst xs) -> Dens K S g xs -> Q (.ref a) H') -> r vs H Q
theorem F3 {r:List V -> Hp -> VK -> Prop} {f:List D -> Option (List D)} {t:TA} {a:XA} (hr:SRF K r f) (h:SAP K t a):SF K (tCB r t) (GK f a):=fun ρ σ S H Q d rl x k=>by
 unfold GK at x
 cases q:a ρ with
 | none=>rw [q] at x;cases x
 | some ds=>
  rw [q] at x
  refine h ρ σ S H _ ds rl q fun vs S1 H1 z1 d1=>?_
  exact hr S1 H1 vs ds d Q z1.sub d1 x fun b xs H2 z2 h1 h2 d2=>k b xs S1 H2 (z1.trans z2) ((z1.same rl.sub).free h1) (z1.sub.free h1) h2 d2
def STr (K:W.Frag) (t:TE) (e:Env -> Option O):Prop:=∀ ρ σ S H (Q:VK) o,Rl K ρ σ S H -> e ρ = some o -> (∀ v fp S' H',Ext S H S' H' -> Own K S' H' o v fp -> fp.Nodup -> (∀ b ∈ fp,H b = none /\ S' b = none) -> Q v H') -> t σ H Q
@[simp] noncomputable def xLT (e:XA):Env -> Option O:=fun ρ=>(e ρ).map fun l=>.lst (l.map .sh)
theorem SF.t {t:TE} {e:XA} (h:SF K t e):STr K t (xLT e):=fun ρ σ S H Q o r x k=>by
 unfold xLT at x
 cases q:e ρ with
 | none=>rw [q] at x;cases x
 | some l=>
  rw [q] at x
  cases x
  refine h ρ σ S H Q l r q fun a xs S' H' z h1 h2 h3 h4=>?_
  refine k _ [a] S' H' z (own_lst.mpr ⟨a,xs,[],rfl,rfl,h3,nN h4⟩) (by simp) fun b hb=>?_
  rw [OO.mp hb]
  exact ⟨h1,h2⟩
@[simp] noncomputable def xSh (e:XE):Env -> Option O:=fun ρ=>(e ρ).map .sh
theorem SE.t {t:TE} {e:XE} (h:SE K t e):STr K t (xSh e):=fun ρ σ S H Q o r x k=>by
 unfold xSh at x
 cases q:e ρ with
 | none=>rw [q] at x;cases x
 | some d=>
  rw [q] at x
  cases x
  exact h ρ σ S H Q d r q fun v S' H' z dv=>k v [] S' H' z (own_sh.mpr ⟨rfl,dv⟩) .nil fun b hb=>by cases hb
noncomputable def nD (S H:Hp) (fp:List Addr):Hp:=fun b=>if b ∈ fp then H b else S b
theorem eJ {fp:List Addr} {b:Addr} (h:b ∈ fp):nD S H fp b = H b:=by unfold nD;rw [OC h]
theorem cU {fp:List Addr} {b:Addr} (h:b ∉ fp):nD S H fp b = S b:=by unfold nD;rw [OB h]
theorem lh {fp:List Addr} (n:∀ b ∈ fp,S b = none):Same S (nD S H fp):=fun b o e=>by
 rw [cU fun hb=>by rw [n b hb] at e;cases e]
 exact e
theorem yy {fp:List Addr} (s:Same S H):Same (nD S H fp) H:=fun b o e=>by
 by_cases hb:b ∈ fp
 ·rw [eJ hb] at e;exact e
 ·rw [cU hb] at e;exact s b o e
theorem yx {fp:List Addr} (z:Ext S H S' H') (n:∀ b ∈ fp,H b = none /\ S' b = none):Ext S H (nD S' H' fp) H':=
 ⟨z.sh.trans (lh fun b hb=>(n b hb).2),yy z.sub,fun b o h hn=>⟨(z.alw b o h hn).1,by rw [cU fun hb=>by rw [(n b hb).1] at h;cases h];exact (z.alw b o h hn).2⟩⟩
@[simp] noncomputable def xOD (e:Env -> Option O):XE:=fun ρ=>(e ρ).map O.d
theorem STr.e {t:TE} {e:Env -> Option O} (h:STr K t e):SE K t (xOD e):=fun ρ σ S H Q d r x k=>by
 unfold xOD at x
 cases q:e ρ with
 | none=>rw [q] at x;cases x
 | some o=>
  rw [q] at x
  cases x
  exact h ρ σ S H Q o r q fun v fp S' H' z ow nd n=>k v _ H' (yx z n) (ow.den (lh fun b hb=>(n b hb).2) fun b hb=>eJ hb)
noncomputable def fX (K:W.Frag) (n:Nat) (m:List D -> Option O):Sp:=fun vs H Q _=>vs.length = n /\ ∃ S ds o,Same S H /\ Dens K S ds vs /\ m ds = some o /\ ∀ v fp S' H',Ext S H S' H' -> Own K S' H' o v fp -> fp.Nodup -> (∀ b ∈ fp,H b = none /\ S' b = none) -> Q v H'
@[simp] noncomputable def tV (m:List D -> Option O) (a:XA):Env -> Option O:=fun ρ=>(a ρ).bind m
theorem xt {n:Nat} {m:List D -> Option O} {E:XK} {t:TA} {a:XA} (h:SA K t a) (hn:∀ ρ ds,a ρ = some ds -> ds.length = n):STr K (tP (fX K n m) [] E t) (tV m a):=fun ρ σ S H Q o rl x k=>by
 unfold tV at x
 cases q:a ρ with
 | none=>rw [q] at x;cases x
 | some ds=>
  rw [q] at x
  refine h ρ σ S H _ ds rl q fun vs S1 H1 z1 d1=>?_
  rw [Pd]
  refine ⟨by rw [<- d1.length];exact hn ρ ds q,S1,ds,o,z1.sub,d1,x,fun v fp S2 H2 z2 ow nd n=>k v fp S2 H2 (z1.trans z2) ow nd fun b hb=>⟨(z1.same rl.sub).free (n b hb).1,(n b hb).2⟩⟩
@[simp] noncomputable def bt (m:List D -> Option D) (a:XA):XE:=fun ρ=>(a ρ).bind m
theorem bS {n:Nat} {m:List D -> Option O} {E:XK} {t:TA} {a:XA} (h:SA K t a) (hn:∀ ρ ds,a ρ = some ds -> ds.length = n):SE K (tP (fX K n m) [] E t) (bt (fun ds=>(m ds).map O.d) a):=by
 have:=(xt (m:=m) (E:=E) h hn).e
 have e:xOD (tV m a) = bt (fun ds=>(m ds).map O.d) a:=by
  funext ρ
  show ((a ρ).bind m).map O.d = (a ρ).bind fun ds=>(m ds).map O.d
  cases a ρ <;> rfl
 rw [e] at this
 exact this
def SAQ (K:W.Frag) (t:TA) (e:XA):Prop:=∀ ρ σ S H (Q:List V -> Hp -> Prop) ds,Rl K ρ σ S H -> e ρ = some ds -> (∀ vs S' H',Ext S H S' H' -> Dens K H' ds vs -> Q vs H') -> t σ H Q
theorem Bx:SAQ K mV av:=fun ρ σ S H Q ds r x k=>by cases x;exact k [] S H (Ext.refl r.sub) .nil
theorem lB {ta:TE} {tr:TA} {a:XE} {b:XA} (ha:SQ K ta a) (hb:SAQ K tr b):SAQ K (eW ta tr) (ad a b):=fun ρ σ S H Q ds r x k=>by
 obtain ⟨da,db,qa,qb,rfl⟩:=gX x
 refine ha ρ σ S H _ da r qa fun v S1 H1 z1 d1=>hb ρ σ S1 H1 _ db (r.ext z1) qb fun vs S2 H2 z2 d2=>k _ S2 H2 (z1.trans z2) (.cons (d1.mono (z2.same (r.ext z1).sub)) d2)
@[simp] noncomputable def M6 (m:List D -> Option D) (a:XA):XE:=fun ρ=>((a ρ).bind m).bind fun d=>if (mE d).isSome then some d else none
theorem I9 {r:List V -> Hp -> VK -> Prop} {f:List D -> Option D} {t:TA} {a:XA} (hr:SRB K r f) (h:SAQ K t a):SQ K (tCB r t) (xCB f a):=fun ρ σ S H Q d rl x k=>by
 unfold xCB at x
 cases q:a ρ with
 | none=>rw [q] at x;cases x
 | some ds=>
  rw [q] at x
  refine h ρ σ S H _ ds rl q fun vs S1 H1 z1 d1=>?_
  have dp:DensP K H1 H1 ds vs:=by
   clear q x
   revert d1
   induction ds generalizing vs with
   | nil=>intro d1;rw [d1.nil_of];exact .nil
   | cons d ds ih=>
    intro d1
    obtain ⟨y,ys,rfl,e1,e2⟩:=d1.cons_of
    exact .cons (.inl e1) (ih ys e2)
  exact hr H1 H1 vs ds d Q (Same.refl _) dp x fun v S2 H2 z2 d2=>k v S1 H2 (z1.trans (wL (S2:=S1) z1.sub z2)) (d2.mono z2.sub)
def SAT (K:W.Frag) (t:TA) (e:Env -> Option (List O)):Prop:=∀ ρ σ S H (Q:List V -> Hp -> Prop) os,Rl K ρ σ S H -> e ρ = some os -> (∀ vs fp S' H',Ext S H S' H' -> Owns K S' H' os vs fp -> fp.Nodup -> (∀ b ∈ fp,H b = none /\ S' b = none) -> Q vs H') -> t σ H Q
@[simp] noncomputable def GQ:Env -> Option (List O):=fun _=>some []
@[simp] noncomputable def xJ (a:Env -> Option O) (b:Env -> Option (List O)):Env -> Option (List O):=fun ρ=>(a ρ).bind fun x=>(b ρ).bind fun y=>some (x :: y)
theorem Gn:SAT K mV GQ:=fun ρ σ S H Q ds r x k=>by cases x;exact k [] [] S H (Ext.refl r.sub) .nil .nil fun _ hb=>by cases hb
theorem CG {ta:TE} {tr:TA} {a:Env -> Option O} {b:Env -> Option (List O)} (ha:STr K ta a) (hb:SAT K tr b):SAT K (eW ta tr) (xJ a b):=fun ρ σ S H Q os r x k=>by
 unfold xJ at x
 cases qa:a ρ with
 | none=>rw [qa] at x;cases x
 | some oa=>
  rw [qa] at x
  dsimp only [Option.bind] at x
  cases qb:b ρ with
  | none=>rw [qb] at x;cases x
  | some ob=>
   rw [qb] at x
   cases x
   refine ha ρ σ S H _ oa r qa fun v fp S1 H1 z1 o1 nd1 n1=>hb ρ σ S1 H1 _ ob (r.ext z1) qb fun vs fq S2 H2 z2 o2 nd2 n2=>?_
   obtain ⟨k1,k2⟩:=z2.keeps (fun b hb=>(n1 b hb).2) o1.there o1.nit
   refine k _ _ S2 H2 (z1.trans z2) (.cons (o1.mono z2.sh k1) o2) ?_ fun c hc=>?_
   ·refine PP.mpr ⟨nd1,nd2,fun c hc d hd e=>?_⟩
    subst e
    exact o1.there c hc (n2 c hd).1
   ·rcases OV.mp hc with hc | hc
    ·exact ⟨(n1 c hc).1,k2 c hc⟩
    ·exact ⟨(z1.same r.sub).free (n2 c hc).1,(n2 c hc).2⟩
@[simp] noncomputable def iR:List O -> Bool
 | []=>true
 | .sh (.int _) :: l=>iR l
 | .hd _ _ _ :: l=>iR l
 | _ :: _=>false
@[simp] noncomputable def GU (a:Env -> Option (List O)):Env -> Option O:=fun ρ=>(a ρ).bind fun l=>if l.length <= LIM /\ iR l = false then some (.tup l) else none
theorem Ay {d:D} {k:Int} (h:Den K S d (.int k)):d = .int k:=by
 cases d <;> unfold Den at h <;> first | (cases h;rfl) | (cases h;done) | (obtain ⟨_,h,_⟩:=h;cases h;done) | (obtain ⟨_,_,h,_⟩:=h;cases h;done) | (obtain ⟨_,_,_,h,_⟩:=h;cases h;done) | (obtain ⟨_,_,_,_,h,_⟩:=h;cases h;done)
theorem zb:∀ {l:List O} {xs:List V} {fp:List Addr} {ks:List Int},Owns K S H l xs fp -> xs = ks.map V.int -> iR l = true
 | [],_,_,_,_,_=>rfl
 | o :: l,_,_,ks,h,e=>by
  obtain ⟨y,ys,f,g,rfl,rfl,a,b⟩:=h.cons_of
  cases ks with
  | nil=>cases e
  | cons k ks=>
   rw [OQ] at e
   cases e
   have ih:=zb b rfl
   cases o with
   | sh d=>
    obtain ⟨_,d1⟩:=own_sh.mp a
    have:d = .int k:=Ay d1
    subst this
    unfold iR
    exact ih
   | lst _=>obtain ⟨_,_,_,e,_⟩:=own_lst.mp a;cases e
   | tup _=>obtain ⟨_,_,_,e,_⟩:=own_tup.mp a;cases e
   | dic _=>obtain ⟨_,e,_⟩:=own_dic.mp a;cases e
   | hd p q os=>
    unfold iR
    exact ih
@[simp] noncomputable def GO (a:Env -> Option (List O)):Env -> Option O:=fun ρ=>(a ρ).bind fun l=>if l.length <= LIM then some (.lst l) else none
theorem pz {fp:List Addr} {p:Addr} {o:HO} (h:H p = none) (t:∀ b ∈ fp,H b ≠ none):(∀ b ∈ fp,upd H p o b = H b) /\ p ∉ fp:=by
 have np:p ∉ fp:=fun hp=>t p hp h
 exact ⟨fun b hb=>aD fun e=>np (e ▸ hb),np⟩
theorem Kr {t:TA} {a:Env -> Option (List O)} (h:SAT K t a):STr K (Iq t) (GU a):=fun ρ σ S H Q o r x k=>by
 unfold GU at x
 cases q:a ρ with
 | none=>rw [q] at x;cases x
 | some l=>
  rw [q] at x
  dsimp only [Option.bind] at x
  split at x
  ·rename_i hlc
   obtain ⟨hl,hc⟩:=hlc
   cases x
   refine h ρ σ S H _ l r q fun vs fp S1 H1 z1 o1 nd1 n1=>⟨?_,fun p hp=>?_⟩
   ·rw [<- o1.length];exact Pk (Pw hl fg)
   ·obtain ⟨k1,k2⟩:=pz (o:=.tup vs) hp o1.there
    have nit:¬ IT (.tup vs):=fun hpt0=>by
     obtain ⟨ks,e⟩:=hpt0
     cases e
     rw [zb o1 rfl] at hc
     cases hc
    refine k _ (p :: fp) S1 _ (z1.trans (Ext.own z1.sub hp)) (own_tup.mpr ⟨p,vs,fp,rfl,rfl,⟨aB,nit⟩,o1.mono (Same.refl _) k1⟩) (O4.mpr ⟨k2,nd1⟩) fun b hb=>?_
    rcases OP.mp hb with rfl | hb
    ·exact ⟨(z1.same r.sub).free hp,z1.sub.free hp⟩
    ·exact n1 b hb
  ·cases x
theorem Km {t:TA} {a:Env -> Option (List O)} (h:SAT K t a):STr K (Kz t) (GO a):=fun ρ σ S H Q o r x k=>by
 unfold GO at x
 cases q:a ρ with
 | none=>rw [q] at x;cases x
 | some l=>
  rw [q] at x
  dsimp only [Option.bind] at x
  split at x
  ·rename_i hl
   cases x
   refine h ρ σ S H _ l r q fun vs fp S1 H1 z1 o1 nd1 n1=>⟨?_,fun p hp=>?_⟩
   ·rw [<- o1.length];exact Pk (Pw hl fg)
   ·obtain ⟨k1,k2⟩:=pz (o:=.lst vs) hp o1.there
    refine k _ (p :: fp) S1 _ (z1.trans (Ext.own z1.sub hp)) (own_lst.mpr ⟨p,vs,fp,rfl,rfl,aB,o1.mono (Same.refl _) k1⟩) (O4.mpr ⟨k2,nd1⟩) fun b hb=>?_
    rcases OP.mp hb with rfl | hb
    ·exact ⟨(z1.same r.sub).free hp,z1.sub.free hp⟩
    ·exact n1 b hb
  ·cases x
theorem aW {ρ:Env} {ds:List D} (h:av ρ = some ds):ds.length = 0:=by cases h;rfl
theorem ar {a:XE} {b:XA} {n:Nat} (h:∀ ρ ds,b ρ = some ds -> ds.length = n) (ρ:Env) (ds:List D) (x:ad a b ρ = some ds):ds.length = n + 1:=by
 obtain ⟨da,db,qa,qb,rfl⟩:=gX x
 rw [OL,h ρ db qb]
@[simp] noncomputable def zZ (a b:XE):XE:=fun ρ=>(a ρ).bind fun x=>match x with | .bl true=>b ρ | .bl false=>some (.bl false) | _=>none
@[simp] noncomputable def KF (a b:XE):XE:=fun ρ=>(a ρ).bind fun x=>match x with | .bl true=>some (.bl true) | .bl false=>b ρ | _=>none
@[simp] noncomputable def GR (a:XE):XE:=fun ρ=>(a ρ).bind fun x=>match x with | .bl c=>some (.bl (!c)) | _=>none
theorem Bm {ta tb:TE} {a b:XE} (ha:SPk K ta a) (hb:SE K tb b):SE K (Jd ta tb) (zZ a b):=fun ρ σ S H Q d r x k=>by
 unfold zZ at x
 cases qa:a ρ with
 | none=>rw [qa] at x;cases x
 | some da=>
  rw [qa] at x
  dsimp only [Option.bind] at x
  refine ha ρ σ S H _ da r qa fun v S1 H1 z1 d1=>?_
  split at x
  ·exact ⟨true,d1.bl,yE (hb ρ σ S1 H1 Q d (r.ext z1) x fun w S2 H2 z2 d2=>k w S2 H2 (z1.trans z2) d2)⟩
  ·cases x
   exact ⟨false,d1.bl,yD (k _ S1 H1 z1 (den_bl.mpr rfl))⟩
  ·cases x
theorem LF {ta tb:TE} {a b:XE} (ha:SPk K ta a) (hb:SE K tb b):SE K (LS ta tb) (KF a b):=fun ρ σ S H Q d r x k=>by
 unfold KF at x
 cases qa:a ρ with
 | none=>rw [qa] at x;cases x
 | some da=>
  rw [qa] at x
  dsimp only [Option.bind] at x
  refine ha ρ σ S H _ da r qa fun v S1 H1 z1 d1=>?_
  split at x
  ·cases x
   exact ⟨true,d1.bl,yE (k _ S1 H1 z1 (den_bl.mpr rfl))⟩
  ·exact ⟨false,d1.bl,yD (hb ρ σ S1 H1 Q d (r.ext z1) x fun w S2 H2 z2 d2=>k w S2 H2 (z1.trans z2) d2)⟩
  ·cases x
theorem Kn {ta:TE} {a:XE} (ha:SPk K ta a):SE K (Jg ta) (GR a):=fun ρ σ S H Q d r x k=>by
 unfold GR at x
 cases qa:a ρ with
 | none=>rw [qa] at x;cases x
 | some da=>
  rw [qa] at x
  dsimp only [Option.bind] at x
  refine ha ρ σ S H _ da r qa fun v S1 H1 z1 d1=>?_
  split at x
  ·cases x
   exact ⟨_,d1.bl,k _ S1 H1 z1 (den_bl.mpr rfl)⟩
  ·cases x
@[simp] noncomputable def Oq (c:XT) (a b:XE):XE:=fun ρ=>(c ρ).bind fun q=>if q = true then a ρ else b ρ
@[simp] noncomputable def xB (a:XE):XT:=fun ρ=>(a ρ).bind fun x=>match x with | .bl c=>some c | _=>none
theorem s_b {ta:TE} {a:XE} (ha:SPk K ta a):ST K (tB ta) (xB a):=fun ρ σ S H Q b r x k=>by
 unfold xB at x
 cases qa:a ρ with
 | none=>rw [qa] at x;cases x
 | some da=>
  rw [qa] at x
  dsimp only [Option.bind] at x
  refine ha ρ σ S H _ da r qa fun v S1 H1 z1 d1=>?_
  split at x
  ·cases x
   exact ⟨_,d1.bl,k S1 H1 z1⟩
  ·cases x
theorem bE {ta:TE} {a:XE} (ha:SPk K ta a):ST K (Ji ta) (xB a):=s_b ha
noncomputable def zV:D -> Option Bool
 | .non=>some false
 | .bl b=>some b
 | .int i=>some (i != 0)
 | .str y=>if y.length <= LIM then some ((y.length:Int) != 0) else none
 | .lst l=>some (!l.isEmpty)
 | .tup l=>some (!l.isEmpty)
 | .scr l=>some (!l.isEmpty)
 | _=>none
theorem my {ds:List D} {xs:List V} (h:Dens K S ds xs):(!ds.isEmpty) = !xs.isEmpty:=by
 have:=h.length
 cases ds <;> cases xs <;> simp_all
@[simp] noncomputable def lK (a:XE):XT:=fun ρ=>(a ρ).bind zV
theorem GA {d:D} {v:V} {b:Bool} (s:Same S H) (h:DenP K S H d v) (x:zV d = some b):Eh K v H b:=by
 cases d with
 | non=>rw [h.non];cases x;rfl
 | bl c=>rw [h.bl];cases x;rfl
 | int i=>rw [h.int];cases x;rfl
 | str y=>
  rw [h.str]
  have x':(if y.length <= LIM then some ((y.length:Int) != 0) else none) = some b:=x
  split at x'
  ·rename_i hl;cases x';exact ⟨Pk (Pw hl fg),rfl⟩
  ·cases x'
 | lst l=>
  obtain ⟨p,xs,rfl,h1,h2⟩:=h.lst s
  cases x
  exact .inl ⟨xs,.inl h1,my h2⟩
 | tup l=>
  obtain ⟨p,xs,rfl,h1,h2⟩:=h.tup s
  cases x
  exact .inr (.inl ⟨xs,h1,my h2⟩)
 | scr l=>
  obtain ⟨p,xs,rfl,h1,h2⟩:=h.scr s
  cases x
  exact .inl ⟨xs,h1,my h2⟩
 | _=>cases x
end
section
variable {K:W.Frag} {S S' H H':Hp}
theorem LG {ta:TE} {a:XE} (ha:SPk K ta a):ST K (fun σ H Q=>ta σ H fun x H'=>∃ k,Eh K x H' k /\ Q k H') (lK a):=fun ρ σ S H Q b r x k=>by
 unfold lK at x
 cases qa:a ρ with
 | none=>rw [qa] at x;cases x
 | some da=>
  rw [qa] at x
  exact ha ρ σ S H _ da r qa fun v S1 H1 z1 d1=>⟨b,GA z1.sub d1 x,k S1 H1 z1⟩
@[simp] noncomputable def xH (a b:XT):XT:=fun ρ=>(a ρ).bind fun x=>if x = true then b ρ else some false
@[simp] noncomputable def xOr (a b:XT):XT:=fun ρ=>(a ρ).bind fun x=>if x = true then some true else b ρ
@[simp] noncomputable def z7 (a:XT):XT:=fun ρ=>(a ρ).map fun x=>!x
theorem vR {ta tb:TT} {a b:XT} (ha:ST K ta a) (hb:ST K tb b):ST K (LN ta tb) (xH a b):=fun ρ σ S H Q d r x k=>by
 unfold xH at x
 cases qa:a ρ with
 | none=>rw [qa] at x;cases x
 | some q=>
  rw [qa] at x
  dsimp only [Option.bind] at x
  refine ha ρ σ S H _ q r qa fun S1 H1 z1=>?_
  cases q with
  | true=>exact yE (hb ρ σ S1 H1 Q d (r.ext z1) (by simpa using x) fun S2 H2 z2=>k S2 H2 (z1.trans z2))
  | false=>
   have:d = false:=by simpa using x.symm
   subst this
   exact yD (k S1 H1 z1)
theorem xu {ta tb:TT} {a b:XT} (ha:ST K ta a) (hb:ST K tb b):ST K (tOr ta tb) (xOr a b):=fun ρ σ S H Q d r x k=>by
 unfold xOr at x
 cases qa:a ρ with
 | none=>rw [qa] at x;cases x
 | some q=>
  rw [qa] at x
  dsimp only [Option.bind] at x
  refine ha ρ σ S H _ q r qa fun S1 H1 z1=>?_
  cases q with
  | false=>exact yD (hb ρ σ S1 H1 Q d (r.ext z1) (by simpa using x) fun S2 H2 z2=>k S2 H2 (z1.trans z2))
  | true=>
   have:d = true:=by simpa using x.symm
   subst this
   exact yE (k S1 H1 z1)
theorem vS {ta:TT} {a:XT} (ha:ST K ta a):ST K (LQ ta) (z7 a):=fun ρ σ S H Q d r x k=>by
 unfold z7 at x
 cases qa:a ρ with
 | none=>rw [qa] at x;cases x
 | some q=>
  rw [qa] at x
  cases x
  exact ha ρ σ S H _ q r qa k
inductive Out where
 | nx (ρ:Env) | rt (d:D) | ro (o:O) | bk (ρ:Env) | ct (ρ:Env)
noncomputable abbrev XS:=Env -> Option Out
noncomputable def Done (K:W.Frag) (A:Hp) (Λ:Nat -> Option Addr) (S:Hp) (E:Ends):Out -> Prop
 | .nx ρ=>∀ σ' S' H',RlA K A Λ ρ σ' S' H' -> Same S S' -> E.nx σ' H'
 | .bk ρ=>∀ σ' S' H',RlA K A Λ ρ σ' S' H' -> Same S S' -> E.bk σ' H'
 | .ct ρ=>∀ σ' S' H',RlA K A Λ ρ σ' S' H' -> Same S S' -> E.ct σ' H'
 | .rt d=>∀ v S' H',Same S S' -> Same S' H' -> Same A H' -> (∀ b,S' b = none \/ A b = none \/ ∃ u,A b = some u /\ IT u) -> Den K S' d v -> E.rt v H'
 | .ro o=>∀ v fp S' H',Same S S' -> Same S' H' -> Same A H' -> (∀ b,S' b = none \/ A b = none \/ ∃ u,A b = some u /\ IT u) -> Own K S' H' o v fp -> fp.Nodup -> (∀ b ∈ fp,S' b = none /\ A b = none) -> E.rt v H'
theorem Done.mono {A:Hp} {Λ:Nat -> Option Addr} {E:Ends} {o:Out} (s:Same S S') (h:Done K A Λ S E o):Done K A Λ S' E o:=by
 cases o with
 | nx ρ=>exact fun σ1 S1 H1 r z=>h σ1 S1 H1 r (s.trans z)
 | bk ρ=>exact fun σ1 S1 H1 r z=>h σ1 S1 H1 r (s.trans z)
 | ct ρ=>exact fun σ1 S1 H1 r z=>h σ1 S1 H1 r (s.trans z)
 | rt d=>exact fun v S1 H1 z=>h v S1 H1 (s.trans z)
 | ro d=>exact fun v fp S1 H1 z=>h v fp S1 H1 (s.trans z)
def SS (K:W.Frag) (t:TS) (m:XS):Prop:=∀ A Λ ρ σ S H (E:Ends) o,RlA K A Λ ρ σ S H -> m ρ = some o -> Done K A Λ S E o -> t E σ H
@[simp] noncomputable def im:XS:=fun ρ=>some (.nx ρ)
theorem ft:SS K Jf im:=fun A Λ ρ σ S H E o r x k=>by cases x;exact k σ S H r (Same.refl _)
@[simp] noncomputable def M5:XS:=fun ρ=>some (.bk ρ)
@[simp] noncomputable def NF:XS:=fun ρ=>some (.ct ρ)
@[simp] noncomputable def GP:XS:=fun _=>none
theorem Ib {t:TS}:SS K t GP:=fun A Λ ρ σ S H E o r x k=>by cases x
@[simp] noncomputable def bh (m n:XS):XS:=fun ρ=>match m ρ with | some (.nx ρ')=>n ρ' | o=>o
theorem aK {t u:TS} {m n:XS} (ht:SS K t m) (hu:SS K u n):SS K (LU t u) (bh m n):=fun A Λ ρ σ S H E o r x k=>by
 unfold bh at x
 cases q:m ρ with
 | none=>rw [q] at x;cases x
 | some om=>
  rw [q] at x
  refine ht A Λ ρ σ S H _ om r q ?_
  cases om with
  | nx ρ'=>exact fun σ' S' H' r' z=>hu A Λ ρ' σ' S' H' E o r' x (k.mono z)
  | rt d=>cases x;exact k
  | ro d=>cases x;exact k
  | bk d=>cases x;exact k
  | ct d=>cases x;exact k
@[simp] noncomputable def i4 (e:XE):XS:=fun ρ=>(e ρ).map .rt
theorem eV {te:TE} {e:XE} (h:SE K te e):SS K (D5 te) (i4 e):=fun A Λ ρ σ S H E o r x k=>by
 unfold i4 at x
 cases q:e ρ with
 | none=>rw [q] at x;cases x
 | some d=>
  rw [q] at x
  cases x
  refine h ρ σ S H _ d r.toRl q fun v S1 H1 z1 d1=>?_
  have r1:=r.ext z1
  exact k v S1 H1 z1.sh z1.sub r1.asub r1.adis d1
@[simp] noncomputable def tZ (e:Env -> Option O):XS:=fun ρ=>(e ρ).map .ro
theorem xw {te:TE} {e:Env -> Option O} (h:STr K te e):SS K (D5 te) (tZ e):=fun A Λ ρ σ S H E o r x k=>by
 unfold tZ at x
 cases q:e ρ with
 | none=>rw [q] at x;cases x
 | some ot=>
  rw [q] at x
  cases x
  refine h ρ σ S H _ ot r.toRl q fun v fp S1 H1 z1 o1 nd n=>?_
  have r1:=r.ext z1
  exact k v fp S1 H1 z1.sh z1.sub r1.asub r1.adis o1 nd fun b hb=>⟨(n b hb).2,r.asub.free (n b hb).1⟩
@[simp] noncomputable def z9 (i:Nat):XS:=fun ρ=>match ρ[i]? with | some (.sh d)=>some (.rt d) | some (.ow o)=>some (.ro o) | _=>none
theorem Bo (i:Nat):SS K (D5 (g6 i)) (z9 i):=fun A Λ ρ σ S H E o r x k=>by
 unfold z9 at x
 cases q:ρ[i]? with
 | none=>rw [q] at x;cases x
 | some s=>
  rw [q] at x
  obtain ⟨Φ,f⟩:=r
  cases s with
  | un=>cases x
  | lo=>cases x
  | sh d=>
   cases x
   obtain ⟨v,h1,h2⟩:=f.sh i d q
   exact ⟨v,h1,k v S H (Same.refl _) f.sub f.asub f.adis h2⟩
  | ow ot=>
   cases x
   obtain ⟨v,h1,h2,h3,h4⟩:=f.ow i ot q
   exact ⟨v,h1,k v _ S H (Same.refl _) f.sub f.asub f.adis h2 h3 h4⟩
@[simp] noncomputable def NO:XS:=fun _=>some (.rt .non)
@[simp] noncomputable def xIf (c:XT) (m n:XS):XS:=fun ρ=>(c ρ).bind fun b=>if b = true then m ρ else n ρ
theorem mU {tc:TT} {t u:TS} {c:XT} {m n:XS} (hc:ST K tc c) (ht:SS K t m) (hu:SS K u n):SS K (LP tc t u) (xIf c m n):=fun A Λ ρ σ S H E o r x k=>by
 unfold xIf at x
 cases qc:c ρ with
 | none=>rw [qc] at x;cases x
 | some q=>
  rw [qc] at x
  dsimp only [Option.bind] at x
  refine hc ρ σ S H _ q r.toRl qc fun S1 H1 z1=>?_
  cases q with
  | true=>exact yE (ht A Λ ρ σ S1 H1 E o (r.ext z1) (by simpa using x) (k.mono z1.sh))
  | false=>exact yD (hu A Λ ρ σ S1 H1 E o (r.ext z1) (by simpa using x) (k.mono z1.sh))
theorem bv {α:Type} {l:List α} {i j:Nat} {x y:α} (h:(l.set i x)[j]? = some y):(i = j /\ y = x /\ i < l.length) \/ (i ≠ j /\ l[j]? = some y):=by
 by_cases hij:i = j
 ·subst hij
  have hl:=(Pg.mp h).1
  rw [Qb] at hl
  rw [QK hl] at h
  exact .inl ⟨rfl,(Pj h).symm,hl⟩
 ·rw [PF hij] at h
  exact .inr ⟨hij,h⟩
theorem RlF.set {A:Hp} {Λ:Nat -> Option Addr} {Φ:Nat -> List Addr} {ρ:Env} {σ:St} {d:D} {v:V} (r:RlF K A Λ Φ ρ σ S H) (i:Nat) (h:Den K S d v):RlF K A Λ Φ (ρ.set i (.sh d)) (σ.set i (some v)) S H where
 len:=by rw [Qb,Qb];exact r.len
 sub:=r.sub
 sh:=fun j e hj=>by
  rcases bv hj with ⟨rfl,e,hl⟩ | ⟨hij,hj⟩
  ·cases e
   exact ⟨v,QK (by rw [r.len];exact hl),h⟩
  ·rw [PF hij]
   exact r.sh j e hj
 ow:=fun j o hj=>by
  rcases bv hj with ⟨rfl,e,hl⟩ | ⟨hij,hj⟩
  ·cases e
  ·rw [PF hij]
   exact r.ow j o hj
 dj:=fun j k o o' hjk h1 h2=>by
  rcases bv h1 with ⟨rfl,e,hl⟩ | ⟨hij,h1⟩
  ·cases e
  ·rcases bv h2 with ⟨rfl,e,hl⟩ | ⟨hik,h2⟩
   ·cases e
   ·exact r.dj j k o o' hjk h1 h2
 lo:=fun j hj=>by
  rcases bv hj with ⟨rfl,e,hl⟩ | ⟨hij,hj⟩
  ·cases e
  ·rw [PF hij]
   exact r.lo j hj
 asub:=r.asub
 adis:=r.adis
theorem RlA.set {A:Hp} {Λ:Nat -> Option Addr} {ρ:Env} {σ:St} {d:D} {v:V} (r:RlA K A Λ ρ σ S H) (i:Nat) (h:Den K S d v):RlA K A Λ (ρ.set i (.sh d)) (σ.set i (some v)) S H:=let ⟨Φ,f⟩:=r;⟨Φ,f.set i h⟩
theorem RlF.put {A:Hp} {Λ:Nat -> Option Addr} {Φ:Nat -> List Addr} {ρ:Env} {σ:St} {o:O} {v:V} {fp:List Addr} (r:RlF K A Λ Φ ρ σ S H) (i:Nat) (sub:Same S H') (asub:Same A H') (ow:Own K S H' o v fp) (nd:fp.Nodup) (n:∀ b ∈ fp,S b = none /\ A b = none)
  (keep:∀ (j:Nat) o',j ≠ i -> ρ[j]? = some (.ow o') -> ∀ b ∈ Φ j,H' b = H b /\ b ∉ fp):RlF K A Λ (fun j=>if j = i then fp else Φ j) (ρ.set i (.ow o)) (σ.set i (some v)) S H' where
 len:=by rw [Qb,Qb];exact r.len
 sub:=sub
 sh:=fun j e hj=>by
  rcases bv hj with ⟨rfl,e,hl⟩ | ⟨hij,hj⟩
  ·cases e
  ·rw [PF hij]
   exact r.sh j e hj
 ow:=fun j o' hj=>by
  rcases bv hj with ⟨rfl,e,hl⟩ | ⟨hij,hj⟩
  ·cases e
   rw [OC rfl]
   exact ⟨v,QK (by rw [r.len];exact hl),ow,nd,n⟩
  ·rw [PF hij,OB (O8 hij)]
   obtain ⟨w,h1,h2,h3,h4⟩:=r.ow j o' hj
   exact ⟨w,h1,h2.mono (Same.refl _) fun b hb=>(keep j o' (O8 hij) hj b hb).1,h3,h4⟩
 dj:=fun j k o1 o2 hjk h1 h2 b hb hb2=>by
  rcases bv h1 with ⟨rfl,e,hl⟩ | ⟨hij,h1⟩
  ·rcases bv h2 with ⟨rfl,e,hl⟩ | ⟨hik,h2⟩
   ·exact hjk rfl
   ·rw [OC rfl] at hb
    rw [OB (O8 hik)] at hb2
    exact (keep k o2 (O8 hik) h2 b hb2).2 hb
  ·rcases bv h2 with ⟨rfl,e,hl⟩ | ⟨hik,h2⟩
   ·rw [OC rfl] at hb2
    rw [OB (O8 hij)] at hb
    exact (keep j o1 (O8 hij) h1 b hb).2 hb2
   ·rw [OB (O8 hij)] at hb
    rw [OB (O8 hik)] at hb2
    exact r.dj j k o1 o2 hjk h1 h2 b hb hb2
 lo:=fun j hj=>by
  rcases bv hj with ⟨rfl,e,hl⟩ | ⟨hij,hj⟩
  ·cases e
  ·rw [PF hij]
   exact r.lo j hj
 asub:=asub
 adis:=r.adis
theorem tF {α:Type} {l:List α} {i:Nat} {x:α} (h:l[i]? = some x):l.set i x = l:=by
 apply QV
 intro j
 by_cases e:i = j
 ·subst e
  rw [QK (Pg.mp h).1,h]
 ·rw [PF e]
noncomputable def frz (i:Nat) (ρ:Env):Env:=match ρ[i]? with | some (.ow o)=>ρ.set i (.sh o.d) | _=>ρ
theorem RlA.frz {A:Hp} {Λ:Nat -> Option Addr} {ρ:Env} {σ:St} (r:RlA K A Λ ρ σ S H) (i:Nat):∃ S',Same S S' /\ RlA K A Λ (frz i ρ) σ S' H:=by
 unfold M.frz
 cases q:ρ[i]? with
 | none=>exact ⟨S,Same.refl _,r⟩
 | some s=>
  cases s with
  | un=>exact ⟨S,Same.refl _,r⟩
  | lo=>exact ⟨S,Same.refl _,r⟩
  | sh d=>exact ⟨S,Same.refl _,r⟩
  | ow o=>
   dsimp only
   obtain ⟨Φ,f⟩:=r
   obtain ⟨v,h1,h2,h3,h4⟩:=f.ow i o q
   have s2:Same S (nD S H (Φ i)):=lh fun b hb=>(h4 b hb).1
   have hd:Den K (nD S H (Φ i)) o.d v:=h2.den s2 fun b hb=>eJ hb
   refine ⟨_,s2,Φ,?_⟩
   exact {
    len:=by rw [Qb];exact f.len
    sub:=yy f.sub
    sh:=fun j d hj=>by
     rcases bv hj with ⟨rfl,e,hl⟩ | ⟨hij,hj⟩
     ·cases e
      exact ⟨v,h1,hd⟩
     ·obtain ⟨w,k1,k2⟩:=f.sh j d hj
      exact ⟨w,k1,k2.mono s2⟩
    ow:=fun j o' hj=>by
     rcases bv hj with ⟨rfl,e,hl⟩ | ⟨hij,hj⟩
     ·cases e
     ·obtain ⟨w,k1,k2,k3,k4⟩:=f.ow j o' hj
      exact ⟨w,k1,k2.mono s2 fun _ _=>rfl,k3,fun b hb=>⟨by rw [cU fun hi=>f.dj i j o o' hij q hj b hi hb];exact (k4 b hb).1,(k4 b hb).2⟩⟩
    dj:=fun j k o1 o2 hjk g1 g2=>by
     rcases bv g1 with ⟨rfl,e,hl⟩ | ⟨hij,g1⟩
     ·cases e
     ·rcases bv g2 with ⟨rfl,e,hl⟩ | ⟨hik,g2⟩
      ·cases e
      ·exact f.dj j k o1 o2 hjk g1 g2
    lo:=fun j hj=>by
     rcases bv hj with ⟨rfl,e,hl⟩ | ⟨hij,hj⟩
     ·cases e
     ·exact f.lo j hj
    asub:=f.asub
    adis:=fun b=>by
     by_cases hb:b ∈ Φ i
     ·exact .inr (.inl (h4 b hb).2)
     ·rw [cU hb];exact f.adis b }
@[simp] noncomputable def L5 (i:Nat) (m:XS):XS:=fun ρ=>m (frz i ρ)
theorem LD {t:TS} {m:XS} (i:Nat) (h:SS K t m):SS K t (L5 i m):=fun A Λ ρ σ S H E o r x k=>by
 obtain ⟨S',s,r'⟩:=r.frz i
 exact h A Λ _ σ S' H E o r' x (k.mono s)
noncomputable abbrev XG:=D -> Env -> Option Env
noncomputable abbrev XGs:=List D -> Env -> Option Env
def SG (K:W.Frag) (g:TG) (x:XG):Prop:=∀ A Λ ρ σ S H v d (Q:St -> Hp -> Prop) ρ',RlA K A Λ ρ σ S H -> Den K S d v -> x d ρ = some ρ' -> (∀ σ',RlA K A Λ ρ' σ' S H -> Q σ' H) -> g v σ H Q
def SGs (K:W.Frag) (g:TGs) (x:XGs):Prop:=∀ A Λ ρ σ S H vs ds (Q:St -> Hp -> Prop) ρ',RlA K A Λ ρ σ S H -> Dens K S ds vs -> x ds ρ = some ρ' -> (∀ σ',RlA K A Λ ρ' σ' S H -> Q σ' H) -> g vs σ H Q
@[simp] noncomputable def ag (i:Nat):XG:=fun d ρ=>some (ρ.set i (.sh d))
noncomputable def bd:XGs:=fun ds ρ=>match ds with | []=>some ρ | _=>none
noncomputable def ao (x:XG) (y:XGs):XGs:=fun ds ρ=>match ds with | d :: r=>(x d ρ).bind (y r) | []=>none
noncomputable def a8 (y:XGs):XG:=fun d ρ=>match d with | .tup l=>y l ρ | .mtp l=>y l ρ | _=>none
theorem au (i:Nat):SG K (lW i) (ag i):=fun A Λ ρ σ S H v d Q ρ' r dv x k=>by cases x;exact k _ (r.set i dv)
theorem eU:SGs K JK bd:=fun A Λ ρ σ S H vs ds Q ρ' r dv x k=>by
 cases ds with
 | nil=>cases x;exact ⟨dv.nil_of,k σ r⟩
 | cons _ _=>cases x
theorem aM {g:TG} {gs:TGs} {x:XG} {y:XGs} (h:SG K g x) (hs:SGs K gs y):SGs K (EO g gs) (ao x y):=fun A Λ ρ σ S H vs ds Q ρ' r dv e k=>by
 cases ds with
 | nil=>cases e
 | cons d ds=>
  obtain ⟨v,vs,rfl,h1,h2⟩:=dv.cons_of
  have e':(x d ρ).bind (y ds) = some ρ':=e
  cases q:x d ρ with
  | none=>rw [q] at e';cases e'
  | some ρ1=>
   rw [q] at e'
   exact ⟨v,vs,rfl,h A Λ ρ σ S H v d _ ρ1 r h1 q fun σ1 r1=>hs A Λ ρ1 σ1 S H vs ds Q ρ' r1 h2 e' k⟩
def yJ (y:XGs) (n:Nat):Prop:=∀ ds ρ ρ',y ds ρ = some ρ' -> ds.length = n
theorem cY:yJ bd 0:=fun ds ρ ρ' e=>by cases ds with | nil=>rfl | cons _ _=>cases e
theorem aH {x:XG} {y:XGs} {n:Nat} (h:yJ y n):yJ (ao x y) (n + 1):=fun ds ρ ρ' e=>by
 cases ds with
 | nil=>cases e
 | cons d ds=>
  have e':(x d ρ).bind (y ds) = some ρ':=e
  cases q:x d ρ with
  | none=>rw [q] at e';cases e'
  | some ρ1=>rw [q] at e';rw [OL,h ds ρ1 ρ' e']
theorem gE {gs:TGs} {y:XGs} {n:Nat} (hs:SGs K gs y) (hl:yJ y n):SG K (Hl K n gs) (a8 y):=fun A Λ ρ σ S H v d Q ρ' r dv e k=>by
 cases d with
 | tup l=>
  obtain ⟨p,xs,rfl,h1,h2⟩:=gA dv
  exact ⟨p,xs,rfl,ba r.sub h1,by rw [<- h2.length];exact hl l ρ ρ' e,hs A Λ ρ σ S H xs l Q ρ' r h2 e k⟩
 | mtp l=>
  obtain ⟨p,xs,rfl,h1,h2⟩:=den_mtp.mp dv
  exact ⟨p,xs,rfl,ba r.sub h1,by rw [<- h2.length];exact hl l ρ ρ' e,hs A Λ ρ σ S H xs l Q ρ' r h2 e k⟩
 | _=>cases e
@[simp] noncomputable def gW (e:XE) (g:XG):XS:=fun ρ=>(e ρ).bind fun d=>(g d ρ).map .nx
theorem dN {te:TE} {g:TG} {e:XE} {x:XG} (h:SE K te e) (hg:SG K g x):SS K (Bz te g) (gW e x):=fun A Λ ρ σ S H E o r y k=>by
 unfold gW at y
 cases q:e ρ with
 | none=>rw [q] at y;cases y
 | some d=>
  rw [q] at y
  dsimp only [Option.bind] at y
  cases q2:x d ρ with
  | none=>rw [q2] at y;cases y
  | some ρ'=>
   rw [q2] at y
   cases y
   exact h ρ σ S H _ d r.toRl q fun v S1 H1 z1 d1=>hg A Λ ρ σ S1 H1 v d _ ρ' (r.ext z1) d1 q2 fun σ' r'=>k σ' S1 H1 r' z1.sh
@[simp] noncomputable def tU (e:Env -> Option O) (i:Nat):XS:=fun ρ=>(e ρ).map fun o=>.nx (ρ.set i (.ow o))
theorem xr {te:TE} {e:Env -> Option O} {i:Nat} (h:STr K te e):SS K (Bz te (lW i)) (tU e i):=fun A Λ ρ σ S H E o r y k=>by
 unfold tU at y
 cases q:e ρ with
 | none=>rw [q] at y;cases y
 | some ot=>
  rw [q] at y
  cases y
  obtain ⟨Φ,f⟩:=r
  refine h ρ σ S H _ ot ⟨A,Λ,Φ,f⟩ q fun v fp S1 H1 z1 o1 nd n=>?_
  have r1:=f.ext z1
  refine k _ S1 H1 ⟨_,r1.put (H':=H1) i r1.sub r1.asub o1 nd (fun b hb=>⟨(n b hb).2,f.asub.free (n b hb).1⟩) fun j o' hj e1 b hb=>⟨rfl,fun hf=>?_⟩⟩ z1.sh
  obtain ⟨w,_,k2,_,_⟩:=f.ow j o' e1
  exact k2.there b hb (n b hf).1
@[simp] noncomputable def kX (e:XA) (i:Nat):XS:=tU (xLT e) i
theorem iE {te:TE} {e:XA} {i:Nat} (h:SF K te e):SS K (Bz te (lW i)) (kX e i):=xr h.t
noncomputable def dD:O -> List Int -> Option O
 | o,[]=>some o
 | .lst l,k :: r=>(atI l k).bind fun o=>dD o r
 | .tup l,k :: r=>(atI l k).bind fun o=>dD o r
 | .sh _,_ :: _=>none
 | .dic _,_ :: _=>none
 | .hd _ _ _,_ :: _=>none
noncomputable def tp (l:List O) (k:Int) (f:O -> O):List O:=match ixN l.length k with
 | some j=>(match l[j]? with | some o=>l.set j (f o) | none=>l)
 | none=>l
noncomputable def iV:O -> List Int -> O -> O
 | _,[],q=>q
 | .lst l,k :: r,q=>.lst (tp l k fun o=>iV o r q)
 | .tup l,k :: r,q=>.tup (tp l k fun o=>iV o r q)
 | .sh d,_ :: _,_=>.sh d
 | .dic d,_ :: _,_=>.dic d
 | .hd p d l,_ :: _,_=>.hd p d l
noncomputable def WalkV (H:Hp):V -> List Int -> V -> Prop
 | v,[],w=>v = w
 | v,k :: r,w=>∃ a xs u,v = .ref a /\ (H a = some (.lst xs) \/ H a = some (.tup xs)) /\ atI xs k = some u /\ WalkV H u r w
theorem WalkV.mono (s:Same H H'):∀ {p:List Int} {v w:V},WalkV H v p w -> WalkV H' v p w
 | [],_,_,h=>h
 | _ :: _,_,_,⟨a,xs,u,e,h,k,m⟩=>⟨a,xs,u,e,h.elim (fun z=>.inl (s _ _ z)) (fun z=>.inr (s _ _ z)),k,m.mono s⟩
theorem WalkV.uniq:∀ {p:List Int} {v w w':V},WalkV H v p w -> WalkV H v p w' -> w = w'
 | [],_,_,_,h,k=>h.symm.trans k
 | _ :: _,_,_,_,hpt0,hpt1=>by
  obtain ⟨a,xs,u,e,h,k,m⟩:=hpt0
  obtain ⟨a',xs',u',e',h',k',m'⟩:=hpt1
  rw [e] at e'
  cases e'
  have:xs = xs':=by
   rcases h with h | h <;> rcases h' with h' | h' <;> rw [h] at h' <;> cases h' <;> rfl
  subst this
  rw [k] at k'
  cases k'
  exact m.uniq m'
theorem WalkV.snoc:∀ {p:List Int} {v w u:V} {k:Int} {a:Addr} {xs:List V},WalkV H v p w -> w = .ref a -> (H a = some (.lst xs) \/ H a = some (.tup xs)) -> atI xs k = some u -> WalkV H v (p ++ [k]) u
 | [],_,_,u,k,a,xs,h,e,h1,h2=>⟨a,xs,u,h.trans e,h1,h2,rfl⟩
 | _ :: _,_,_,_,_,_,_,⟨b,ys,u',e,h,k,m⟩,e',h1,h2=>⟨b,ys,u',e,h,k,m.snoc e' h1 h2⟩
theorem pp:∀ {p:List Int} {o q:O} {k:Int},dD o (p ++ [k]) = some q -> ∃ q0,dD o p = some q0 /\ dD q0 [k] = some q
 | [],o,q,k,h=>⟨o,by unfold dD;rfl,h⟩
 | j :: p,o,q,k,h=>by
  cases o with
  | sh d=>cases h
  | dic _=>cases h
  | hd _ _ _=>cases h
  | lst l=>
   have h':(atI l j).bind (fun o=>dD o (p ++ [k])) = some q:=h
   cases e:atI l j with
   | none=>rw [e] at h';cases h'
   | some o1=>
    rw [e] at h'
    obtain ⟨q0,a,b⟩:=pp (p:=p) h'
    exact ⟨q0,by show (atI l j).bind (fun o=>dD o p) = some q0;rw [e];exact a,b⟩
  | tup l=>
   have h':(atI l j).bind (fun o=>dD o (p ++ [k])) = some q:=h
   cases e:atI l j with
   | none=>rw [e] at h';cases h'
   | some o1=>
    rw [e] at h'
    obtain ⟨q0,a,b⟩:=pp (p:=p) h'
    exact ⟨q0,by show (atI l j).bind (fun o=>dD o p) = some q0;rw [e];exact a,b⟩
theorem Owns.split:∀ {l:List O} {xs:List V} {f:List Addr} {j:Nat} {o:O},Owns K S H l xs f -> l[j]? = some o -> ∃ x f1 f2 f3,xs[j]? = some x /\ f = f1 ++ (f2 ++ f3) /\ Own K S H o x f2 /\
  ∀ H' o' f2',Own K S H' o' x f2' -> (∀ b ∈ f1,H' b = H b) -> (∀ b ∈ f3,H' b = H b) -> Owns K S H' (l.set j o') xs (f1 ++ (f2' ++ f3))
 | [],_,_,_,_,_,e=>by simp at e
 | o0 :: l,_,_,0,o,h,e=>by
  obtain ⟨y,ys,f,g,rfl,rfl,a,b⟩:=h.cons_of
  simp at e;subst e
  exact ⟨y,[],f,g,rfl,rfl,a,fun H' o' f2' h1 _ h3=>Owns.cons (f:=f2') h1 (b.mono (Same.refl _) h3)⟩
 | o0 :: l,_,_,j + 1,o,h,e=>by
  obtain ⟨y,ys,f,g,rfl,rfl,a,b⟩:=h.cons_of
  obtain ⟨x,f1,f2,f3,e1,rfl,h1,h2⟩:=b.split (j:=j) (by simpa using e)
  refine ⟨x,f ++ f1,f2,f3,by simpa using e1,by rw [Pb],h1,fun H' o' f2' k1 k2 k3=>?_⟩
  rw [Pb]
  exact .cons (a.mono (Same.refl _) fun b hb=>k2 b (OY _ hb)) (h2 H' o' f2' k1 (fun b hb=>k2 b (OU _ hb)) k3)
theorem wu {α:Type} {l:List α} {k:Int} {x:α} (h:atI l k = some x):∃ j,ixN l.length k = some j /\ l[j]? = some x:=by
 unfold atI at h
 cases q:ixN l.length k with
 | none=>rw [q] at h;cases h
 | some j=>rw [q] at h;exact ⟨j,rfl,h⟩
theorem EL:∀ {p:List Int} {o q:O} {v:V} {fp:List Addr},Own K S H o v fp -> fp.Nodup -> dD o p = some q -> ∃ w fq,Own K S H q w fq /\ WalkV H v p w /\ (∀ b ∈ fq,b ∈ fp) /\ fq.Nodup /\
  ∀ H' q' fq',Own K S H' q' w fq' -> fq'.Nodup -> (∀ b ∈ fp,b ∉ fq -> H' b = H b) -> (∀ b ∈ fq',b ∈ fp -> b ∈ fq) -> ∃ fp',Own K S H' (iV o p q') v fp' /\ fp'.Nodup /\ ∀ b ∈ fp',b ∈ fp \/ b ∈ fq'
 | [],o,q,v,fp,h,nd,e=>by
  have e':some o = some q:=by unfold dD at e;exact e
  cases e'
  exact ⟨v,fp,h,rfl,fun b hb=>hb,nd,fun H' q' fq' h1 n1 _ _=>⟨fq',by unfold iV;exact h1,n1,fun b hb=>.inr hb⟩⟩
 | k :: r,o,q,v,fp,h,nd,e=>by
  have body:∀ (l:List O) (a:Addr) (xs:List V) (f:List Addr),v = .ref a -> fp = a :: f -> (H a = some (.lst xs) \/ H a = some (.tup xs)) -> Owns K S H l xs f -> ((atI l k).bind fun o=>dD o r) = some q ->
    ∃ w fq,Own K S H q w fq /\ WalkV H v (k :: r) w /\ (∀ b ∈ fq,b ∈ fp) /\ fq.Nodup /\ ∀ H' q' fq',Own K S H' q' w fq' -> fq'.Nodup -> (∀ b ∈ fp,b ∉ fq -> H' b = H b) -> (∀ b ∈ fq',b ∈ fp -> b ∈ fq) ->
     ∃ f',Owns K S H' (tp l k fun o=>iV o r q') xs f' /\ H' a = H a /\ (a :: f').Nodup /\ ∀ b ∈ a :: f',b ∈ fp \/ b ∈ fq':=by
   rintro l a xs f rfl rfl ha hl hs
   obtain ⟨na,nf⟩:=O4.mp nd
   cases qa:atI l k with
   | none=>rw [qa] at hs;cases hs
   | some o1=>
    rw [qa] at hs
    obtain ⟨j,ej,el⟩:=wu qa
    obtain ⟨x,f1,f2,f3,ex,rfl,h1,h2⟩:=hl.split el
    obtain ⟨n1,n23,d1⟩:=PP.mp nf
    obtain ⟨n2,n3,d2⟩:=PP.mp n23
    obtain ⟨w,fq,k1,k2,k3,k4,k5⟩:=EL (p:=r) h1 n2 hs
    have ax:atI xs k = some x:=by unfold atI;rw [<- hl.length,ej];exact ex
    refine ⟨w,fq,k1,⟨a,xs,x,rfl,ha,ax,k2⟩,fun b hb=>OK _ (OU _ (OY _ (k3 b hb))),k4,fun H' q' fq' g1 g2 g3 g4=>?_⟩
    have in2:∀ b ∈ fq,b ∈ f2:=k3
    have a1:∀ b ∈ f1,b ∉ fq:=fun b hb hq=>d1 b hb b (OY _ (in2 b hq)) rfl
    have a3:∀ b ∈ f3,b ∉ fq:=fun b hb hq=>d2 b (in2 b hq) b hb rfl
    have aa:a ∉ fq:=fun hq=>na (OU _ (OY _ (in2 a hq)))
    obtain ⟨f2',m1,m2,m3⟩:=k5 H' q' fq' g1 g2 (fun b hb hn=>g3 b (OK _ (OU _ (OY _ hb))) hn) fun b hb hp=>g4 b hb (OK _ (OU _ (OY _ hp)))
    have out:∀ b ∈ f2',b ∉ f1 /\ b ∉ f3 /\ b ≠ a:=fun b hb=>by
     rcases m3 b hb with hb | hb
     ·exact ⟨fun z=>d1 b z b (OY _ hb) rfl,fun z=>d2 b hb b z rfl,fun z=>na (z ▸ OU _ (OY _ hb))⟩
     ·refine ⟨fun z=>a1 b z (g4 b hb (OK _ (OY _ z))),fun z=>a3 b z (g4 b hb (OK _ (OU _ (OU _ z)))),fun z=>?_⟩
      subst z
      exact aa (g4 b hb OI)
    refine ⟨f1 ++ (f2' ++ f3),?_,g3 a OI aa,?_,fun b hb=>?_⟩
    ·unfold tp
     rw [ej]
     dsimp only
     rw [el]
     exact h2 H' _ f2' m1 (fun b hb=>g3 b (OK _ (OY _ hb)) (a1 b hb)) fun b hb=>g3 b (OK _ (OU _ (OU _ hb))) (a3 b hb)
    ·refine O4.mpr ⟨fun z=>?_,PP.mpr ⟨n1,PP.mpr ⟨m2,n3,fun b hb c hc e=>(out b hb).2.1 (e ▸ hc)⟩,fun b hb c hc e=>?_⟩⟩
     ·rcases OV.mp z with z | z
      ·exact na (OY _ z)
      ·rcases OV.mp z with z | z
       ·exact (out a z).2.2 rfl
       ·exact na (OU _ (OU _ z))
     ·subst e
      rcases OV.mp hc with hc | hc
      ·exact (out b hc).1 hb
      ·exact d1 b hb b (OU _ hc) rfl
    ·rcases OP.mp hb with rfl | hb
     ·exact .inl OI
     ·rcases OV.mp hb with hb | hb
      ·exact .inl (OK _ (OY _ hb))
      ·rcases OV.mp hb with hb | hb
       ·exact (m3 b hb).imp (fun z=>OK _ (OU _ (OY _ z))) id
       ·exact .inl (OK _ (OU _ (OU _ hb)))
  cases o with
  | sh d=>cases e
  | dic _=>cases e
  | hd _ _ _=>cases e
  | lst l=>
   obtain ⟨a,xs,f,e1,e2,h1,h2⟩:=own_lst.mp h
   obtain ⟨w,fq,k1,k2,k3,k4,k5⟩:=body l a xs f e1 e2 (.inl h1) h2 e
   refine ⟨w,fq,k1,k2,k3,k4,fun H' q' fq' g1 g2 g3 g4=>?_⟩
   obtain ⟨f',m1,m2,m3,m4⟩:=k5 H' q' fq' g1 g2 g3 g4
   exact ⟨a :: f',by unfold iV;exact own_lst.mpr ⟨a,xs,f',e1,rfl,by rw [m2];exact h1,m1⟩,m3,m4⟩
  | tup l=>
   obtain ⟨a,xs,f,e1,e2,h1,h2⟩:=own_tup.mp h
   obtain ⟨w,fq,k1,k2,k3,k4,k5⟩:=body l a xs f e1 e2 (.inr h1.1) h2 e
   refine ⟨w,fq,k1,k2,k3,k4,fun H' q' fq' g1 g2 g3 g4=>?_⟩
   obtain ⟨f',m1,m2,m3,m4⟩:=k5 H' q' fq' g1 g2 g3 g4
   exact ⟨a :: f',by unfold iV;exact own_tup.mpr ⟨a,xs,f',e1,rfl,⟨by rw [m2];exact h1.1,h1.2⟩,m1⟩,m3,m4⟩
noncomputable abbrev XP:=Env -> Option (List Int)
def CZ (K:W.Frag) (to:TE) (i:Nat) (p:XP):Prop:=∀ ρ σ S H (Q:VK) is o q,Rl K ρ σ S H -> ρ[i]? = some (.ow o) -> p ρ = some is -> dD o is = some q -> (∀ v w S' H',σ[i]? = some (some v) -> Ext S H S' H' -> WalkV H' v is w -> Q w H') -> to σ H Q
@[simp] noncomputable def xPv:XP:=fun _=>some []
theorem iT (i:Nat):CZ K (g6 i) i xPv:=fun ρ σ S H Q is o q r h1 h2 h3 k=>by
 cases h2
 obtain ⟨v,fp,e,_⟩:=r.ow i o h1
 exact ⟨v,e,k v v S H e (Ext.refl r.sub) rfl⟩
@[simp] noncomputable def xPi (p:XP) (ix:XE):XP:=fun ρ=>(p ρ).bind fun is=>(ix ρ).bind fun d=>match d with | .int k=>some (is ++ [k]) | _=>none
theorem J5 {to ti:TE} {i:Nat} {p:XP} {ix:XE} (hp:CZ K to i p) (hi:SPk K ti ix):CZ K (tOp (rIx K) to ti) i (xPi p ix):=fun ρ σ S H Q is o q r h1 h2 h3 k=>by
 unfold xPi at h2
 cases e1:p ρ with
 | none=>rw [e1] at h2;cases h2
 | some js=>
  rw [e1] at h2
  dsimp only [Option.bind] at h2
  cases e2:ix ρ with
  | none=>rw [e2] at h2;cases h2
  | some d=>
   rw [e2] at h2
   cases d with
   | int kk=>
    cases h2
    obtain ⟨q0,s1,s2⟩:=pp h3
    refine hp ρ σ S H _ js o q0 r h1 e1 s1 fun v w S1 H1 ev z1 wk=>?_
    have r1:=r.ext z1
    refine hi ρ σ S1 H1 _ _ r1 e2 fun u S2 H2 z2 d2=>?_
    have r2:=r1.ext z2
    obtain ⟨v',fp,ev',ow,nd,_⟩:=r2.ow i o h1
    rw [ev] at ev'
    cases ev'
    obtain ⟨w',fq,k1,k2,_⟩:=EL ow nd s1
    have ew:=k2.uniq (wk.mono (z2.same r1.sub))
    subst ew
    rw [d2.int]
    cases q0 with
    | sh _=>cases s2
    | dic _=>cases s2
    | hd _ _ _=>cases s2
    | lst l=>
     have s2':(atI l kk).bind (fun o=>dD o []) = some q:=s2
     cases e3:atI l kk with
     | none=>rw [e3] at s2';cases s2'
     | some o1=>
      obtain ⟨a,xs,f,rfl,rfl,hx,hl⟩:=own_lst.mp k1
      obtain ⟨j,ej,el⟩:=wu e3
      obtain ⟨x,_,_,_,ex,_⟩:=hl.split el
      have ax:atI xs kk = some x:=by unfold atI;rw [<- hl.length,ej];exact ex
      exact .inl ⟨a,xs,kk,x,rfl,rfl,SqL.of hx,ax,k v x S2 H2 ev (z1.trans z2) (k2.snoc rfl (.inl hx) ax)⟩
    | tup l=>
     have s2':(atI l kk).bind (fun o=>dD o []) = some q:=s2
     cases e3:atI l kk with
     | none=>rw [e3] at s2';cases s2'
     | some o1=>
      obtain ⟨a,xs,f,rfl,rfl,⟨hx,_⟩,hl⟩:=own_tup.mp k1
      obtain ⟨j,ej,el⟩:=wu e3
      obtain ⟨x,_,_,_,ex,_⟩:=hl.split el
      have ax:atI xs kk = some x:=by unfold atI;rw [<- hl.length,ej];exact ex
      exact .inr (.inl ⟨a,xs,kk,x,rfl,rfl,SqT.of hx,ax,k v x S2 H2 ev (z1.trans z2) (k2.snoc rfl (.inr hx) ax)⟩)
   | _=>cases h2
theorem RlF.at {A:Hp} {Λ:Nat -> Option Addr} {Φ:Nat -> List Addr} {ρ:Env} {σ:St} {i:Nat} {o:O} {is:List Int} {l:List O} {v w:V} (f:RlF K A Λ Φ ρ σ S H) (h1:ρ[i]? = some (.ow o)) (h2:dD o is = some (.lst l)) (ev:σ[i]? = some (some v)) (wk:WalkV H v is w) :
  ∃ a xs f0,w = .ref a /\ H a = some (.lst xs) /\ Owns K S H l xs f0 /\ (a :: f0).Nodup /\ (∀ b ∈ a :: f0,b ∈ Φ i) /\ ∀ l' xs' f',(∀ H',(∀ b,b ≠ a -> H' b = H b) -> Owns K S H' l' xs' f') -> (a :: f').Nodup -> (∀ b ∈ f',b ∈ f0 \/ ((∀ (j:Nat) o',ρ[j]? = some (.ow o') -> b ∉ Φ j) /\ S b = none /\ A b = none)) ->
   RlA K A Λ (ρ.set i (.ow (iV o is (.lst l')))) σ S (upd H a (.lst xs')):=by
 obtain ⟨v',e',ow,nd,n⟩:=f.ow i o h1
 rw [ev] at e'
 cases e'
 obtain ⟨w',fq,k1,k2,k3,k4,k5⟩:=EL ow nd h2
 have ew:=k2.uniq wk
 subst ew
 obtain ⟨a,xs,g,rfl,rfl,hx,hl⟩:=own_lst.mp k1
 have ain:=k3 a OI
 refine ⟨a,xs,g,rfl,hx,hl,k4,k3,fun l' xs' f' g1 g2 g3=>?_⟩
 have ne:∀ b,b ≠ a -> upd H a (.lst xs') b = H b:=fun b hb=>aD hb
 obtain ⟨fp',m1,m2,m3⟩:=k5 (upd H a (.lst xs')) (.lst l') (a :: f') (own_lst.mpr ⟨a,xs',f',rfl,rfl,aB,g1 _ ne⟩) g2 (fun b hb hn=>ne b fun z=>hn (z ▸ OI)) fun b hb hp=>by
  rcases OP.mp hb with rfl | hb
  ·exact OI
  ·rcases g3 b hb with z | ⟨z,_⟩
   ·exact OK _ z
   ·exact absurd hp (z i o h1)
 have sub':Same S (upd H a (.lst xs')):=fun b u e=>by rw [ne b fun z=>by subst z;rw [(n b ain).1] at e;cases e];exact f.sub b u e
 have asub':Same A (upd H a (.lst xs')):=fun b u e=>by rw [ne b fun z=>by subst z;rw [(n b ain).2] at e;cases e];exact f.asub b u e
 have fin:=f.put (H':=upd H a (.lst xs')) i sub' asub' m1 m2 (fun b hb=>by
  rcases m3 b hb with z | z
  ·exact n b z
  ·rcases OP.mp z with rfl | z
   ·exact n b ain
   ·rcases g3 b z with z | ⟨_,z⟩
    ·exact n b (k3 b (OK _ z))
    ·exact z) fun j o' hj e1 b hb=>by
   have nb:b ∉ Φ i:=fun z=>f.dj j i o' o hj e1 h1 b hb z
   refine ⟨ne b fun z=>nb (z ▸ ain),fun z=>?_⟩
   rcases m3 b z with z | z
   ·exact nb z
   ·rcases OP.mp z with rfl | z
    ·exact nb ain
    ·rcases g3 b z with z | ⟨z,_⟩
     ·exact nb (k3 b (OK _ z))
     ·exact z j o' e1 hb
 rw [tF ev] at fin
 exact ⟨_,fin⟩
theorem RlF.fresh {A:Hp} {Λ:Nat -> Option Addr} {Φ:Nat -> List Addr} {ρ:Env} {σ:St} {b:Addr} (f:RlF K A Λ Φ ρ σ S H) (h:H b = none):(∀ (j:Nat) o',ρ[j]? = some (.ow o') -> b ∉ Φ j) /\ S b = none /\ A b = none:=
 ⟨fun j o' e hb=>by obtain ⟨_,_,ow,_⟩:=f.ow j o' e;exact ow.there b hb h,f.sub.free h,f.asub.free h⟩
@[simp] noncomputable def j4 (i:Nat) (p:XP) (e:Env -> Option O):XS:=fun ρ=>match ρ[i]? with
 | some (.ow o)=>(p ρ).bind fun is=>(e ρ).bind fun x=>match dD o is with
  | some (.lst l)=>if l.length < LIM then some (.nx (ρ.set i (.ow (iV o is (.lst (l ++ [x])))))) else none
  | _=>none
 | _=>none
theorem jH {to te:TE} {i:Nat} {p:XP} {e:Env -> Option O} (hp:CZ K to i p) (h:STr K te e):SS K (zO (tBM K "list" rAppend to (eW te mV))) (j4 i p e):=fun A Λ ρ σ S H E out r y k=>by
 unfold j4 at y
 cases q0:ρ[i]? with
 | none=>rw [q0] at y;cases y
 | some s=>
  rw [q0] at y
  cases s with
  | un=>cases y
  | lo=>cases y
  | sh d=>cases y
  | ow o=>
   dsimp only at y
   cases q1:p ρ with
   | none=>rw [q1] at y;cases y
   | some is=>
    rw [q1] at y
    dsimp only [Option.bind] at y
    cases q2:e ρ with
    | none=>rw [q2] at y;cases y
    | some x=>
     rw [q2] at y
     dsimp only at y
     cases q3:dD o is with
     | none=>rw [q3] at y;cases y
     | some qo=>
      rw [q3] at y
      cases qo with
      | sh _=>cases y
      | dic _=>cases y
      | hd _ _ _=>cases y
      | tup _=>cases y
      | lst l=>
       dsimp only at y
       split at y
       ·rename_i hl
        cases y
        obtain ⟨Φ,f⟩:=r
        refine hp ρ σ S H _ is o _ ⟨A,Λ,Φ,f⟩ q0 q1 q3 fun v w S1 H1 ev z1 wk=>?_
        have f1:=f.ext z1
        obtain ⟨a,xs,g0,rfl,hx,hw,nd0,in0,_⟩:=f1.at q0 q3 ev wk
        refine ⟨.inl ⟨rfl,xs,SqL.of hx⟩,h ρ σ S1 H1 _ x ⟨A,Λ,Φ,f1⟩ q2 fun u fu S2 H2 z2 ou nd n=>?_⟩
        have f2:=f1.ext z2
        obtain ⟨a',xs',g1,e1,hx',hw',nd1,in1,up⟩:=f2.at q0 q3 ev (wk.mono (z2.same f1.sub))
        cases e1
        have fr:∀ b ∈ fu,(∀ (j:Nat) o',ρ[j]? = some (.ow o') -> b ∉ Φ j) /\ S2 b = none /\ A b = none:=fun b hb=>⟨(f1.fresh (n b hb).1).1,(n b hb).2,(f1.fresh (n b hb).1).2.2⟩
        have fa:∀ b ∈ fu,b ∉ a :: g1:=fun b hb z=>(fr b hb).1 i o q0 (in1 b z)
        obtain ⟨na,ng⟩:=O4.mp nd1
        refine ⟨a,xs',u,rfl,rfl,hx',?_,?_⟩
        ·rw [<- hw'.length];exact Rr hl fg
        ·refine k σ S2 _ (up (l ++ [x]) (xs' ++ [u]) (g1 ++ fu) (fun H' ne=>?_) ?_ fun b hb=>?_) (z1.sh.trans z2.sh)
         ·have:=(hw'.mono (H':=H') (Same.refl _) fun b hb=>ne b fun z=>na (z ▸ hb)).append (.cons (ou.mono (H':=H') (Same.refl _) fun b hb=>ne b fun z=>fa b hb (z ▸ OI)) .nil)
          rw [Pd] at this
          exact this
         ·refine O4.mpr ⟨fun z=>?_,PP.mpr ⟨ng,nd,fun b hb c hc e=>fa c hc (e ▸ OK _ hb)⟩⟩
          rcases OV.mp z with z | z
          ·exact na z
          ·exact fa a z OI
         ·rcases OV.mp hb with hb | hb
          ·exact .inl hb
          ·exact .inr (fr b hb)
       ·cases y
@[simp] noncomputable def NN (i:Nat) (p:XP) (j:Nat):XS:=fun ρ=>match ρ[i]? with
 | some (.ow o)=>(p ρ).bind fun is=>match dD o is with
  | some (.lst l)=>(match l.getLast? with
   | some (.sh d)=>some (.nx ((ρ.set i (.ow (iV o is (.lst l.dropLast)))).set j (.sh d)))
   | _=>none)
  | _=>none
 | _=>none
@[simp] noncomputable def NR (i:Nat) (p:XP):XS:=fun ρ=>match ρ[i]? with
 | some (.ow o)=>(p ρ).bind fun is=>match dD o is with
  | some (.lst l)=>(match shs l with | some ds=>some (.nx (ρ.set i (.ow (iV o is (.lst (ds.reverse.map .sh)))))) | none=>none)
  | _=>none
 | _=>none
noncomputable def rExtM:V -> List V -> Hp -> VK -> Prop:=fun x vs H Q=>∃ l b xs zs,x = .ref l /\ vs = [.ref b] /\ H l = some (.lst xs) /\ Rd H b (.lst zs) /\ xs.length + zs.length <= sizeLine /\ Q .non (upd H l (.lst (xs ++ zs)))
@[simp] noncomputable def CS (i:Nat) (p:XP) (e:XE):XS:=fun ρ=>match ρ[i]? with
 | some (.ow o)=>(p ρ).bind fun is=>(e ρ).bind fun d=>match dD o is,d with
  | some (.lst l),.lst ds=>if l.length + ds.length <= LIM then some (.nx (ρ.set i (.ow (iV o is (.lst (l ++ ds.map .sh)))))) else none
  | _,_=>none
 | _=>none
theorem F5 {to te:TE} {i:Nat} {p:XP} {e:XE} (hp:CZ K to i p) (h:SE K te e):SS K (zO (tBM K "list" rExtM to (eW te mV))) (CS i p e):=fun A Λ ρ σ S H E out r y k=>by
 unfold CS at y
 cases q0:ρ[i]? with
 | none=>rw [q0] at y;cases y
 | some s=>
  rw [q0] at y
  cases s with
  | un=>cases y
  | lo=>cases y
  | sh d=>cases y
  | ow o=>
   dsimp only at y
   cases q1:p ρ with
   | none=>rw [q1] at y;cases y
   | some is=>
    rw [q1] at y
    dsimp only [Option.bind] at y
    cases q2:e ρ with
    | none=>rw [q2] at y;cases y
    | some dd=>
     rw [q2] at y
     dsimp only at y
     cases q3:dD o is with
     | none=>rw [q3] at y;cases y
     | some qo=>
      rw [q3] at y
      cases qo with
      | sh _=>cases y
      | dic _=>cases y
      | hd _ _ _=>cases y
      | tup _=>cases y
      | lst l=>
       cases dd with
       | lst ds=>
        dsimp only at y
        split at y
        ·rename_i hl
         cases y
         obtain ⟨Φ,f⟩:=r
         refine hp ρ σ S H _ is o _ ⟨A,Λ,Φ,f⟩ q0 q1 q3 fun v w S1 H1 ev z1 wk=>?_
         have f1:=f.ext z1
         obtain ⟨a,xs,g0,rfl,hx,hw,nd0,in0,_⟩:=f1.at q0 q3 ev wk
         refine ⟨.inl ⟨rfl,xs,SqL.of hx⟩,h ρ σ S1 H1 _ _ ⟨A,Λ,Φ,f1⟩ q2 fun u S2 H2 z2 d2=>?_⟩
         have f2:=f1.ext z2
         obtain ⟨a',xs',g1,e1,hx',hw',nd1,in1,up⟩:=f2.at q0 q3 ev (wk.mono (z2.same f1.sub))
         cases e1
         obtain ⟨b,zs,rfl,hb,dz⟩:=den_lst.mp d2
         obtain ⟨na,ng⟩:=O4.mp nd1
         refine ⟨a,b,xs',zs,rfl,rfl,hx',cR z2.sub hb,?_,?_⟩
         ·rw [<- hw'.length,<- dz.length];exact Pk (Pw hl fg)
         ·refine k σ S2 _ (up (l ++ ds.map .sh) (xs' ++ zs) g1 (fun H' ne=>?_) nd1 fun b hb=>.inl hb) (z1.sh.trans z2.sh)
          have:=(hw'.mono (H':=H') (Same.refl _) fun b hb=>ne b fun z=>na (z ▸ hb)).append (nN (H:=H') dz)
          rw [Pd] at this
          exact this
        ·cases y
       | _=>cases y
@[simp] noncomputable def CV (i:Nat) (p:XP) (ix e:XE):XS:=fun ρ=>(e ρ).bind fun d=>match ρ[i]? with
 | some (.ow o)=>(p ρ).bind fun is=>(ix ρ).bind fun k=>match dD o is,k with
  | some (.lst l),.int k=>(match shs l with | some ds=>(ixN ds.length k).map fun j=>.nx (ρ.set i (.ow (iV o is (.lst ((ds.set j d).map .sh))))) | none=>none)
  | _,_=>none
 | _=>none
theorem Ga {to te ti:TE} {i:Nat} {p:XP} {e ix:XE} (h:SE K te e) (hp:CZ K to i p) (hi:SPk K ti ix):SS K (Bz te (K4 to ti IW)) (CV i p ix e):=fun A Λ ρ σ S H E out r y k=>by
 unfold CV at y
 cases q:e ρ with
 | none=>rw [q] at y;cases y
 | some d=>
  rw [q] at y
  dsimp only [Option.bind] at y
  cases q0:ρ[i]? with
  | none=>rw [q0] at y;cases y
  | some s=>
   rw [q0] at y
   cases s with
   | un=>cases y
   | lo=>cases y
   | sh d=>cases y
   | ow o=>
    dsimp only at y
    cases q1:p ρ with
    | none=>rw [q1] at y;cases y
    | some is=>
     rw [q1] at y
     dsimp only at y
     cases q2:ix ρ with
     | none=>rw [q2] at y;cases y
     | some dk=>
      rw [q2] at y
      dsimp only at y
      cases q3:dD o is with
      | none=>rw [q3] at y;cases y
      | some qo=>
       rw [q3] at y
       cases qo with
       | sh _=>cases y
       | dic _=>cases y
       | hd _ _ _=>cases y
       | tup _=>cases y
       | lst l=>
        cases dk with
        | int kk=>
         dsimp only at y
         cases q4:shs l with
         | none=>rw [q4] at y;cases y
         | some ds=>
          rw [q4] at y
          dsimp only at y
          cases q5:ixN ds.length kk with
          | none=>rw [q5] at y;cases y
          | some j=>
           rw [q5] at y
           cases y
           have ed:=o8 q4
           subst ed
           obtain ⟨Φ,f⟩:=r
           refine h ρ σ S H _ d ⟨A,Λ,Φ,f⟩ q fun u S0 H0 z0 d0=>?_
           have f0:=f.ext z0
           refine hp ρ σ S0 H0 _ is o _ ⟨A,Λ,Φ,f0⟩ q0 q1 q3 fun v w S1 H1 ev z1 wk=>?_
           have f1:=f0.ext z1
           refine hi ρ σ S1 H1 _ _ ⟨A,Λ,Φ,f1⟩ q2 fun w2 S2 H2 z2 d2=>?_
           have f2:=f1.ext z2
           obtain ⟨a',xs',g1,rfl,hx',hw',nd1,in1,up⟩:=f2.at q0 q3 ev (wk.mono (z2.same f1.sub))
           obtain ⟨hd,rfl⟩:=fh hw'
           refine ⟨a',xs',kk,j,rfl,d2.int,hx',by rw [<- hd.length];exact q5,?_⟩
           exact k σ S2 _ (up ((ds.set j d).map .sh) (xs'.set j u) [] (fun H' ne=>nN (hd.set j ((d0.mono z1.sh).mono z2.sh))) nd1 fun b hb=>by cases hb) ((z0.sh.trans z1.sh).trans z2.sh)
        | _=>cases y
@[simp] noncomputable def Om (i:Nat) (e:XE) (f:D -> D -> Option D):XS:=fun ρ=>match ρ[i]? with
 | some (.sh x)=>(e ρ).bind fun y=>(f x y).map fun z=>.nx (ρ.set i (.sh z))
 | _=>none
@[simp] noncomputable def NH (e:XE):XS:=fun ρ=>(e ρ).map fun _=>.nx ρ
end
section
variable {K:W.Frag} {S S' H H':Hp}
def Walks (K:W.Frag) (J:It) (S:Hp) (l:List D):Prop:=∀ S' H',Same S S' -> Same S' H' ->
 (∀ i d,l[i]? = some d -> J.go i H' /\ ∀ x H'',J.yld i H' x H'' -> H'' = H' /\ Den K S' d x) /\ J.stop l.length H'
def SI (K:W.Frag) (wi:TI) (e:XA):Prop:=∀ ρ σ S H (R:It -> Hp -> Prop) l,Rl K ρ σ S H -> e ρ = some l -> (∀ J S' H',Ext S H S' H' -> Walks K J S' l -> R J H') -> wi σ H R
noncomputable def Gd:D -> Option (List D)
 | .lst l=>some l | .tup l=>some l | .scr l=>some l | .mtp l=>some l | _=>none
def Jo (K:W.Frag) (J:It) (S H:Hp) (l:List D):Prop:=∀ S' H',Ext S H S' H' ->
 (∀ i d,l[i]? = some d -> J.go i H' /\ ∀ x H'',J.yld i H' x H'' -> H'' = H' /\ Den K S' d x) /\ J.stop l.length H'
def SIP (K:W.Frag) (wi:TI) (e:XA):Prop:=∀ ρ σ S H (R:It -> Hp -> Prop) l,Rl K ρ σ S H -> e ρ = some l -> (∀ J S' H',Ext S H S' H' -> Jo K J S' H' l -> R J H') -> wi σ H R
theorem SI.p {wi:TI} {e:XA} (h:SI K wi e):SIP K wi e:=fun ρ σ S H R l r x k=>h ρ σ S H R l r x fun J S' H' z w=>k J S' H' z fun S2 H2 z2=>w S2 H2 z2.sh z2.sub
@[simp] noncomputable def xIt (e:XE):XA:=fun ρ=>(e ρ).bind Gd
theorem jT {tl:TE} {e:XE} (h:SE K tl e):SI K (JL K tl) (xIt e):=fun ρ σ S H R l r x k=>by
 unfold xIt at x
 cases q:e ρ with
 | none=>rw [q] at x;cases x
 | some d=>
  rw [q] at x
  dsimp only [Option.bind] at x
  refine h ρ σ S H _ d r q fun v S1 H1 z1 d1=>?_
  cases d with
  | lst l'=>
   cases x
   obtain ⟨p,xs,rfl,h1,h2⟩:=den_lst.mp d1
   refine ⟨p,rfl,.inl ⟨⟨xs,.inl (cR z1.sub h1)⟩,k _ S1 H1 z1 fun S' H' s1 s2=>⟨fun i d hd=>?_,xs,.inl (cR (s1.trans s2) h1),Pz h2.length.symm⟩⟩⟩
   obtain ⟨y,e1,e2⟩:=h2.get hd
   refine ⟨⟨xs,y,.inl (cR (s1.trans s2) h1),e1⟩,fun x H'' hy=>⟨hy.1,?_⟩⟩
   have:=hy.2 xs (.inl (cR (s1.trans s2) h1))
   rw [e1] at this
   cases this
   exact e2.mono s1
  | tup l'=>
   cases x
   obtain ⟨p,xs,rfl,h1,h2⟩:=gA d1
   refine ⟨p,rfl,.inr ⟨⟨xs,ba z1.sub h1⟩,k _ S1 H1 z1 fun S' H' s1 s2=>⟨fun i d hd=>?_,xs,ba (s1.trans s2) h1,Pz h2.length.symm⟩⟩⟩
   obtain ⟨y,e1,e2⟩:=h2.get hd
   refine ⟨⟨xs,y,ba (s1.trans s2) h1,e1⟩,fun x H'' hy=>⟨hy.1,?_⟩⟩
   have:=hy.2 xs (ba (s1.trans s2) h1)
   rw [e1] at this
   cases this
   exact e2.mono s1
  | mtp l'=>
   cases x
   obtain ⟨p,xs,rfl,h1,h2⟩:=den_mtp.mp d1
   refine ⟨p,rfl,.inr ⟨⟨xs,ba z1.sub h1⟩,k _ S1 H1 z1 fun S' H' s1 s2=>⟨fun i d hd=>?_,xs,ba (s1.trans s2) h1,Pz h2.length.symm⟩⟩⟩
   obtain ⟨y,e1,e2⟩:=h2.get hd
   refine ⟨⟨xs,y,ba (s1.trans s2) h1,e1⟩,fun x H'' hy=>⟨hy.1,?_⟩⟩
   have:=hy.2 xs (ba (s1.trans s2) h1)
   rw [e1] at this
   cases this
   exact e2.mono s1
  | scr l'=>
   cases x
   obtain ⟨p,xs,rfl,h1,h2⟩:=den_scr.mp d1
   refine ⟨p,rfl,.inl ⟨⟨xs,dP z1.sub h1⟩,k _ S1 H1 z1 fun S' H' s1 s2=>⟨fun i d hd=>?_,xs,dP (s1.trans s2) h1,Pz h2.length.symm⟩⟩⟩
   obtain ⟨y,e1,e2⟩:=h2.get hd
   refine ⟨⟨xs,y,dP (s1.trans s2) h1,e1⟩,fun x H'' hy=>⟨hy.1,?_⟩⟩
   have:=hy.2 xs (dP (s1.trans s2) h1)
   rw [e1] at this
   cases this
   exact e2.mono s1
  | _=>cases x
noncomputable def ifC {α:Type} (p:Prop) (a b:α):α:=@ite α p (Classical.propDecidable p) a b
theorem ga {α:Type} {p:Prop} {a b:α} (h:p):ifC p a b = a:=by unfold ifC;exact OC h
theorem iJ {α:Type} {p:Prop} {a x:α} (h:ifC p (some a) none = some x):p /\ a = x:=by
 unfold ifC at h
 by_cases c:p
 ·rw [OC c] at h;exact ⟨c,Pj h⟩
 ·rw [OB c] at h;cases h
theorem eL {tl:TE} {e:XE} (h:SPk K tl e):SIP K (JL K tl) (xIt e):=fun ρ σ S H R l r x k=>by
 unfold xIt at x
 cases q:e ρ with
 | none=>rw [q] at x;cases x
 | some d=>
  rw [q] at x
  dsimp only [Option.bind] at x
  refine h ρ σ S H _ d r q fun v S1 H1 z1 d1=>?_
  rcases d1 with d1 | ⟨l',p,xs,rfl,rfl,hx,dx⟩
  ·cases d with
   | lst l'=>
    cases x
    obtain ⟨p,xs,rfl,h1,h2⟩:=den_lst.mp d1
    refine ⟨p,rfl,.inl ⟨⟨xs,.inl (cR z1.sub h1)⟩,k _ S1 H1 z1 fun S' H' z2=>⟨fun i d hd=>?_,xs,.inl (cR (z2.sh.trans z2.sub) h1),Pz h2.length.symm⟩⟩⟩
    obtain ⟨y,e1,e2⟩:=h2.get hd
    refine ⟨⟨xs,y,.inl (cR (z2.sh.trans z2.sub) h1),e1⟩,fun x H'' hy=>⟨hy.1,?_⟩⟩
    have:=hy.2 xs (.inl (cR (z2.sh.trans z2.sub) h1))
    rw [e1] at this
    cases this
    exact e2.mono z2.sh
   | tup l'=>
    cases x
    obtain ⟨p,xs,rfl,h1,h2⟩:=gA d1
    refine ⟨p,rfl,.inr ⟨⟨xs,ba z1.sub h1⟩,k _ S1 H1 z1 fun S' H' z2=>⟨fun i d hd=>?_,xs,ba (z2.sh.trans z2.sub) h1,Pz h2.length.symm⟩⟩⟩
    obtain ⟨y,e1,e2⟩:=h2.get hd
    refine ⟨⟨xs,y,ba (z2.sh.trans z2.sub) h1,e1⟩,fun x H'' hy=>⟨hy.1,?_⟩⟩
    have:=hy.2 xs (ba (z2.sh.trans z2.sub) h1)
    rw [e1] at this
    cases this
    exact e2.mono z2.sh
   | mtp l'=>
    cases x
    obtain ⟨p,xs,rfl,h1,h2⟩:=den_mtp.mp d1
    refine ⟨p,rfl,.inr ⟨⟨xs,ba z1.sub h1⟩,k _ S1 H1 z1 fun S' H' z2=>⟨fun i d hd=>?_,xs,ba (z2.sh.trans z2.sub) h1,Pz h2.length.symm⟩⟩⟩
    obtain ⟨y,e1,e2⟩:=h2.get hd
    refine ⟨⟨xs,y,ba (z2.sh.trans z2.sub) h1,e1⟩,fun x H'' hy=>⟨hy.1,?_⟩⟩
    have:=hy.2 xs (ba (z2.sh.trans z2.sub) h1)
    rw [e1] at this
    cases this
    exact e2.mono z2.sh
   | scr l'=>
    cases x
    obtain ⟨p,xs,rfl,h1,h2⟩:=den_scr.mp d1
    refine ⟨p,rfl,.inl ⟨⟨xs,dP z1.sub h1⟩,k _ S1 H1 z1 fun S' H' z2=>⟨fun i d hd=>?_,xs,dP (z2.sh.trans z2.sub) h1,Pz h2.length.symm⟩⟩⟩
    obtain ⟨y,e1,e2⟩:=h2.get hd
    refine ⟨⟨xs,y,dP (z2.sh.trans z2.sub) h1,e1⟩,fun x H'' hy=>⟨hy.1,?_⟩⟩
    have:=hy.2 xs (dP (z2.sh.trans z2.sub) h1)
    rw [e1] at this
    cases this
    exact e2.mono z2.sh
   | _=>cases x
  ·cases x
   refine ⟨p,rfl,.inl ⟨⟨xs,SqL.of hx⟩,k _ S1 H1 z1 fun S' H' z2=>?_⟩⟩
   have hx2:H' p = some (.lst xs):=z2.same z1.sub _ _ hx
   refine ⟨fun i d hd=>?_,xs,SqL.of hx2,Pz dx.length.symm⟩
   obtain ⟨y,e1,e2⟩:=dx.get hd
   refine ⟨⟨xs,y,SqL.of hx2,e1⟩,fun x H'' hy=>⟨hy.1,?_⟩⟩
   have:=hy.2 xs (SqL.of hx2)
   rw [e1] at this
   cases this
   exact e2.mono z2.sh
noncomputable def fQ (lo:Int):Nat -> List D
 | 0=>[]
 | n + 1=>.int lo :: fQ (lo + 1) n
theorem oM:∀ (n:Nat) (lo:Int) (i:Nat) (d:D),(fQ lo n)[i]? = some d -> i < n /\ d = .int (lo + i)
 | 0,_,_,_,h=>by simp [fQ] at h
 | n + 1,lo,0,d,h=>by simp [fQ] at h;exact ⟨QW _,by rw [<- h];simp⟩
 | n + 1,lo,i + 1,d,h=>by
  obtain ⟨h1,h2⟩:=oM n (lo + 1) i d (by simpa [fQ] using h)
  exact ⟨Nat.succ_lt_succ h1,by rw [h2];congr 1;lia⟩
theorem oO:∀ (n:Nat) (lo:Int),(fQ lo n).length = n
 | 0,_=>rfl
 | n + 1,lo=>by rw [fQ,OL,oO n]
theorem wa (lo:Int) (n:Nat):Walks K (Itr lo n) S (fQ lo n):=fun S' H' _ _=>⟨fun i d h=>by
 obtain ⟨h1,rfl⟩:=oM n lo i d h
 exact ⟨h1,fun x H'' y=>⟨y.1,den_int.mpr y.2⟩⟩,by rw [oO];exact OH _⟩
noncomputable def LA:List D -> Option (List D)
 | [.int j]=>ifC (j < 1000000 /\ -1000000 < j) (some (fQ 0 j.toNat)) none
 | [.int i,.int j]=>ifC (j < 4000000000000000000 /\ -4000000000000000000 < i /\ i < 4000000000000000000 /\ -4000000000000000000 < j) (some (fQ i (j - i).toNat)) none
 | _=>none
@[simp] noncomputable def Ee (a:XA):XA:=fun ρ=>(a ρ).bind LA
theorem EU {ta:TE} {a:XE} (h:SPk K ta a):SI K (IG (eW ta mV)) (Ee (ad a av)):=fun ρ σ S H R l r x k=>by
 unfold Ee at x
 cases q:ad a av ρ with
 | none=>rw [q] at x;cases x
 | some ds=>
  rw [q] at x
  obtain ⟨d,e,qa,qb,rfl⟩:=gX q
  cases qb
  cases d with
  | int j=>
   have x':ifC (j < 1000000 /\ -1000000 < j) (some (fQ 0 j.toNat)) none = some l:=x
   obtain ⟨hj,rfl⟩:=iJ x'
   refine h ρ σ S H _ _ r qa fun v S1 H1 z1 d1=>?_
   refine ⟨j,by rw [d1.int],?_,?_,k _ S1 H1 z1 (wa 0 _)⟩
   ·have:(2:Int) ^ 62 = 4611686018427387904:=by decide
    lia
   ·have:(2:Int) ^ 62 = 4611686018427387904:=by decide
    lia
  | _=>cases x
noncomputable def EH:Nat -> Nat -> List D
 | _,0=>[]
 | k,n + 1=>.int (2 * k) :: EH (k + 1) n
noncomputable def Lz:List D -> Option (List D)
 | [.int a,.int j,.int b]=>ifC (a = 0 /\ b = 2 /\ 0 <= j /\ j < 1000000) (some (EH 0 ((j + 1) / 2).toNat)) none
 | _=>none
@[simp] noncomputable def NT (a:XA):XA:=fun ρ=>(a ρ).bind Lz
noncomputable def c0 (g:XG) (m:XS):List D -> Env -> Option Out
 | [],ρ=>some (.nx ρ)
 | d :: l,ρ=>(g d ρ).bind fun ρ1=>match m ρ1 with
  | some (.nx ρ2)=>c0 g m l ρ2
  | some (.ct ρ2)=>c0 g m l ρ2
  | some (.bk ρ2)=>some (.nx ρ2)
  | some (.rt d)=>some (.rt d)
  | some (.ro d)=>some (.ro d)
  | none=>none
@[simp] noncomputable def ge (e:XA) (g:XG) (m:XS):XS:=fun ρ=>(e ρ).bind fun l=>c0 g m l ρ
theorem ny {l:List D} {i:Nat} {d:D} (h:l[i]? = some d):l.drop i = d :: l.drop (i + 1):=by
 obtain ⟨h1,rfl⟩:=Pg.mp h
 exact Rj h1
theorem ii {wi:TI} {g:TG} {tb:TS} {e:XA} {x:XG} {m:XS} (hi:SI K wi e) (hg:SG K g x) (hb:SS K tb m):SS K (Ip wi g tb) (ge e x m):=fun A Λ ρ σ S H E o r y k=>by
 unfold ge at y
 cases q:e ρ with
 | none=>rw [q] at y;cases y
 | some l=>
  rw [q] at y
  dsimp only [Option.bind] at y
  refine hi ρ σ S H _ l r.toRl q fun J S1 H1 z1 wk=>?_
  have r1:=r.ext z1
  refine ⟨fun i n σ' H'=>n = l.length - i /\ i <= l.length /\ ∃ ρ' S',RlA K A Λ ρ' σ' S' H' /\ Same S1 S' /\ c0 x m (l.drop i) ρ' = some o,⟨_,rfl,Pl _,ρ,S1,r1,Same.refl _,y⟩,?_⟩
  rintro i n σ2 H2 ⟨rfl,hil,ρ2,S2,r2,s2,y2⟩
  obtain ⟨w1,w2⟩:=wk S2 H2 s2 r2.sub
  cases qd:l[i]? with
  | none=>
   have:l.length = i:=by have:=QE.mp qd;lia
   subst this
   rw [QC (OH _)] at y2
   cases y2
   exact .inl ⟨w2,k σ2 S2 H2 r2 (z1.sh.trans s2)⟩
  | some d=>
   obtain ⟨g1,g2⟩:=w1 i d qd
   have hlt:=(Pg.mp qd).1
   rw [ny qd] at y2
   unfold c0 at y2
   cases qx:x d ρ2 with
   | none=>rw [qx] at y2;cases y2
   | some ρ3=>
    rw [qx] at y2
    dsimp only [Option.bind] at y2
    refine .inr ⟨g1,fun σ' H'=>∃ ρ' S',RlA K A Λ ρ' σ' S' H' /\ Same S1 S' /\ c0 x m (l.drop (i + 1)) ρ' = some o,fun σ' H' ⟨ρ',S',a1,a2,a3⟩=>⟨_,by lia,rfl,hlt,ρ',S',a1,a2,a3⟩,fun xv H3 hy=>?_⟩
    obtain ⟨rfl,dx⟩:=g2 xv H3 hy
    refine hg A Λ ρ2 σ2 S2 H3 xv d _ ρ3 r2 dx qx fun σ3 r3=>?_
    cases qm:m ρ3 with
    | none=>rw [qm] at y2;cases y2
    | some om=>
     rw [qm] at y2
     refine hb A Λ ρ3 σ3 S2 H3 _ om r3 qm ?_
     cases om with
     | nx ρ4=>exact fun σ4 S4 H4 r4 s4=>⟨ρ4,S4,r4,s2.trans s4,y2⟩
     | ct ρ4=>exact fun σ4 S4 H4 r4 s4=>⟨ρ4,S4,r4,s2.trans s4,y2⟩
     | bk ρ4=>cases y2;exact fun σ4 S4 H4 r4 s4=>k σ4 S4 H4 r4 ((z1.sh.trans s2).trans s4)
     | rt d4=>cases y2;exact fun v S4 H4 s4=>k v S4 H4 ((z1.sh.trans s2).trans s4)
     | ro d4=>cases y2;exact fun v fp S4 H4 s4=>k v fp S4 H4 ((z1.sh.trans s2).trans s4)
noncomputable def cv (c:XT) (m:XS):Nat -> Env -> Option Out
 | 0,_=>none
 | n + 1,ρ=>(c ρ).bind fun b=>if b = true then (match m ρ with
  | some (.nx ρ2)=>cv c m n ρ2
  | some (.ct ρ2)=>cv c m n ρ2
  | some (.bk ρ2)=>some (.nx ρ2)
  | some (.rt d)=>some (.rt d)
  | some (.ro d)=>some (.ro d)
  | none=>none) else some (.nx ρ)
theorem kW (c:XT) (m:XS):∀ (n:Nat) (ρ:Env) (o:Out),cv c m n ρ = some o -> cv c m (n + 1) ρ = some o
 | 0,_,_,h=>by cases h
 | n + 1,ρ,o,h=>by
  unfold cv at h ⊢
  cases qc:c ρ with
  | none=>rw [qc] at h;cases h
  | some b=>
   rw [qc] at h
   dsimp only [Option.bind] at h ⊢
   cases b with
   | false=>exact h
   | true=>
    rw [OC rfl] at h ⊢
    cases qm:m ρ with
    | none=>rw [qm] at h;cases h
    | some om=>
     rw [qm] at h
     cases om with
     | nx ρ2=>exact kW c m n ρ2 o h
     | ct ρ2=>exact kW c m n ρ2 o h
     | bk ρ2=>exact h
     | rt d=>exact h
     | ro d=>exact h
theorem mW (c:XT) (m:XS) (n:Nat) (ρ:Env) (o:Out) (h:cv c m n ρ = some o):∀ k,cv c m (n + k) ρ = some o
 | 0=>h
 | k + 1=>kW c m (n + k) ρ o (mW c m n ρ o h k)
noncomputable def n9 (c:XT) (m:XS):XS:=fun ρ=>by
 classical
 exact if h:∃ o n,cv c m n ρ = some o then some h.choose else none
noncomputable def gZ (c:XT) (m:XS):XS:=fun ρ=>(cv c m 64 ρ).or (n9 c m ρ)
theorem tS {c:XT} {m:XS} {ρ:Env} {o o':Out} {n k:Nat} (h:cv c m n ρ = some o) (h':cv c m k ρ = some o'):o' = o:=by
 have h3:=mW c m n ρ o h k
 have h4:=mW c m k ρ _ h' n
 rw [Nat.add_comm k n,h3] at h4
 exact (Pj h4).symm
theorem wd {c:XT} {m:XS} {n:Nat} {ρ:Env} {o:Out} (h:cv c m n ρ = some o):gZ c m ρ = some o:=by
 unfold gZ
 cases q:cv c m 64 ρ with
 | some o'=>exact OZ some (tS h q)
 | none=>
  have hx:∃ o n,cv c m n ρ = some o:=⟨o,n,h⟩
  show n9 c m ρ = some o
  unfold n9
  rw [dif_pos hx]
  obtain ⟨n2,h2⟩:=hx.choose_spec
  exact OZ some (tS h h2)
theorem vD {c:XT} {m:XS} {ρ:Env} {o:Out} (h:gZ c m ρ = some o):∃ n,cv c m n ρ = some o:=by
 unfold gZ at h
 cases q:cv c m 64 ρ with
 | some o'=>rw [q] at h;exact ⟨64,q.trans h⟩
 | none=>
  rw [q] at h
  have h:n9 c m ρ = some o:=h
  unfold n9 at h
  split at h
  ·rename_i hx
   cases h
   exact hx.choose_spec
  ·cases h
theorem BG {c:XT} {m:XS} {ρ:Env} (h:c ρ = some false):gZ c m ρ = some (.nx ρ):=wd (n:=1) (by unfold cv;rw [h];rfl)
theorem pZ {c:XT} {m:XS} {ρ ρ2:Env} {o:Out} (h:c ρ = some true) (hm:m ρ = some (.nx ρ2)) (k:gZ c m ρ2 = some o):gZ c m ρ = some o:=by
 obtain ⟨n,hn⟩:=vD k
 exact wd (n:=n + 1) (by unfold cv;rw [h,hm];exact hn)
theorem Ic {tc:TT} {tb:TS} {c:XT} {m:XS} (hc:ST K tc c) (hb:SS K tb m):SS K (Gx tc tb) (gZ c m):=fun A Λ ρ σ S H E o r y k=>by
 obtain ⟨n,hn⟩:=vD y
 refine ⟨fun n σ' H'=>∃ ρ' S',RlA K A Λ ρ' σ' S' H' /\ Same S S' /\ cv c m n ρ' = some o,⟨n,ρ,S,r,Same.refl _,hn⟩,?_⟩
 rintro n σ1 H1 ⟨ρ1,S1,r1,s1,h1⟩
 cases n with
 | zero=>cases h1
 | succ n=>
  unfold cv at h1
  cases qc:c ρ1 with
  | none=>rw [qc] at h1;cases h1
  | some b=>
   rw [qc] at h1
   dsimp only [Option.bind] at h1
   refine hc ρ1 σ1 S1 H1 _ b r1.toRl qc fun S2 H2 z2=>?_
   have r2:=r1.ext z2
   cases b with
   | false=>
    rw [OB (by decide)] at h1
    cases h1
    exact yD (k σ1 S2 H2 r2 (s1.trans z2.sh))
   | true=>
    rw [OC rfl] at h1
    refine yE ⟨fun σ' H'=>∃ ρ' S',RlA K A Λ ρ' σ' S' H' /\ Same S S' /\ cv c m n ρ' = some o,fun σ' H' a=>⟨n,QD _,a⟩,?_⟩
    cases qm:m ρ1 with
    | none=>rw [qm] at h1;cases h1
    | some om=>
     rw [qm] at h1
     refine hb A Λ ρ1 σ1 S2 H2 _ om r2 qm ?_
     cases om with
     | nx ρ4=>exact fun σ4 S4 H4 r4 s4=>⟨ρ4,S4,r4,(s1.trans z2.sh).trans s4,h1⟩
     | ct ρ4=>exact fun σ4 S4 H4 r4 s4=>⟨ρ4,S4,r4,(s1.trans z2.sh).trans s4,h1⟩
     | bk ρ4=>cases h1;exact fun σ4 S4 H4 r4 s4=>k σ4 S4 H4 r4 ((s1.trans z2.sh).trans s4)
     | rt d4=>cases h1;exact fun v S4 H4 s4=>k v S4 H4 ((s1.trans z2.sh).trans s4)
     | ro d4=>cases h1;exact fun v fp S4 H4 s4=>k v fp S4 H4 ((s1.trans z2.sh).trans s4)
@[simp] noncomputable def qw (js:List (Option Nat)) (ρ:Env):Env:=js.map fun o=>match o with | none=>.un | some j=>match ρ[j]? with | some (.sh d)=>.sh d | _=>.un
noncomputable def bV (g:XG) (c:XT) (e:XE) (ρ0:Env):List D -> Option (List D)
 | []=>some []
 | d :: l=>(g d ρ0).bind fun ρ1=>(c ρ1).bind fun b=>if b = true then (e ρ1).bind fun y=>(bV g c e ρ0 l).map fun r=>y :: r else bV g c e ρ0 l
@[simp] noncomputable def cH (js:List (Option Nat)) (w:XA) (g:XG) (c:XT) (e:XE):XA:=fun ρ=>(w ρ).bind fun l=>if l.length <= LIM then bV g c e (qw js ρ) l else none
@[simp] noncomputable def eT:XT:=fun _=>some true
theorem l5:ST K Iz eT:=fun ρ σ S H Q b r x k=>by cases x;exact k S H (Ext.refl r.sub)
theorem nH {js:List (Option Nat)} {ρ:Env} {i:Nat} {s:Sl} (h:(qw js ρ)[i]? = some s):s = .un \/ ∃ d j,s = .sh d /\ js[i]? = some (some j) /\ ρ[j]? = some (.sh d):=by
 unfold qw at h
 rw [O6] at h
 cases q:js[i]? with
 | none=>rw [q] at h;cases h
 | some o=>
  rw [q] at h
  cases o with
  | none=>cases h;exact .inl rfl
  | some j=>
   simp only [Option.map_some] at h
   cases q2:ρ[j]? with
   | none=>rw [q2] at h;cases h;exact .inl rfl
   | some s2=>
    rw [q2] at h
    cases s2 with
    | un=>cases h;exact .inl rfl
    | lo=>cases h;exact .inl rfl
    | ow l=>cases h;exact .inl rfl
    | sh d=>cases h;exact .inr ⟨d,j,rfl,rfl,q2⟩
noncomputable def g8 (S H:Hp):Hp:=fun b=>match S b with | none=>H b | some _=>none
theorem ox {S H:Hp}:Same (g8 S H) H:=fun b o h=>by
 unfold g8 at h
 cases q:S b with
 | none=>rw [q] at h;exact h
 | some _=>rw [q] at h;cases h
theorem oq {S H:Hp} (b:Addr):S b = none \/ g8 S H b = none \/ ∃ u,g8 S H b = some u /\ IT u:=by
 unfold g8
 cases q:S b with
 | none=>exact .inl rfl
 | some _=>exact .inr (.inl rfl)
theorem rE {S H:Hp} {b:Addr} {o:HO} (h:H b = some o) (n:S b = none):g8 S H b = some o:=by
 unfold g8
 rw [n]
 exact h
theorem FT {ρ:Env} {σ:St} (r:Rl K ρ σ S H) (js:List (Option Nat)):RlA K (g8 S H) (fun _=>none) (qw js ρ) (inn js σ) S H:=by
 refine ⟨fun _=>[],?_⟩
 exact {
  len:=by unfold qw inn;rw [OJ,OJ]
  sub:=r.sub
  sh:=fun i d h=>by
   rcases nH h with e | ⟨d',j,e,h1,h2⟩
   ·cases e
   ·cases e
    obtain ⟨v,k1,k2⟩:=r.sh j d h2
    refine ⟨v,?_,k2⟩
    unfold inn
    rw [O6,h1]
    show some ((σ[j]?).join) = some (some v)
    rw [k1]
    rfl
  ow:=fun i o h=>by
   rcases nH h with e | ⟨d',j,e,h1,h2⟩
   ·cases e
   ·cases e
  dj:=fun i j o o' _ h=>by
   rcases nH h with e | ⟨d',j,e,h1,h2⟩
   ·cases e
   ·cases e
  lo:=fun i h=>by
   rcases nH h with e | ⟨d',j,e,h1,h2⟩
   ·cases e
   ·cases e
  asub:=ox
  adis:=oq }
theorem d8 {js:List (Option Nat)} {wi:TI} {g:TG} {tt:TIf} {te:TE} {w:XA} {x:XG} {c:XT} {e:XE} (hi:SIP K wi w) (hg:SG K g x) (hc:ST K tt c) (he:SE K te e):SF K (CH js wi g tt te) (cH js w x c e):=fun ρ σ S H Q l r y k=>by
 unfold cH at y
 cases q:w ρ with
 | none=>rw [q] at y;cases y
 | some ds=>
  rw [q] at y
  dsimp only [Option.bind] at y
  split at y
  ·rename_i hlim
   refine hi ρ σ S H _ ds r q fun J S1 H1 z1 wk D hD=>?_
   have r1:=r.ext z1
   have hD0:H D = none:=(z1.same r.sub).free hD
   -- the word: what is told so far,what is still to be told
   refine ⟨fun i n H'=>n = ds.length - i /\ i <= ds.length /\ ∃ S' done ys fj,Ext S1 H1 S' H' /\ Same S1 S' /\ H' D = some (.lst ys) /\ S' D = none /\ Dens K S' done ys /\ done.length <= i /\ bV x c e (qw js ρ) (ds.drop i) = some fj /\ l = done ++ fj,
    ⟨_,rfl,Pl _,S1,[],[],l,Ext.own z1.sub hD,Same.refl _,aB,z1.sub.free hD,.nil,Pl _,y,rfl⟩,?_⟩
   rintro i n H2 ⟨rfl,hil,S2,done,ys,fj,z2,s2,hy,hSD,dy,hdl,y2,rfl⟩
   obtain ⟨w1,w2⟩:=wk S2 H2 z2
   cases qd:ds[i]? with
   | none=>
    have:ds.length = i:=by have:=QE.mp qd;lia
    subst this
    rw [QC (OH _)] at y2
    cases y2
    rw [Pd] at k
    exact .inl ⟨w2,k D ys S2 H2 (z1.trans z2) hD0 hSD hy dy⟩
   | some d=>
    obtain ⟨g1,g2⟩:=w1 i d qd
    have hlt:=(Pg.mp qd).1
    rw [ny qd] at y2
    unfold bV at y2
    cases qx:x d (qw js ρ) with
    | none=>rw [qx] at y2;cases y2
    | some ρ3=>
     rw [qx] at y2
     dsimp only [Option.bind] at y2
     refine .inr ⟨g1,fun xv H3 hyl=>?_⟩
     obtain ⟨rfl,dx⟩:=g2 xv H3 hyl
     have ri:=FT (r1.ext z2) js
     refine hg _ _ _ _ S2 H3 xv d _ ρ3 ri dx qx fun σ3 r3=>?_
     cases qc:c ρ3 with
     | none=>rw [qc] at y2;cases y2
     | some b=>
      rw [qc] at y2
      dsimp only at y2
      refine hc ρ3 σ3 S2 H3 _ b r3.toRl qc fun S4 H4 z4=>?_
      obtain ⟨al1,al2⟩:=z4.al D _ hy hSD
      cases b with
      | false=>
       rw [OB (by decide)] at y2
       exact yD ⟨_,by lia,rfl,hlt,S4,done,ys,fj,z2.trans z4,s2.trans z4.sh,al1,al2,dy.mono z4.sh,by lia,y2,rfl⟩
      | true=>
       rw [OC rfl] at y2
       cases qe:e ρ3 with
       | none=>rw [qe] at y2;cases y2
       | some dv=>
        rw [qe] at y2
        dsimp only at y2
        cases qr:bV x c e (qw js ρ) (ds.drop (i + 1)) with
        | none=>rw [qr] at y2;cases y2
        | some rest2=>
         rw [qr] at y2
         cases y2
         refine yE (he ρ3 σ3 S4 H4 _ dv (r3.toRl.ext z4) qe fun v S5 H5 z5 d5=>?_)
         obtain ⟨b1,b2⟩:=z5.al D _ al1 al2
         refine ⟨ys,b1,?_,_,by lia,rfl,hlt,S5,done ++ [dv],ys ++ [v],rest2,?_,(s2.trans z4.sh).trans z5.sh,aB,b2,((dy.mono z4.sh).mono z5.sh).append (.cons d5 .nil),by rw [OM,PU];lia,qr,by rw [Pb];rfl⟩
         ·rw [<- dy.length]
          exact Pa (Pw hdl hlt) (OW hlim (Pk fg))
         ·have z6:=(z2.trans z4).trans z5
          exact ⟨z6.sh,fun b u hb=>by rw [aD fun z=>by subst z;rw [b2] at hb;cases hb];exact z6.sub b u hb,fun b o hb hn=>by
           obtain ⟨c1,c2⟩:=z6.alw b o hb hn
           exact ⟨by rw [aD fun z=>by subst z;rw [hD] at hb;cases hb];exact c1,c2⟩⟩
  ·cases y
@[simp] noncomputable def NI (i:Nat) (g:XG) (m:XS):XS:=fun ρ=>match ρ[i]? with
 | some (.ow (.lst os))=>(match shs os with
  | some l=>(match c0 g m l (ρ.set i .lo) with
   | some (.nx ρ')=>(match ρ'[i]? with | some .lo=>some (.nx (ρ'.set i (.ow (.lst os)))) | _=>none)
   | some (.rt d)=>some (.rt d)
   | _=>none)
  | none=>none)
 | _=>none
noncomputable def fnO (n:Nat) (x:XS) (ds:List D):Option O:=match x (ds.map .sh ++ List.replicate (n - ds.length) .un) with
 | some (.rt d)=>some (.sh d)
 | some (.ro o)=>some o
 | some (.nx _)=>some (.sh .non)
 | _=>none
theorem FU {N:List Str} {ds:List D} {vs:List V} (s:Same S H) (h:Dens K S ds vs):RlA K (g8 S H) (fun _=>none) (ds.map .sh ++ List.replicate (N.length - ds.length) .un) (L2.bi N vs) S H:=by
 have hl:=h.length
 have key:∀ (i:Nat) t,(ds.map Sl.sh ++ List.replicate (N.length - ds.length) .un)[i]? = some t -> t = .un \/ ∃ d v,t = .sh d /\ (L2.bi N vs)[i]? = some (some v) /\ Den K S d v:=fun i t ht=>by
  by_cases hi:i < ds.length
  ·rw [QB (by rw [OJ];exact hi),O6] at ht
   cases q:ds[i]? with
   | none=>rw [q] at ht;cases ht
   | some d=>
    rw [q] at ht
    cases ht
    obtain ⟨v,e1,e2⟩:=h.get q
    refine .inr ⟨d,v,rfl,?_,e2⟩
    unfold L2.bi
    rw [QB (by rw [OJ];lia),O6,e1]
    rfl
  ·rw [QA (by rw [OJ];lia),Sa] at ht
   split at ht
   ·cases ht;exact .inl rfl
   ·cases ht
 refine ⟨fun _=>[],?_⟩
 exact {
  len:=by unfold L2.bi;rw [OM,OM,OJ,OJ,RI,RI,hl]
  sub:=s
  sh:=fun i d hi=>by
   rcases key i _ hi with e | ⟨d',v,e,h1,h2⟩
   ·cases e
   ·cases e;exact ⟨v,h1,h2⟩
  ow:=fun i o hi=>by
   rcases key i _ hi with e | ⟨d',v,e,h1,h2⟩
   ·cases e
   ·cases e
  dj:=fun i j o o' _ hi=>by
   rcases key i _ hi with e | ⟨d',v,e,h1,h2⟩
   ·cases e
   ·cases e
  lo:=fun i hi=>by
   rcases key i _ hi with e | ⟨d',v,e,h1,h2⟩
   ·cases e
   ·cases e
  asub:=ox
  adis:=oq }
theorem dM {t:TS} {x:XS} {N:List Str} {n k:Nat} {vs:List V} {H:Hp} {Q:VK} {E:XK} (hs:SS K t x) (hN:N.length = n) (h:fX K k (fnO n x) vs H Q E) :
  t { nx:=fun _ H'=>Q .non H',rt:=Q } (L2.bi N vs) H:=by
 obtain ⟨_,S,ds,d,s,dd,y,q⟩:=h
 subst hN
 unfold fnO at y
 have r:=FU (N:=N) s dd
 have ex:∀ {S' H':Hp},Same S S' -> Same S' H' -> Same (g8 S H) H' -> (∀ b,S' b = none \/ g8 S H b = none \/ ∃ u,g8 S H b = some u /\ IT u) -> Ext S H S' H':=fun s1 s2 s3 s4=>⟨s1,s2,fun b o hb hn=>by
  have ha:=rE hb hn
  refine ⟨s3 b o ha,?_⟩
  rcases s4 b with z | z | ⟨u,z,hu⟩
  ·exact .inl z
  ·rw [ha] at z;cases z
  ·rw [ha] at z;cases z;exact .inr hu⟩
 cases qx:x (ds.map .sh ++ List.replicate (N.length - ds.length) .un) with
 | none=>rw [qx] at y;cases y
 | some o=>
  rw [qx] at y
  refine hs _ _ _ _ S H _ o r qx ?_
  cases o with
  | rt d'=>
   cases y
   exact fun v S' H' s1 s2 s3 s4 dv=>q v [] S' H' (ex s1 s2 s3 s4) (own_sh.mpr ⟨rfl,dv⟩) .nil fun b hb=>by cases hb
  | ro o'=>
   cases y
   refine fun v fp S' H' s1 s2 s3 s4 ow nd n=>q v fp S' H' (ex s1 s2 s3 s4) ow nd fun b hb=>⟨?_,(n b hb).1⟩
   cases qb:H b with
   | none=>rfl
   | some u=>
    have:=rE qb (s1.free (n b hb).1)
    rw [(n b hb).2] at this;cases this
  | nx ρ'=>
   cases y
   exact fun σ' S' H' r' s1=>q .non [] S' H' (ex s1 r'.sub r'.asub r'.adis) (own_sh.mpr ⟨rfl,den_non.mpr rfl⟩) .nil fun b hb=>by cases hb
  | bk ρ'=>cases y
  | ct ρ'=>cases y
end
noncomputable def dI (f:Int -> Int -> Option D):D -> D -> Option D
 | .int i,.int j=>f i j
 | _,_=>none
noncomputable def jo:D -> D -> Option D:=dI fun i j=>ifC ((-18446744073709551616 < i /\ i < 18446744073709551616) \/ (-18446744073709551616 < j /\ j < 18446744073709551616)) (some (.int (i * j))) none
noncomputable def ue:D -> D -> Option D:=dI fun i j=>ifC (0 < j /\ j < 1073741824) (some (.int (i / j))) none
noncomputable def nq:D -> D -> Option D:=dI fun i j=>ifC (0 < j) (some (.int (i % j))) none
noncomputable def Ha:D -> D -> Option D:=dI fun i j=>ifC (0 <= j /\ j <= 1000000 /\ i.natAbs < 18446744073709551616) (some (.int (i ^ j.toNat))) none
noncomputable def yd:D -> D -> Option D:=dI fun i j=>some (.int (i - j))
noncomputable def dLt:D -> D -> Option D:=dI fun i j=>some (.bl (decide (i < j)))
noncomputable def dLe:D -> D -> Option D:=dI fun i j=>some (.bl (decide (i <= j)))
noncomputable def dGt:D -> D -> Option D:=dI fun i j=>some (.bl (decide (j < i)))
noncomputable def dGe:D -> D -> Option D:=dI fun i j=>some (.bl (decide (j <= i)))
noncomputable def j6:D -> Option D
 | .int i=>some (.int (-i))
 | _=>none
section
variable {K:W.Frag}
theorem r_i {C:Int -> Int -> Prop} {g:Int -> Int -> V} {f:Int -> Int -> Option D} (h:∀ i j d,f i j = some d -> C i j /\ mE d = some (g i j)):SR2 K (rI C g) (dI f):=fun S H x y d e z Q s dx dy q k=>by
 cases d <;> cases e <;> try cases q
 rename_i i j
 obtain ⟨h1,h2⟩:=h i j z q
 exact ⟨i,j,dx.int,dy.int,h1,k _ S H (Ext.refl s) (iH h2)⟩
theorem DP {g:Int -> Int -> V} {f:Int -> Int -> Option D} (h:∀ i j d,f i j = some d -> mE d = some (g i j)):SR2 K (rI0 g) (dI f):=fun S H x y d e z Q s dx dy q k=>by
 cases d <;> cases e <;> try cases q
 rename_i i j
 exact ⟨i,j,dx.int,dy.int,k _ S H (Ext.refl s) (iH (h i j z q))⟩
theorem vN:SR2 K (rI CMul fun i j=>.int (i * j)) jo:=r_i fun i j d h=>by
 obtain ⟨c,rfl⟩:=iJ h
 refine ⟨?_,rfl⟩
 unfold CMul
 have:(2:Int) ^ 64 = 18446744073709551616:=by decide
 rw [this]
 exact c
theorem pS:SR2 K (rI KI fun i j=>.int (i / j)) ue:=r_i fun i j d h=>by
 obtain ⟨c,rfl⟩:=iJ h
 exact ⟨c,rfl⟩
theorem jX:SR2 K (rI (fun _ j=>0 < j) fun i j=>.int (i % j)) nq:=r_i fun i j d h=>by
 obtain ⟨c,rfl⟩:=iJ h
 exact ⟨c,rfl⟩
theorem Lx:SR2 K (rI Jl fun i j=>.int (i ^ j.toNat)) Ha:=r_i fun i j d h=>by
 obtain ⟨c,rfl⟩:=iJ h
 refine ⟨?_,rfl⟩
 unfold Jl
 have:(2:Nat) ^ 64 = 18446744073709551616:=by decide
 rw [this]
 exact c
theorem Cw:SR2 K (rI0 fun i j=>.int (i - j)) yd:=DP fun i j d h=>by cases h;rfl
theorem Lv:SR2 K (rI0 fun i j=>.bl (decide (i < j))) dLt:=DP fun i j d h=>by cases h;rfl
theorem Kd:SR2 K (rI0 fun i j=>.bl (decide (i <= j))) dLe:=DP fun i j d h=>by cases h;rfl
theorem HS:SR2 K (rI0 fun i j=>.bl (decide (j < i))) dGt:=DP fun i j d h=>by cases h;rfl
theorem MA:SR2 K (rI0 fun i j=>.bl (decide (j <= i))) dGe:=DP fun i j d h=>by cases h;rfl
theorem f8:SR1 K (rU fun i=>.int (-i)) j6:=fun S H x d g Q s dx q k=>by
 cases d <;> try cases q
 rename_i i
 exact ⟨i,dx.int,k _ S H (Ext.refl s) (den_int.mpr rfl)⟩
end
noncomputable def IQ:R2:=fun x y H Q=>∃ l b xs zs,x = .ref l /\ y = .ref b /\ Rd H l (.lst xs) /\ Rd H b (.lst zs) /\ xs.length + zs.length <= sizeLine /\ ∀ p,H p = none -> Q (.ref p) (upd H p (.lst (xs ++ zs)))
noncomputable def IZ (K:W.Frag):R2:=fun x y H Q=>∃ a b xs ys,x = .ref a /\ y = .ref b /\ SqT K H a xs /\ SqT K H b ys /\ xs.length + ys.length <= sizeLine /\
 (ys = [] -> Q (.ref a) H) /\ (xs = [] -> Q (.ref b) H) /\ ∀ p,H p = none -> Q (.ref p) (upd H p (.tup (xs ++ ys)))
noncomputable def IX:R2:=fun x y H Q=>∃ i j,x = .str i /\ y = .str j /\ i.length + j.length <= sizeLine /\ Q (.str (i ++ j)) H
noncomputable def IP (K:W.Frag):R2:=fun x y H Q=>(∃ i j,x = .int i /\ y = .int j /\ Q (.int (i + j)) H) \/ IQ x y H Q \/ IZ K x y H Q \/ IX x y H Q
noncomputable def dF:D -> D -> Option D
 | .int i,.int j=>some (.int (i + j))
 | .lst a,.lst b=>if a.length + b.length <= LIM then some (.lst (a ++ b)) else none
 | .tup a,.tup b=>if a.length + b.length <= LIM then some (.tup (a ++ b)) else none
 | .str a,.str b=>if a.length + b.length <= LIM then some (.str (a ++ b)) else none
 | _,_=>none
section
variable {K:W.Frag}
theorem Dens.nil_iff {S:Hp} {ds:List D} {xs:List V} (h:Dens K S ds xs):xs = [] ↔ ds = []:=by
 have:=h.length
 cases ds <;> cases xs <;> simp_all
theorem sE {n:Nat} (h:n <= LIM):n <= sizeLine:=Pk (Pw h fg)
theorem dL:SR2 K (IP K) dF:=fun S H x y d e z Q s dx dy q k=>by
 cases d <;> cases e <;> try (cases q;done)
 ·rename_i i j
  cases q
  exact .inl ⟨i,j,dx.int,dy.int,k _ S H (Ext.refl s) (den_int.mpr rfl)⟩
 ·rename_i i j
  have q':(if i.length + j.length <= LIM then some (D.str (i ++ j)) else none) = some z:=q
  split at q'
  ·rename_i hl
   cases q'
   exact .inr (.inr (.inr ⟨i,j,dx.str,dy.str,sE hl,k _ S H (Ext.refl s) (den_str.mpr rfl)⟩))
  ·cases q'
 ·rename_i a b
  have q':(if a.length + b.length <= LIM then some (D.lst (a ++ b)) else none) = some z:=q
  split at q'
  ·rename_i hl
   cases q'
   obtain ⟨p,xs,rfl,h1,h2⟩:=dx.lst s
   obtain ⟨p',ys,rfl,h3,h4⟩:=dy.lst s
   refine .inr (.inl ⟨p,p',xs,ys,rfl,rfl,h1,h3,by rw [<- h2.length,<- h4.length];exact sE hl,fun q hq=>?_⟩)
   have z:=Ext.new (o:=.lst (xs ++ ys)) s hq
   exact k _ _ _ z (den_lst.mpr ⟨q,_,rfl,.inl aB,(h2.append h4).mono z.sh⟩)
  ·cases q'
 ·rename_i a b
  have q':(if a.length + b.length <= LIM then some (D.tup (a ++ b)) else none) = some z:=q
  split at q'
  ·rename_i hl
   cases q'
   obtain ⟨p,xs,e1,h1,h2⟩:=dx.tup s
   obtain ⟨p',ys,e2,h3,h4⟩:=dy.tup s
   have dx':Den K S (.tup a) x:=dx.elim id fun ⟨_,_,_,e,_⟩=>by cases e
   have dy':Den K S (.tup b) y:=dy.elim id fun ⟨_,_,_,e,_⟩=>by cases e
   subst e1 e2
   refine .inr (.inr (.inl ⟨p,p',xs,ys,rfl,rfl,h1,h3,by rw [<- h2.length,<- h4.length];exact sE hl,fun e=>?_,fun e=>?_,fun q hq=>?_⟩))
   ·have:=h4.nil_iff.mp e
    subst this
    exact k _ S H (Ext.refl s) (by rw [Pd];exact dx')
   ·have:=h2.nil_iff.mp e
    subst this
    exact k _ S H (Ext.refl s) (by rw [List.nil_append];exact dy')
   ·have z:=Ext.new (o:=.tup (xs ++ ys)) s hq
    exact k _ _ _ z (den_tup.mpr ⟨q,_,rfl,TpA.of aB,(h2.append h4).mono z.sh⟩)
  ·cases q'
end
mutual
noncomputable def eqD:D -> D -> Bool
 | .non,.non=>true
 | .bl a,.bl b=>a == b
 | .bl a,.int j=>(if a then 1 else 0) == j
 | .int i,.bl b=>i == (if b then 1 else 0)
 | .int i,.int j=>i == j
 | .str x,.str y=>x == y
 | .lst a,.lst b=>eqDs a b
 | .tup a,.tup b=>eqDs a b
 | .tup a,.mtp b=>eqDs a b
 | .mtp a,.tup b=>eqDs a b
 | .mtp a,.mtp b=>eqDs a b
 | _,_=>false
noncomputable def eqDs:List D -> List D -> Bool
 | [],[]=>true
 | x :: xs,y :: ys=>eqD x y && eqDs xs ys
 | _,_=>false
end
mutual
noncomputable def okD:Nat -> D -> Bool
 | _,.non=>true
 | _,.bl _=>true
 | _,.int _=>true
 | _,.str x=>PyData.strOk x
 | n + 1,.lst l=>okDs n l
 | n + 1,.tup l=>okDs n l
 | n + 1,.mtp l=>okDs n l
 | _,_=>false
noncomputable def okDs:Nat -> List D -> Bool
 | _,[]=>true
 | n,d :: l=>okD n d && okDs n l
end
noncomputable def Kb (K:W.Frag) (neg:Bool):R2:=fun x y H Q=>∃ S d e,Same S H /\ DenP K S H d x /\ DenP K S H e y /\ okD 50 d = true /\ okD 50 e = true /\ Q (.bl (if neg then !eqD d e else eqD d e)) H
noncomputable def dEq (neg:Bool) (d e:D):Option D:=if okD 50 d = true /\ okD 50 e = true then some (.bl (if neg then !eqD d e else eqD d e)) else none
section
variable {K:W.Frag}
theorem iW (neg:Bool):SR2 K (Kb K neg) (dEq neg):=fun S H x y d e z Q s dx dy q k=>by
 unfold dEq at q
 split at q
 ·rename_i c
  cases q
  exact ⟨S,d,e,s,dx,dy,c.1,c.2,k _ S H (Ext.refl s) (den_bl.mpr rfl)⟩
 ·cases q
end
noncomputable def nI:D -> Bool
 | .non=>true | _=>false
noncomputable def JE (neg:Bool) (d e:D):Option D:=match e with | .non=>some (.bl (if neg then !nI d else nI d)) | _=>none
section
variable {K:W.Frag}
theorem HC {S H:Hp} {d:D} {v:V} (h:DenP K S H d v):decide (v = .non) = nI d:=by
 cases d with
 | non=>rw [h.non];rfl
 | bl b=>rw [h.bl];rfl
 | int b=>rw [h.int];rfl
 | str b=>rw [h.str];rfl
 | ty b=>rw [h.ty];rfl
 | lst l=>
  rcases h with h | ⟨_,p,_,_,e,_⟩
  ·obtain ⟨p,_,e,_⟩:=den_lst.mp h
   rw [e];rfl
  ·rw [e];rfl
 | tup l=>
  rcases h with h | ⟨_,p,_,_,e,_⟩
  ·obtain ⟨p,_,e,_⟩:=gA h
   rw [e];rfl
  ·rw [e];rfl
 | scr l=>
  rcases h with h | ⟨_,p,_,_,e,_⟩
  ·obtain ⟨p,_,e,_⟩:=den_scr.mp h
   rw [e];rfl
  ·rw [e];rfl
 | ins C ns l=>
  rcases h with h | ⟨_,p,_,_,e,_⟩
  ·obtain ⟨p,_,_,_,e,_⟩:=den_ins.mp h
   rw [e];rfl
  ·rw [e];rfl
 | dic ks=>
  rcases h with h | ⟨_,p,_,_,e,_⟩
  ·obtain ⟨p,e,_⟩:=den_dic.mp h
   rw [e];rfl
  ·rw [e];rfl
 | mtp l=>
  rcases h with h | ⟨_,p,_,_,e,_⟩
  ·obtain ⟨p,_,e,_⟩:=den_mtp.mp h
   rw [e];rfl
  ·rw [e];rfl
 | dif ks=>
  rcases h with h | ⟨_,p,_,_,e,_⟩
  ·obtain ⟨p,_,e,_⟩:=den_dif.mp h
   rw [e];rfl
  ·rw [e];rfl
theorem Lu:SR2 K My (JE false):=fun S H x y d e z Q s dx dy q k=>by
 cases e <;> try (cases q;done)
 cases q
 exact ⟨dy.non,by rw [HC dx];exact k _ S H (Ext.refl s) (den_bl.mpr rfl)⟩
end
noncomputable def dIx:D -> D -> Option D
 | .lst l,.int i=>atI l i
 | .tup l,.int i=>atI l i
 | .scr l,.int i=>atI l i
 | .str x,.int i=>if x.length <= LIM then (atI x.cps.toList i).map fun c=>.str ⟨#[c]⟩ else none
 | _,_=>none
section
variable {K:W.Frag}
theorem rG {S:Hp} {ds:List D} {xs:List V} {i:Int} {d:D} (h:Dens K S ds xs) (e:atI ds i = some d):∃ v,atI xs i = some v /\ Den K S d v:=by
 unfold atI at e ⊢
 rw [<- h.length]
 cases q:ixN ds.length i with
 | none=>rw [q] at e;cases e
 | some j=>
  rw [q] at e
  exact h.get e
theorem gO:SR2 K (rIx K) dIx:=fun S H x y d e z Q s dx dy q k=>by
 cases d <;> cases e <;> try (cases q;done)
 ·rename_i x' i
  have q':(if x'.length <= LIM then (atI x'.cps.toList i).map fun c=>D.str ⟨#[c]⟩ else none) = some z:=q
  split at q'
  ·rename_i hl
   cases qc:atI x'.cps.toList i with
   | none=>rw [qc] at q';cases q'
   | some c=>
    rw [qc] at q'
    cases q'
    exact .inr (.inr ⟨x',i,c,dx.str,dy.int,sE hl,qc,k _ S H (Ext.refl s) (den_str.mpr rfl)⟩)
  ·cases q'
 ·rename_i l i
  obtain ⟨p,xs,rfl,h1,h2⟩:=dx.lst s
  obtain ⟨v,h3,h4⟩:=rG h2 q
  exact .inl ⟨p,xs,i,v,rfl,dy.int,.inl h1,h3,k v S H (Ext.refl s) h4⟩
 ·rename_i l i
  obtain ⟨p,xs,rfl,h1,h2⟩:=dx.tup s
  obtain ⟨v,h3,h4⟩:=rG h2 q
  exact .inr (.inl ⟨p,xs,i,v,rfl,dy.int,h1,h3,k v S H (Ext.refl s) h4⟩)
 ·rename_i l i
  obtain ⟨p,xs,rfl,h1,h2⟩:=dx.scr s
  obtain ⟨v,h3,h4⟩:=rG h2 q
  exact .inl ⟨p,xs,i,v,rfl,dy.int,h1,h3,k v S H (Ext.refl s) h4⟩
end
noncomputable def jn {α:Type} (xs:List α) (lo hi:Option Int):List α:=(xs.drop (HT.sIx xs.length 0 lo)).take (HT.sIx xs.length xs.length hi - HT.sIx xs.length 0 lo)
noncomputable def Lr (K:W.Frag):V -> Option Int -> Option Int -> Hp -> VK -> Prop:=fun x lo hi H Q=>Lq K x lo hi H Q \/
 ∃ a xs,x = .ref a /\ SqT K H a xs /\ (mv xs lo hi = xs -> Q (.ref a) H) /\ ∀ p,H p = none -> Q (.ref p) (upd H p (.tup (mv xs lo hi)))
noncomputable abbrev XO:=Env -> Option (Option Int)
def SO (K:W.Frag) (t:TO) (o:XO):Prop:=∀ ρ σ S H (Q:Option Int -> Hp -> Prop) i,Rl K ρ σ S H -> o ρ = some i -> (∀ S' H',Ext S H S' H' -> Q i H') -> t σ H Q
@[simp] noncomputable def Mj:XO:=fun _=>some none
@[simp] noncomputable def wb (a:XE):XO:=fun ρ=>(a ρ).bind fun d=>match d with | .int i=>some (some i) | _=>none
section
variable {K:W.Frag}
theorem F7 {ta:TE} {a:XE} (h:SPk K ta a):SO K (Jh ta) (wb a):=fun ρ σ S H Q i r x k=>by
 unfold wb at x
 cases q:a ρ with
 | none=>rw [q] at x;cases x
 | some d=>
  rw [q] at x
  dsimp only [Option.bind] at x
  cases d <;> try (cases x;done)
  rename_i j
  cases x
  exact h ρ σ S H _ _ r q fun v S1 H1 z1 d1=>⟨j,d1.int,k S1 H1 z1⟩
theorem nh {S:Hp} {ds:List D} {xs:List V} (h:Dens K S ds xs) (lo hi:Option Int):Dens K S (jn ds lo hi) (mv xs lo hi):=by
 unfold jn mv
 rw [h.length]
 exact (h.drop _).take _
noncomputable def dSl (d:D) (lo hi:Option Int):Option D:=match d with
 | .lst l=>some (.lst (jn l lo hi))
 | .tup l=>some (.tup (jn l lo hi))
 | .scr l=>some (.lst (jn l lo hi))
 | _=>none
@[simp] noncomputable def xSl (a:XE) (lo hi:XO):XE:=fun ρ=>(a ρ).bind fun d=>(lo ρ).bind fun l=>(hi ρ).bind fun h=>dSl d l h
theorem MD {te:TE} {tl th:TO} {a:XE} {lo hi:XO} (ha:SPk K te a) (hl:SO K tl lo) (hh:SO K th hi):SE K (tSl (Lr K) te tl th) (xSl a lo hi):=fun ρ σ S H Q g r x k=>by
 unfold xSl at x
 cases q:a ρ with
 | none=>rw [q] at x;cases x
 | some d=>
  rw [q] at x
  dsimp only [Option.bind] at x
  cases ql:lo ρ with
  | none=>rw [ql] at x;cases x
  | some l=>
   rw [ql] at x
   dsimp only at x
   cases qh:hi ρ with
   | none=>rw [qh] at x;cases x
   | some h=>
    rw [qh] at x
    dsimp only at x
    refine ha ρ σ S H _ d r q fun v S1 H1 z1 d1=>?_
    have r1:=r.ext z1
    refine hl ρ σ S1 H1 _ l r1 ql fun S2 H2 z2=>?_
    have r2:=r1.ext z2
    refine hh ρ σ S2 H2 _ h r2 qh fun S3 H3 z3=>?_
    have z23:=z2.trans z3
    have d3:=d1.mono z23 r1.sub
    have s3:=(r2.ext z3).sub
    have z:=z1.trans z23
    cases d <;> try (cases x;done)
    ·cases x
     obtain ⟨p,xs,rfl,h1,h2⟩:=d3.lst s3
     refine .inl ⟨p,xs,rfl,.inl h1,fun p' hp=>?_⟩
     have z4:=Ext.new (o:=.lst (mv xs l h)) s3 hp
     exact k _ _ _ (z.trans z4) (den_lst.mpr ⟨p',_,rfl,.inl aB,(nh h2 l h).mono z4.sh⟩)
    ·rename_i ds
     cases x
     have d3':Den K S3 (.tup ds) v:=d3.elim id fun ⟨_,_,_,e,_⟩=>by cases e
     obtain ⟨p,xs,e,h1,h2⟩:=d3.tup s3
     subst e
     refine .inr ⟨p,xs,rfl,h1,fun e=>k _ S3 H3 z ?_,fun p' hp=>?_⟩
     ·obtain ⟨p2,xs2,e2,h3,h4⟩:=den_tup.mp d3'
      cases e2
      have c:=nh h2 l h
      rw [e] at c
      refine den_tup.mpr ⟨p,xs2,rfl,h3,?_⟩
      have hlen:=c.length
      have:jn ds l h = ds:=by
       have hl2:(jn ds l h).length = ds.length:=by rw [c.length,h2.length]
       unfold jn at hl2 ⊢
       rw [Qi,RJ] at hl2
       have a0:HT.sIx ds.length 0 l = 0 \/ ds.length = 0:=by lia
       rcases a0 with a0 | a0
       ·rw [a0,List.drop_zero] at *
        exact QU (by lia)
       ·have:ds = []:=QF.mp a0
        subst this
        simp
      rw [this]
      exact h4
     ·have z4:=Ext.new (o:=.tup (mv xs l h)) s3 hp
      exact k _ _ _ (z.trans z4) (den_tup.mpr ⟨p',_,rfl,TpA.of aB,(nh h2 l h).mono z4.sh⟩)
    ·cases x
     obtain ⟨p,xs,rfl,h1,h2⟩:=d3.scr s3
     refine .inl ⟨p,xs,rfl,h1,fun p' hp=>?_⟩
     have z4:=Ext.new (o:=.lst (mv xs l h)) s3 hp
     exact k _ _ _ (z.trans z4) (den_lst.mpr ⟨p',_,rfl,.inl aB,(nh h2 l h).mono z4.sh⟩)
noncomputable def IV (K:W.Frag):List V -> Hp -> VK -> Prop:=fun xs H Q=>∃ x n,xs = [x] /\ KL K x H n /\ Q (.int n) H
noncomputable def oz:List D -> Option D
 | [.lst l]=>some (.int l.length)
 | [.tup l]=>some (.int l.length)
 | [.scr l]=>some (.int l.length)
 | [.str x]=>if x.length <= LIM then some (.int x.length) else none
 | _=>none
theorem eO {S H:Hp} {d:D} {vs:List V} (h:DensP K S H [d] vs):∃ v,vs = [v] /\ DenP K S H d v:=by
 cases h with
 | cons a b=>cases b;exact ⟨_,rfl,a⟩
theorem GD {S H:Hp} {d e:D} {vs:List V} (h:DensP K S H [d,e] vs):∃ v w,vs = [v,w] /\ DenP K S H d v /\ DenP K S H e w:=by
 cases h with
 | cons a b=>cases b with
  | cons c b=>cases b;exact ⟨_,_,rfl,a,c⟩
theorem pE:SRB K (IV K) oz:=fun S H vs ds g Q s d q k=>by
 unfold oz at q
 split at q
 ·rename_i l
  cases q
  obtain ⟨v,rfl,d1⟩:=eO d
  obtain ⟨p,xs,rfl,h1,h2⟩:=d1.lst s
  exact ⟨_,xs.length,rfl,.inl ⟨xs,.inl h1,rfl⟩,k _ S H (Ext.refl s) (den_int.mpr (by rw [h2.length]))⟩
 ·rename_i l
  cases q
  obtain ⟨v,rfl,d1⟩:=eO d
  obtain ⟨p,xs,rfl,h1,h2⟩:=d1.tup s
  exact ⟨_,xs.length,rfl,.inr ⟨xs,h1,rfl⟩,k _ S H (Ext.refl s) (den_int.mpr (by rw [h2.length]))⟩
 ·rename_i l
  cases q
  obtain ⟨v,rfl,d1⟩:=eO d
  obtain ⟨p,xs,rfl,h1,h2⟩:=d1.scr s
  exact ⟨_,xs.length,rfl,.inl ⟨xs,h1,rfl⟩,k _ S H (Ext.refl s) (den_int.mpr (by rw [h2.length]))⟩
 ·rename_i x
  split at q
  ·rename_i hl
   cases q
   obtain ⟨v,rfl,d1⟩:=eO d
   exact ⟨_,x.length,rfl,by rw [d1.str];exact ⟨sE hl,rfl⟩,k _ S H (Ext.refl s) (den_int.mpr rfl)⟩
  ·cases q
 ·cases q
noncomputable def kn:List D -> Option D
 | [.lst l]=>some (.tup l)
 | [.tup l]=>some (.tup l)
 | [.scr l]=>some (.tup l)
 | _=>none
theorem qT:SRB K (Kc K) kn:=fun S H vs ds g Q s d q k=>by
 unfold kn at q
 split at q
 ·rename_i l
  cases q
  obtain ⟨v,rfl,d1⟩:=eO d
  obtain ⟨p,xs,rfl,h1,h2⟩:=d1.lst s
  refine ⟨p,xs,rfl,.inl ⟨.inl h1,fun q hq=>?_⟩⟩
  have z:=Ext.new (o:=.tup xs) s hq
  exact k _ _ _ z (den_tup.mpr ⟨q,_,rfl,TpA.of aB,h2.mono z.sh⟩)
 ·rename_i l
  cases q
  obtain ⟨v,rfl,d1⟩:=eO d
  have d':Den K S (.tup l) v:=d1.elim id fun ⟨_,_,_,e,_⟩=>by cases e
  obtain ⟨p,xs,rfl,h1,h2⟩:=d1.tup s
  exact ⟨p,xs,rfl,.inr ⟨h1,k _ S H (Ext.refl s) d'⟩⟩
 ·rename_i l
  cases q
  obtain ⟨v,rfl,d1⟩:=eO d
  obtain ⟨p,xs,rfl,h1,h2⟩:=d1.scr s
  refine ⟨p,xs,rfl,.inl ⟨h1,fun q hq=>?_⟩⟩
  have z:=Ext.new (o:=.tup xs) s hq
  exact k _ _ _ z (den_tup.mpr ⟨q,_,rfl,TpA.of aB,h2.mono z.sh⟩)
 ·cases q
noncomputable def uS:List D -> Option (List D)
 | [.lst l]=>some l
 | [.tup l]=>some l
 | [.scr l]=>some l
 | _=>none
theorem Jw:SRF K (Lo K) uS:=fun S H vs ds g Q s d q k=>by
 unfold uS at q
 split at q
 ·rename_i l
  cases q
  obtain ⟨v,rfl,d1⟩:=eO d
  obtain ⟨p,xs,rfl,h1,h2⟩:=d1.lst s
  exact ⟨p,xs,rfl,.inl (.inl h1),fun q hq=>k q xs _ (Ext.own s hq) hq aB h2⟩
 ·rename_i l
  cases q
  obtain ⟨v,rfl,d1⟩:=eO d
  obtain ⟨p,xs,rfl,h1,h2⟩:=d1.tup s
  exact ⟨p,xs,rfl,.inr h1,fun q hq=>k q xs _ (Ext.own s hq) hq aB h2⟩
 ·rename_i l
  cases q
  obtain ⟨v,rfl,d1⟩:=eO d
  obtain ⟨p,xs,rfl,h1,h2⟩:=d1.scr s
  exact ⟨p,xs,rfl,.inl h1,fun q hq=>k q xs _ (Ext.own s hq) hq aB h2⟩
 ·cases q
noncomputable def BP:List D -> Option D
 | [.int i,.int j]=>some (.int (if j > i then j else i))
 | _=>none
noncomputable def KR:List D -> Option D
 | [.int i,.int j]=>some (.int (if j < i then j else i))
 | _=>none
theorem Jx:SRB K Lp BP:=fun S H vs ds g Q s d q k=>by
 unfold BP at q
 split at q
 ·rename_i i j
  cases q
  obtain ⟨v,w,rfl,d1,d2⟩:=GD d
  exact ⟨i,j,by rw [d1.int,d2.int],k _ S H (Ext.refl s) (den_int.mpr rfl)⟩
 ·cases q
noncomputable def aJ:List D -> Option (List Int)
 | []=>some []
 | .int i :: l=>(aJ l).map fun r=>i :: r
 | _=>none
theorem et {S:Hp}:∀ {ds:List D} {xs:List V} {ns:List Int},Dens K S ds xs -> aJ ds = some ns -> xs = ns.map V.int /\ ds = ns.map D.int
 | [],xs,ns,h,e=>by cases e;exact ⟨h.nil_of,rfl⟩
 | d :: ds,xs,ns,h,e=>by
  obtain ⟨y,ys,rfl,h1,h2⟩:=h.cons_of
  cases d <;> try (cases e;done)
  rename_i i
  have e':(aJ ds).map (fun r=>i :: r) = some ns:=e
  cases q:aJ ds with
  | none=>rw [q] at e';cases e'
  | some ms=>
   rw [q] at e'
   cases e'
   obtain ⟨k1,k2⟩:=et h2 q
   rw [den_int.mp h1,k1]
   exact ⟨rfl,OZ (D.int i :: ·) k2⟩
theorem fR:∀ ns:List Int,aJ (ns.map D.int) = some ns
 | []=>rfl
 | n :: ns=>by rw [OQ,aJ,fR ns];rfl
noncomputable def t9:List D -> Option D
 | [.lst l]=>(aJ l).map fun ns=>.int ns.sum
 | _=>none
theorem BR:SRB K (IY K) t9:=fun S H vs ds g Q s d q k=>by
 unfold t9 at q
 split at q
 ·rename_i l
  cases qi:aJ l with
  | none=>rw [qi] at q;cases q
  | some ns=>
   rw [qi] at q
   cases q
   obtain ⟨v,rfl,d1⟩:=eO d
   obtain ⟨p,xs,rfl,h1,h2⟩:=d1.lst s
   obtain ⟨e,_⟩:=et h2 qi
   subst e
   exact ⟨p,ns,rfl,.inl h1,k _ S H (Ext.refl s) (den_int.mpr rfl)⟩
 ·cases q
noncomputable def xV:List D -> Option D
 | [.int i]=>some (.int i)
 | [.bl b]=>some (.int (if b then 1 else 0))
 | _=>none
theorem KS:SRB K Lk xV:=fun S H vs ds g Q s d q k=>by
 unfold xV at q
 split at q
 ·rename_i i
  cases q
  obtain ⟨v,rfl,d1⟩:=eO d
  exact .inl ⟨i,by rw [d1.int],k _ S H (Ext.refl s) (den_int.mpr rfl)⟩
 ·rename_i i
  cases q
  obtain ⟨v,rfl,d1⟩:=eO d
  exact .inr ⟨i,by rw [d1.bl],k _ S H (Ext.refl s) (den_int.mpr rfl)⟩
 ·cases q
@[simp] noncomputable def NQ (a:XE):XA:=fun ρ=>(a ρ).bind fun d=>match d with | .lst l=>some l.reverse | _=>none
noncomputable def tyD:D -> Option String
 | .non=>some "NoneType" | .bl _=>some "bool" | .int _=>some "int" | .str _=>some "str" | .lst _=>some "list" | .tup _=>some "tuple" | _=>none
noncomputable def Il (t T:String):Bool:=t == T || (t == "bool" && T == "int")
def tyM (K:W.Frag) (H:Hp) (x:V) (t:String):Prop:=match x with
 | .non=>t = "NoneType" | .bl _=>t = "bool" | .int _=>t = "int" | .str _=>t = "str"
 | .ref p=>(t = "list" /\ ∃ xs,Rd H p (.lst xs)) \/ (t = "tuple" /\ ∃ xs,SqT K H p xs)
 | _=>False
noncomputable def K6:List String:=["bool", "int", "str", "list", "tuple"]
noncomputable def IU (K:W.Frag):List V -> Hp -> VK -> Prop:=fun xs H Q=>∃ x T t,xs = [x,.ty T] /\ tyM K H x t /\ T ∈ K6 /\ Q (.bl (Il t T)) H
noncomputable def rJ:List D -> Option D
 | [d,.ty T]=>if T ∈ K6 then (tyD d).map fun t=>.bl (Il t T) else none
 | _=>none
theorem LW {S H:Hp} {d:D} {v:V} {t:String} (s:Same S H) (h:DenP K S H d v) (e:tyD d = some t):tyM K H v t:=by
 cases d with
 | non=>rw [h.non];cases e;rfl
 | bl b=>rw [h.bl];cases e;rfl
 | int b=>rw [h.int];cases e;rfl
 | str b=>rw [h.str];cases e;rfl
 | lst l=>
  cases e
  obtain ⟨p,xs,rfl,h1,h2⟩:=h.lst s
  exact .inl ⟨rfl,xs,h1⟩
 | tup l=>
  cases e
  obtain ⟨p,xs,rfl,h1,h2⟩:=h.tup s
  exact .inr ⟨rfl,xs,h1⟩
 | _=>cases e
theorem BQ:SRB K (IU K) rJ:=fun S H vs ds g Q s d q k=>by
 unfold rJ at q
 split at q
 ·rename_i d0 T
  split at q
  ·rename_i hT
   cases qt:tyD d0 with
   | none=>rw [qt] at q;cases q
   | some t=>
    rw [qt] at q
    cases q
    obtain ⟨v,w,rfl,d1,d2⟩:=GD d
    exact ⟨v,T,t,by rw [d2.ty],LW s d1 qt,hT,k _ S H (Ext.refl s) (den_bl.mpr rfl)⟩
  ·cases q
 ·cases q
end
noncomputable def nZ (k:List Int):D:=.tup (k.map D.int)
noncomputable def Hw:D -> Option (List Int)
 | .tup l=>if l.isEmpty then none else aJ l
 | _=>none
noncomputable def keys:List D -> Option (List (List Int))
 | []=>some []
 | d :: l=>(Hw d).bind fun k=>(keys l).map fun r=>k :: r
theorem yK:∀ a b:List Int,HT.cz a b = true -> HT.cz b a = false
 | [],[],h=>by cases h
 | [],_ :: _,_=>rfl
 | _ :: _,[],h=>by cases h
 | x :: a,y :: b,h=>by
  have h':(if x = y then HT.cz a b else decide (x < y)) = true:=h
  show (if y = x then HT.cz b a else decide (y < x)) = false
  by_cases e:x = y
  ·rw [OC e] at h';rw [OC e.symm];exact yK a b h'
  ·rw [OB e] at h';rw [OB (fun z=>e z.symm)]
   have:=Qp h'
   exact Pf (by lia)
theorem vq:∀ a b:List Int,HT.cz a b = false -> HT.cz b a = false -> a = b
 | [],[],_,_=>rfl
 | [],_ :: _,h,_=>by cases h
 | _ :: _,[],_,h=>by cases h
 | x :: a,y :: b,h,k=>by
  have h':(if x = y then HT.cz a b else decide (x < y)) = false:=h
  have k':(if y = x then HT.cz b a else decide (y < x)) = false:=k
  by_cases e:x = y
  ·rw [OC e] at h';rw [OC e.symm] at k'
   rw [e,vq a b h' k']
  ·rw [OB e] at h';rw [OB (fun z=>e z.symm)] at k'
   have:=Pv h'
   have:=Pv k'
   lia
theorem vt:∀ a b c:List Int,HT.cz a b = false -> HT.cz b c = false -> HT.cz a c = false
 | [],[],_,_,k=>k
 | [],_ :: _,_,h,_=>by cases h
 | _ :: _,_,[],_,_=>rfl
 | _ :: _,[],_ :: _,_,k=>by cases k
 | x :: a,y :: b,z :: c,h,k=>by
  have h':(if x = y then HT.cz a b else decide (x < y)) = false:=h
  have k':(if y = z then HT.cz b c else decide (y < z)) = false:=k
  show (if x = z then HT.cz a c else decide (x < z)) = false
  by_cases e1:x = y
  ·rw [OC e1] at h'
   subst e1
   by_cases e2:x = z
   ·rw [OC e2] at k' ⊢;exact vt a b c h' k'
   ·rw [OB e2] at k' ⊢;exact k'
  ·rw [OB e1] at h'
   have g1:=Pv h'
   by_cases e2:y = z
   ·subst e2
    rw [OB e1];exact h'
   ·rw [OB e2] at k'
    have g2:=Pv k'
    rw [OB (by lia)]
    exact Pf (by lia)
noncomputable def Dj (x:List Int):List (List Int) -> List (List Int)
 | []=>[x]
 | y :: l=>if HT.cz y x = true then y :: Dj x l else x :: y :: l
noncomputable def gQ (ks:List (List Int)):List (List Int):=ks.foldr Dj []
theorem vi (x:List Int) (l:List (List Int)):(Dj x l).Perm (x :: l):=by
 induction l with
 | nil=>exact .refl _
 | cons y l ih=>
  unfold Dj
  split
  ·exact (ih.cons y).trans (.swap x y l)
  ·exact .refl _
noncomputable def dA (ns:List Int):List Int:=ns.mergeSort fun a b=>decide (a <= b)
theorem gR (ks:List (List Int)):(gQ ks).Perm ks:=by
 induction ks with
 | nil=>exact .refl _
 | cons x l ih=>exact (vi x (gQ l)).trans (ih.cons x)
theorem fv (ns:List Int):(dA ns).Perm ns:=List.mergeSort_perm _ _
theorem Hs (x:List Int) (l:List (List Int)) (h:l.Pairwise fun a b=>HT.cz b a = false):(Dj x l).Pairwise fun a b=>HT.cz b a = false:=by
 induction l with
 | nil=>exact .cons (fun _ z=>by cases z) .nil
 | cons y l ih=>
  have hy:∀ z,z ∈ l -> HT.cz z y = false:=fun z hz=>List.rel_of_pairwise_cons h hz
  unfold Dj
  cases q:HT.cz y x with
  | true=>
   refine .cons (fun z hz=>?_) (ih (List.Pairwise.of_cons h))
   rcases OP.mp ((vi x l).mem_iff.mp hz) with rfl | hz
   ·exact yK y _ q
   ·exact hy z hz
  | false=>
   refine .cons (fun z hz=>?_) h
   rcases OP.mp hz with rfl | hz
   ·exact q
   ·exact vt z y x (hy z hz) q
theorem tK (ks:List (List Int)):(gQ ks).Pairwise fun a b=>HT.cz b a = false:=by
 induction ks with
 | nil=>exact .nil
 | cons x l ih=>exact Hs x (gQ l) ih
theorem zK (ns:List Int):(dA ns).Pairwise (· <= ·):=by
 have h:=List.pairwise_mergeSort (le:=fun a b:Int=>decide (a <= b)) (fun a b c h k=>by
  have:=Qp h;have:=Qp k;exact Pr (by lia)) (fun a b=>by
  by_cases h:a <= b
  ·simp [h]
  ·simp [show b <= a by lia]) ns
 exact h.imp fun {a b} e=>Qp e
theorem Bu {ks js:List (List Int)} (hp:js.Perm ks) (hw:js.Pairwise fun a b=>HT.cz b a = false):js = gQ ks:=
 List.Perm.eq_of_pairwise (fun a b _ _ h k=>vq a b k h) hw (tK ks) (hp.trans (gR ks).symm)
theorem tJ {ns ms:List Int} (hp:ms.Perm ns) (hw:ms.Pairwise (· <= ·)):ms = dA ns:=
 List.Perm.eq_of_pairwise (fun a b _ _ h k=>by lia) hw (zK ns) (hp.trans (fv ns).symm)
noncomputable def FN (K:W.Frag):List V -> Hp -> VK -> Prop:=fun xs H Q=>∃ p,∃ yks:List (V × List Int),xs = [.ref p] /\ SqL K H p (yks.map (·.1)) /\ yks.length < 30000 /\ (∀ yk ∈ yks,∃ q,yk.1 = .ref q /\ SqT K H q (yk.2.map V.int) /\ yk.2 ≠ []) /\
 ∀ (zks:List (V × List Int)) l,zks.Perm yks -> zks.Pairwise (fun a b=>HT.cz b.2 a.2 = false) -> H l = none -> Q (.ref l) (upd H l (.lst (zks.map (·.1))))
noncomputable def zo (K:W.Frag):List V -> Hp -> VK -> Prop:=fun xs H Q=>zn K xs H Q \/ FN K xs H Q
noncomputable def k8:List D -> Option (List D)
 | [.lst l]=>if l.length < 30000 then (match aJ l with
  | some ns=>some ((dA ns).map D.int)
  | none=>(keys l).map fun ks=>(gQ ks).map nZ) else none
 | _=>none
section
variable {K:W.Frag}
theorem Hx {d:D} {k:List Int} (h:Hw d = some k):d = nZ k /\ k ≠ []:=by
 cases d <;> try (cases h;done)
 rename_i l
 have h':(if l.isEmpty then none else aJ l) = some k:=h
 split at h'
 ·cases h'
 ·rename_i hne
  have key:∀ (l:List D) (k:List Int),aJ l = some k -> l = k.map D.int:=by
   intro l
   induction l with
   | nil=>intro k e;cases e;rfl
   | cons d l ih=>
    intro k e
    cases d <;> try (cases e;done)
    rename_i i
    have e':(aJ l).map (fun r=>i :: r) = some k:=e
    cases q:aJ l with
    | none=>rw [q] at e';cases e'
    | some m=>rw [q] at e';cases e';rw [ih m q];rfl
  have e:=key l k h'
  subst e
  exact ⟨rfl,fun z=>by subst z;exact hne rfl⟩
theorem B9:∀ {l:List D} {ks:List (List Int)},keys l = some ks -> l = ks.map nZ /\ ∀ k ∈ ks,k ≠ []
 | [],ks,h=>by cases h;exact ⟨rfl,fun _ h=>by cases h⟩
 | d :: l,ks,h=>by
  have h':((Hw d).bind fun k=>(keys l).map fun r=>k :: r) = some ks:=h
  cases q:Hw d with
  | none=>rw [q] at h';cases h'
  | some k=>
   rw [q] at h'
   dsimp only [Option.bind] at h'
   cases q2:keys l with
   | none=>rw [q2] at h';cases h'
   | some r=>
    rw [q2] at h'
    cases h'
    obtain ⟨a,b⟩:=B9 q2
    obtain ⟨c,d⟩:=Hx q
    refine ⟨by rw [OQ,<- a,<- c],fun k hk=>?_⟩
    rcases OP.mp hk with rfl | hk
    ·exact d
    ·exact b k hk
theorem sk:∀ {S:Hp} {k:List Int} {xs:List V},Dens K S (k.map D.int) xs -> xs = k.map V.int
 | S,[],xs,h=>h.nil_of
 | S,i :: k,xs,h=>by
  obtain ⟨y,ys,rfl,h1,h2⟩:=h.cons_of
  rw [den_int.mp h1,sk h2]
  rfl
theorem yh {S:Hp}:∀ {ks:List (List Int)} {xs:List V},Dens K S (ks.map nZ) xs -> (xs.zip ks).map (·.1) = xs /\ (xs.zip ks).map (·.2) = ks /\ (xs.zip ks).length = ks.length /\ ∀ yk ∈ xs.zip ks,Den K S (nZ yk.2) yk.1
 | [],xs,h=>by rw [h.nil_of];exact ⟨rfl,rfl,rfl,fun _ h=>by cases h⟩
 | k :: ks,xs,h=>by
  obtain ⟨y,ys,rfl,h1,h2⟩:=h.cons_of
  obtain ⟨a,b,c,d⟩:=yh h2
  refine ⟨by rw [Rq,OQ,a],by rw [Rq,OQ,b],by rw [Rq,OL,c,OL],fun yk hm=>?_⟩
  rw [Rq] at hm
  rcases OP.mp hm with rfl | hm
  ·exact h1
  ·exact d yk hm
theorem lQ {S:Hp}:∀ {zks:List (V × List Int)},(∀ yk ∈ zks,Den K S (nZ yk.2) yk.1) -> Dens K S ((zks.map (·.2)).map nZ) (zks.map (·.1))
 | [],_=>.nil
 | yk :: zks,h=>.cons (h yk OI) (lQ fun z hz=>h z (OK _ hz))
theorem xX:SRF K (zo K) k8:=fun S H vs ds g Q s d q k=>by
 unfold k8 at q
 split at q
 ·rename_i l
  split at q
  ·rename_i hl
   obtain ⟨v,rfl,d1⟩:=eO d
   obtain ⟨p,xs,rfl,h1,h2⟩:=d1.lst s
   cases qi:aJ l with
   | some ns=>
    rw [qi] at q
    cases q
    obtain ⟨e1,e2⟩:=et h2 qi
    subst e1 e2
    refine .inl ⟨p,ns,rfl,.inl h1,by rw [OJ] at hl;exact hl,fun ms a pm pw ha=>?_⟩
    rw [tJ pm pw]
    refine k a _ _ (Ext.own s ha) ha aB ?_
    have key:∀ ns:List Int,Dens K S (ns.map D.int) (ns.map V.int):=by
     intro ns
     induction ns with
     | nil=>exact .nil
     | cons n ns ih=>exact .cons (den_int.mpr rfl) ih
    exact key _
   | none=>
    rw [qi] at q
    dsimp only at q
    cases qk:keys l with
    | none=>rw [qk] at q;cases q
    | some ks=>
     rw [qk] at q
     cases q
     obtain ⟨e1,e2⟩:=B9 qk
     subst e1
     obtain ⟨a,b,c,dd⟩:=yh h2
     refine .inr ⟨p,xs.zip ks,rfl,by rw [a];exact .inl h1,by rw [c];rw [OJ] at hl;exact hl,fun yk hm=>?_,fun zks l pm pw hl=>?_⟩
     ·obtain ⟨q,ys,e,g1,g2⟩:=gA (dd yk hm)
      have:=sk g2
      subst this
      refine ⟨q,e,ba s g1,e2 _ ?_⟩
      rw [<- b]
      exact O1.mpr ⟨yk,hm,rfl⟩
     ·have e:zks.map (·.2) = gQ ks:=by
       refine Bu ?_ ?_
       ·rw [<- b];exact pm.map _
       ·rw [Ql];exact pw
      have dz:Dens K S ((zks.map (·.2)).map nZ) (zks.map (·.1)):=lQ fun yk hm=>dd yk (pm.mem_iff.mp hm)
      rw [e] at dz
      exact k l _ _ (Ext.own s hl) hl aB dz
  ·cases q
 ·cases q
theorem kP {ta:TE} {a:XE} (ha:SPk K ta a):ST K (LV K ta) (lK a):=LG ha
end
noncomputable def KU:D -> D -> Option D:=dI fun i j=>some (.int (i + j))
section
variable {K:W.Frag}
end
theorem Gb {K:W.Frag} {ta:TE} {a:XE} (ha:SQ K ta a):ST K (LV K ta) (lK a):=fun ρ σ S H Q b r x k=>by
 unfold lK at x
 cases qa:a ρ with
 | none=>rw [qa] at x;cases x
 | some da=>
  rw [qa] at x
  exact ha ρ σ S H _ da r qa fun v S1 H1 z1 d1=>⟨b,GA (Same.refl H1) (.inl d1) x,k S1 H1 z1⟩
theorem sF (g:XG) (m:XS) (d:D) (l:List D) (ρ:Env):c0 g m (d :: l) ρ = (g d ρ).bind fun ρ1=>match m ρ1 with
  | some (.nx ρ2)=>c0 g m l ρ2
  | some (.ct ρ2)=>c0 g m l ρ2
  | some (.bk ρ2)=>some (.nx ρ2)
  | some (.rt d)=>some (.rt d)
  | some (.ro d)=>some (.ro d)
  | none=>none:=rfl
theorem Dw {α:Type} {g:XG} {m:XS} (enc:α -> D) (P:List α -> Env -> Prop) (R:D -> Prop) (B:Env -> Prop) (l:List α) (ρ0:Env) (h0:P [] ρ0)
  (step:∀ pre a post ρ,l = pre ++ a :: post -> P pre ρ -> ∃ ρ1 o,g (enc a) ρ = some ρ1 /\ m ρ1 = some o /\ (match o with | .nx ρ2=>P (pre ++ [a]) ρ2 | .ct ρ2=>P (pre ++ [a]) ρ2 | .bk ρ2=>B ρ2 | .rt d=>R d | .ro _=>False)) :
  ∃ o,c0 g m (l.map enc) ρ0 = some o /\ (match o with | .nx ρ'=>P l ρ' \/ B ρ' | .rt d=>R d | _=>False):=by
 have key:∀ (post pre:List α) (ρ:Env),l = pre ++ post -> P pre ρ -> ∃ o,c0 g m (post.map enc) ρ = some o /\ (match o with | .nx ρ'=>P l ρ' \/ B ρ' | .rt d=>R d | _=>False):=by
  intro post
  induction post with
  | nil=>
   intro pre ρ e p
   rw [Pd] at e
   subst e
   exact ⟨_,rfl,.inl p⟩
  | cons a post ih=>
   intro pre ρ e p
   obtain ⟨ρ1,o,h1,h2,h3⟩:=step pre a post ρ e p
   rw [OQ,sF,h1]
   dsimp only [Option.bind]
   rw [h2]
   cases o with
   | nx ρ2=>exact ih (pre ++ [a]) ρ2 (by rw [e,Pb];rfl) h3
   | ct ρ2=>exact ih (pre ++ [a]) ρ2 (by rw [e,Pb];rfl) h3
   | bk ρ2=>exact ⟨_,rfl,.inr h3⟩
   | rt d=>exact ⟨_,rfl,h3⟩
   | ro d=>exact h3.elim
 exact key l [] ρ0 rfl h0
theorem bH {α:Type} {g:XG} {m:XS} (enc:α -> D) (P:List α -> Env -> Prop) (l:List α) (ρ0:Env) (h0:P [] ρ0)
  (step:∀ pre a post ρ,l = pre ++ a :: post -> P pre ρ -> ∃ ρ1 ρ2,g (enc a) ρ = some ρ1 /\ (m ρ1 = some (.nx ρ2) \/ m ρ1 = some (.ct ρ2)) /\ P (pre ++ [a]) ρ2) :
  ∃ ρ',c0 g m (l.map enc) ρ0 = some (.nx ρ') /\ P l ρ':=by
 obtain ⟨o,h1,h2⟩:=Dw (g:=g) (m:=m) enc P (fun _=>False) (fun _=>False) l ρ0 h0 fun pre a post ρ e p=>by
  obtain ⟨ρ1,ρ2,k1,k2,k3⟩:=step pre a post ρ e p
  rcases k2 with k2 | k2
  ·exact ⟨ρ1,_,k1,k2,k3⟩
  ·exact ⟨ρ1,_,k1,k2,k3⟩
 cases o with
 | nx ρ'=>exact ⟨ρ',h1,h2.elim id False.elim⟩
 | rt d=>exact h2.elim
 | ro d=>exact h2.elim
 | bk ρ'=>exact h2.elim
 | ct ρ'=>exact h2.elim
noncomputable def gK (g:XG) (c:XT) (e:XE) (ρ0:Env) (d:D):Option (Option D):=(g d ρ0).bind fun ρ1=>(c ρ1).bind fun b=>if b = true then (e ρ1).map some else some none
theorem eG {α:Type} {g:XG} {c:XT} {e:XE} {ρ0:Env} (enc:α -> D) (f:α -> Option D):∀ (l:List α),(∀ a ∈ l,gK g c e ρ0 (enc a) = some (f a)) -> bV g c e ρ0 (l.map enc) = some (l.filterMap f)
 | [],_=>rfl
 | a :: l,h=>by
  have ih:=eG (g:=g) (c:=c) (e:=e) (ρ0:=ρ0) enc f l fun b hb=>h b (OK _ hb)
  have h1:=h a OI
  unfold gK at h1
  rw [OQ,bV]
  cases q1:g (enc a) ρ0 with
  | none=>rw [q1] at h1;cases h1
  | some ρ1=>
   rw [q1] at h1
   dsimp only [Option.bind] at h1 ⊢
   cases q2:c ρ1 with
   | none=>rw [q2] at h1;cases h1
   | some b=>
    rw [q2] at h1
    dsimp only at h1 ⊢
    cases b with
    | false=>
     rw [OB (by decide)] at h1 ⊢
     rw [ih,Pc]
     have:f a = none:=(Pj h1).symm
     rw [this]
    | true=>
     rw [OC rfl] at h1 ⊢
     cases q3:e ρ1 with
     | none=>rw [q3] at h1;cases h1
     | some y=>
      rw [q3] at h1
      have:f a = some y:=(Pj h1).symm
      rw [ih,Pc,this]
      rfl
theorem cV {α:Type} {g:XG} {e:XE} {ρ0:Env} (enc:α -> D) (f:α -> D) (l:List α) (h:∀ a ∈ l,gK g eT e ρ0 (enc a) = some (some (f a))):bV g eT e ρ0 (l.map enc) = some (l.map f):=by
 rw [eG enc (fun a=>some (f a)) l h]
 exact OZ some (congrFun List.filterMap_eq_map' l)
noncomputable abbrev prD (p:Int × Int):D:=.tup [.int p.1,.int p.2]
noncomputable abbrev HW (r:List (Int × Int)):D:=.tup (r.map prD)
noncomputable abbrev Dy (r:List (Int × Int)):D:=.lst (r.map prD)
@[simp] theorem rH {α:Type} (l:List α) (x:α):atI (l ++ [x]) (-1) = some x:=by
 unfold atI ixN
 rw [OB (by decide),OM,PU,OC (by lia)]
 have:((-1:Int) + ((l.length + 1:Nat):Int)).toNat = l.length:=by lia
 dsimp only [Option.bind]
 rw [this]
 simp
theorem Jt {α:Type} {l:List α} {j:Nat} {x:α} (h:l[j]? = some x):atI l (j:Int) = some x:=by
 have:=(Pg.mp h).1
 unfold atI ixN
 rw [OC (by lia),OC (by lia)]
 dsimp only [Option.bind]
 rw [Qe]
 exact h
@[simp] theorem vM (l:List O) (x:O) (f:O -> O):tp (l ++ [x]) (-1) f = l ++ [f x]:=by
 unfold tp ixN
 rw [OB (by decide),OM,PU,OC (by lia)]
 have:((-1:Int) + ((l.length + 1:Nat):Int)).toNat = l.length:=by lia
 dsimp only
 rw [this]
 simp
@[simp] theorem KH {α:Type} (l:List α) (a b:α):atI (l ++ [a,b]) (-1) = some b:=by
 have:=rH (l ++ [a]) b
 rw [Pb] at this
 exact this
@[simp] theorem L8 {α:Type} (a:α):atI [a] (-1) = some a:=rH [] a
@[simp] theorem Ka (l:List O) (a b:O) (f:O -> O):tp (l ++ [a,b]) (-1) f = l ++ [a,f b]:=by
 have:=vM (l ++ [a]) b f
 rw [Pb,Pb] at this
 exact this
@[simp] theorem Lg (a:O) (f:O -> O):tp [a] (-1) f = [f a]:=vM [] a f
@[simp] theorem KY (i:Int):mE (.int i) = some (.int i):=rfl
@[simp] theorem Ma (i:Bool):mE (.bl i) = some (.bl i):=rfl
@[simp] theorem K0 (i:Str):mE (.str i) = some (.str i):=rfl
@[simp] theorem KZ:mE .non = some .non:=rfl
@[simp] theorem Me (a b:O) (f:O -> O):tp [a,b] 1 f = [a,f b]:=rfl
theorem E2 {n:Nat}:ixN (n + 1) (-1) = some n:=by
 unfold ixN
 rw [OB (by decide),OC (by lia)]
 congr 1
 lia
section
variable (i j:Int) (a b:List D) (neg:Bool) (ρ:Env)
@[simp] theorem NB:yd (.int i) (.int j) = some (.int (i - j)):=rfl
@[simp] theorem Nn:dF (.int i) (.int j) = some (.int (i + j)):=rfl
@[simp] theorem MF:KU (.int i) (.int j) = some (.int (i + j)):=rfl
@[simp] theorem Ol:dLt (.int i) (.int j) = some (.bl (decide (i < j))):=rfl
@[simp] theorem Oj:dLe (.int i) (.int j) = some (.bl (decide (i <= j))):=rfl
@[simp] theorem Oi:dGt (.int i) (.int j) = some (.bl (decide (j < i))):=rfl
@[simp] theorem Oh:dGe (.int i) (.int j) = some (.bl (decide (j <= i))):=rfl
@[simp] theorem Nw:j6 (.int i) = some (.int (-i)):=rfl
@[simp] theorem MR {i j:Int} (h:-18446744073709551616 < j /\ j < 18446744073709551616):jo (.int i) (.int j) = some (.int (i * j)):=ga (.inr h)
@[simp] theorem BC {i j:Int} (h:-18446744073709551616 < i /\ i < 18446744073709551616):jo (.int i) (.int j) = some (.int (i * j)):=ga (.inl h)
@[simp] theorem LX {i j:Int} (h:0 < j /\ j < 1073741824):ue (.int i) (.int j) = some (.int (i / j)):=ga h
@[simp] theorem Jj {i j:Int} (h:0 < j):nq (.int i) (.int j) = some (.int (i % j)):=ga h
@[simp] theorem L1 {i j:Int} (h:0 <= j /\ j <= 1000000 /\ i.natAbs < 18446744073709551616):Ha (.int i) (.int j) = some (.int (i ^ j.toNat)):=ga h
@[simp] theorem Np (d:D):JE neg d .non = some (.bl (if neg then !nI d else nI d)):=rfl
@[simp] theorem LY:nI .non = true:=rfl
@[simp] theorem LZ:nI (.int i) = false:=rfl
@[simp] theorem L0:nI (.tup a) = false:=rfl
@[simp] theorem Nq:dIx (.lst a) (.int i) = atI a i:=rfl
@[simp] theorem Nt:dIx (.tup a) (.int i) = atI a i:=rfl
@[simp] theorem Nr:dIx (.scr a) (.int i) = atI a i:=rfl
@[simp] theorem MY:zV (.lst a) = some (!a.isEmpty):=rfl
@[simp] theorem M1:zV (.tup a) = some (!a.isEmpty):=rfl
@[simp] theorem M0:zV (.scr a) = some (!a.isEmpty):=rfl
@[simp] theorem MW (x:Bool):zV (.bl x) = some x:=rfl
@[simp] theorem MX:zV (.int i) = some (i != 0):=rfl
@[simp] theorem MZ:zV .non = some false:=rfl
@[simp] theorem ML:oz [.lst a] = some (.int a.length):=rfl
@[simp] theorem MN:oz [.tup a] = some (.int a.length):=rfl
@[simp] theorem MM:oz [.scr a] = some (.int a.length):=rfl
@[simp] theorem M2:kn [.lst a] = some (.tup a):=rfl
@[simp] theorem M3:kn [.tup a] = some (.tup a):=rfl
@[simp] theorem MO:uS [.lst a] = some a:=rfl
@[simp] theorem MQ:uS [.tup a] = some a:=rfl
@[simp] theorem MP:uS [.scr a] = some a:=rfl
@[simp] theorem Nu:BP [.int i,.int j] = some (.int (if j > i then j else i)):=rfl
@[simp] theorem Nv:KR [.int i,.int j] = some (.int (if j < i then j else i)):=rfl
@[simp] theorem No:xV [.int i] = some (.int i):=rfl
@[simp] theorem MG (x:Bool):xV [.bl x] = some (.int (if x then 1 else 0)):=rfl
@[simp] theorem MS:Gd (.lst a) = some a:=rfl
@[simp] theorem MV:Gd (.tup a) = some a:=rfl
@[simp] theorem MU:Gd (.scr a) = some a:=rfl
@[simp] theorem Ny (lo hi:Option Int):dSl (.lst a) lo hi = some (.lst (jn a lo hi)):=rfl
@[simp] theorem NA (lo hi:Option Int):dSl (.tup a) lo hi = some (.tup (jn a lo hi)):=rfl
@[simp] theorem Nz (lo hi:Option Int):dSl (.scr a) lo hi = some (.lst (jn a lo hi)):=rfl
@[simp] theorem Og (y:XGs):a8 y (.tup a) ρ = y a ρ:=rfl
@[simp] theorem Od (x:XG) (y:XGs) (d:D):ao x y (d :: a) ρ = (x d ρ).bind (y a):=rfl
@[simp] theorem Oe:bd [] ρ = some ρ:=rfl
@[simp] theorem MI:rJ [.int i,.ty "int"] = some (.bl true):=rfl
@[simp] theorem MH:rJ [.int i,.ty "bool"] = some (.bl false):=rfl
@[simp] theorem MK:rJ [.tup a,.ty "tuple"] = some (.bl true):=rfl
@[simp] theorem MJ:rJ [.lst a,.ty "list"] = some (.bl true):=rfl
@[simp] theorem Mh (x:Bool):rJ [.bl x,.ty "bool"] = some (.bl true):=rfl
end
noncomputable abbrev owl (l:List D):Sl:=.ow (.lst (l.map O.sh))
@[simp] theorem Lf (os:List O):Fx (.ow (.lst os)) = (shs os).map D.lst:=rfl
@[simp] theorem Mg:shs [] = some []:=rfl
@[simp] theorem zF (d:D) (l:List O):shs (.sh d :: l) = (shs l).map fun r=>d :: r:=rfl
@[simp] theorem LH (l:List D):shs (l.map O.sh) = some l:=rd l
@[simp] theorem Gh {α:Type} (f:α -> D) (l:List α):shs (l.map (O.sh ∘ f)) = some (l.map f):=by rw [<- O7];exact rd _
@[simp] theorem LJ {α:Type} (f:α -> D) (l:List α):shs (l.map fun a=>O.sh (f a)) = some (l.map f):=Gh f l
@[simp] theorem Ih:∀ (a b:List O),shs (a ++ b) = (shs a).bind fun x=>(shs b).map fun y=>x ++ y
 | [],b=>by cases h:shs b <;> simp [h]
 | .sh d :: a,b=>by
  rw [List.cons_append,zF,zF,Ih a b]
  cases shs a with
  | none=>rfl
  | some x=>cases shs b <;> rfl
 | .dic _ :: _,_=>rfl
 | .hd _ _ _ :: _,_=>rfl
 | .lst _ :: a,b=>rfl
 | .tup _ :: a,b=>rfl
@[simp] theorem LL (o:O):dD o [] = some o:=by unfold dD;rfl
@[simp] theorem LK (l:List O) (k:Int) (r:List Int):dD (.lst l) (k :: r) = (atI l k).bind fun o=>dD o r:=rfl
@[simp] theorem LM (l:List O) (k:Int) (r:List Int):dD (.tup l) (k :: r) = (atI l k).bind fun o=>dD o r:=rfl
@[simp] theorem Li (o q:O):iV o [] q = q:=by unfold iV;rfl
@[simp] theorem Lh (l:List O) (k:Int) (r:List Int) (q:O):iV (.lst l) (k :: r) q = .lst (tp l k fun o=>iV o r q):=rfl
@[simp] theorem Lj (l:List O) (k:Int) (r:List Int) (q:O):iV (.tup l) (k :: r) q = .tup (tp l k fun o=>iV o r q):=rfl
@[simp] theorem Mm (d:D):O.d (.sh d) = d:=by unfold O.d;rfl
@[simp] theorem L6 (l:List O):O.d (.lst l) = .lst (O.ds l):=by rw [O.d]
@[simp] theorem L7 (l:List O):O.d (.tup l) = .tup (O.ds l):=by rw [O.d]
@[simp] theorem KM:O.ds [] = []:=by rw [O.ds]
@[simp] theorem CY (o:O) (l:List O):O.ds (o :: l) = o.d :: O.ds l:=by rw [O.ds]
@[simp] theorem Eg:∀ (a b:List O),O.ds (a ++ b) = O.ds a ++ O.ds b
 | [],b=>by simp
 | o :: a,b=>by simp [Eg a b]
@[simp] theorem xP:∀ l:List D,O.ds (l.map O.sh) = l
 | []=>by simp
 | d :: l=>by simp [xP l]
@[simp] theorem KG {α:Type} (f:α -> D) (l:List α):O.ds (l.map (O.sh ∘ f)) = l.map f:=by rw [<- O7];exact xP _
@[simp] theorem Ng {α:Type} (a b:α):atI [a,b] 0 = some a:=rfl
@[simp] theorem Nh {α:Type} (a b:α):atI [a,b] 1 = some b:=rfl
@[simp] theorem Ni {α:Type} (a b c:α):atI [a,b,c] 0 = some a:=rfl
@[simp] theorem Nj {α:Type} (a b c:α):atI [a,b,c] 1 = some b:=rfl
@[simp] theorem Nk {α:Type} (a b c:α):atI [a,b,c] 2 = some c:=rfl
theorem fe:LIM = 1000000:=by unfold LIM;rfl
@[simp] theorem N1:(0:Nat) <= LIM:=Pl _
@[simp] theorem JU:(1:Nat) <= LIM:=by rw [fe];decide
@[simp] theorem N5:(2:Nat) <= LIM:=by rw [fe];decide
@[simp] theorem N6:(3:Nat) <= LIM:=by rw [fe];decide
@[simp] theorem N7:(4:Nat) <= LIM:=by rw [fe];decide
@[simp] theorem N8:(5:Nat) <= LIM:=by rw [fe];decide
@[simp] theorem N9:(6:Nat) <= LIM:=by rw [fe];decide
@[simp] theorem Oa:(7:Nat) <= LIM:=by rw [fe];decide
@[simp] theorem Ob:(8:Nat) <= LIM:=by rw [fe];decide
@[simp] theorem Oc:(9:Nat) <= LIM:=by rw [fe];decide
@[simp] theorem Nm:(10:Nat) <= LIM:=by rw [fe];decide
@[simp] theorem Nl:(0:Nat) < LIM:=by rw [fe];decide
theorem nM (n:Nat):∀ r:List (Int × Int),okDs (n + 1) (r.map prD) = true
 | []=>by simp [okDs]
 | p :: r=>by rw [OQ,okDs,nM n r];simp [prD,okD,okDs]
@[simp] theorem L9 (neg:Bool) (i j:Int):dEq neg (.int i) (.int j) = some (.bl (if neg then !decide (i = j) else decide (i = j))):=by
 unfold dEq
 rw [OC ⟨by simp [okD],by simp [okD]⟩]
 have:eqD (.int i) (.int j) = decide (i = j):=by simp [eqD];by_cases h:i = j <;> simp [h]
 rw [this]
@[simp] theorem Mq (neg:Bool) (i j:Bool):dEq neg (.bl i) (.bl j) = some (.bl (if neg then !decide (i = j) else decide (i = j))):=by
 unfold dEq
 rw [OC ⟨by simp [okD],by simp [okD]⟩]
 have:eqD (.bl i) (.bl j) = decide (i = j):=by simp [eqD];by_cases h:i = j <;> simp [h]
 rw [this]
theorem oE {K:W.Frag} {S:Hp}:∀ ns:List Int,Dens K S (ns.map D.int) (ns.map V.int)
 | []=>.nil
 | n :: ns=>.cons (den_int.mpr rfl) (oE ns)
theorem D2 {K:W.Frag} {H:Hp} {a:Addr} {ns:List Int} {m:List D -> Option O} {E:XK} (hS:SqL K H a (ns.map V.int)) (h:(m [.scr (ns.map D.int)]).map O.d = some (.bl true)):fX K 1 m [.ref a] H (fun v _=>v = .bl true) E:=by
 cases q:m [.scr (ns.map D.int)] with
 | none=>rw [q] at h;cases h
 | some o=>
  rw [q] at h
  have e:o.d = .bl true:=Pj h
  exact ⟨rfl,H,[.scr (ns.map D.int)],o,Same.refl _,.cons (den_scr.mpr ⟨a,_,rfl,hS,oE ns⟩) .nil,q,fun v fp S' H' z ow _ _=>by
   have dv:=ow.denH z.sub
   rw [e] at dv
   exact den_bl.mp dv⟩
end M
namespace L2
open PySem PySem.Spec PyProof.Rows
theorem kr:bootBuiltins "len" = some (.builtin "len"):=by decide +kernel
theorem oB:bootBuiltins "sorted" = some (.builtin "sorted"):=by decide +kernel
theorem JB:bootBuiltins "max" = some (.builtin "max"):=by decide +kernel
theorem wz:bootBuiltins "sum" = some (.builtin "sum"):=by decide +kernel
theorem fA:bootBuiltins "isinstance" = some (.builtin "isinstance"):=by decide +kernel
theorem gy:bootBuiltins "tuple" = some (.type "tuple"):=by decide +kernel
theorem wx:bootBuiltins "list" = some (.type "list"):=by decide +kernel
theorem JA:bootBuiltins "int" = some (.type "int"):=by decide +kernel
section
variable {X:Cx}
theorem lm {K:W.Frag} {t T:String} (ht:t ∈ ["NoneType", "bool", "int", "str", "list", "tuple"]) (hT:T ∈ ["bool", "int", "str", "list", "tuple"]):W.kitOne K (.type t) (.type T) = some (M.Il t T):=by
 simp only [OP,Rs,or_false] at ht hT
 rcases ht with rfl | rfl | rfl | rfl | rfl | rfl <;> rcases hT with rfl | rfl | rfl | rfl | rfl <;> kernel_rfl
theorem yL:∀ a b:List Int,Srt.gH a b = HT.cz a b
 | [],[]=>rfl
 | [],_ :: _=>rfl
 | _ :: _,[]=>rfl
 | x :: xs,y :: ys=>by
  rw [HT.AR,<- yL xs ys]
  rfl
end
end L2
namespace Rev
open PySem
section
variable {prog:Program} {w:World} {A:Around} {s:Shared} {R:Result -> Shared -> Prop} {I:Addr} {fp wr:List Addr} {G:Array GenState -> Array GenState -> Prop} {n:Nat} {P:Nat -> Value -> Prop} {St:Nat -> Shared -> Prop}
end
section
variable {prog:Program} {w:World} {A:Around} {E:Value -> Shared -> Prop} {s:Shared} {I:Addr} {fp wr:List Addr} {G:Array GenState -> Array GenState -> Prop} {n:Nat} {P:Nat -> Value -> Prop} {St:Nat -> Shared -> Prop}
end
end Rev
namespace L2
open PySem PySem.Spec PyProof.Rows
section
variable {X:Cx} {tg:Expr}
theorem bz {l:Expr} {tl:TE} (hl:PE X l tl):PI X tg l (JL X.K tl):=by
 intro pins s σ H R I h
 refine thn (hl pins s σ H _ I h) fun v s1 h1=>?_
 obtain ⟨x,H1,I1,r1,a,e,q⟩:=h1
 subst e
 cases r1
 rcases q with ⟨⟨xs,hq⟩,q⟩ | ⟨⟨xs,hq⟩,q⟩
 ·obtain ⟨its,rv,p,hz⟩:=I1.list hq
  refine wpAny_pyIter_list p.isList ⟨s1.heap.objs.size,[s1.heap.objs.size],_,_,H1,rfl,I1.kept (t':=s1.toks) fun b o e=>OT _ e,D8 a _,⟨_,O3 _ rfl,rfl,rfl⟩,fun b hb=>?_,q⟩
  rw [OO.mp hb]
  exact I1.fpOk (OH _) I1.fresh
 ·obtain ⟨its,rv,p,hz⟩:=I1.tuple hq
  refine wpAny_pyIter_tuple (show s1.heap.IsTuple a its.toArray from p) ⟨s1.heap.objs.size,[s1.heap.objs.size],_,_,H1,rfl,I1.kept (t':=s1.toks) fun b o e=>OT _ e,BB a _,⟨_,O3 _ rfl,rfl,rfl⟩,fun b hb=>?_,q⟩
  rw [OO.mp hb]
  exact I1.fpOk (OH _) I1.fresh
end
section
variable {X:Cx} {tg:Expr}
theorem oQ:∀ {vs:List Value} {ns:List Int},IntsAre vs ns -> Vals (ns.map V.int) vs
 | _,_,.nil=>.nil
 | _,_,.cons n t h=>.cons ⟨t,rfl⟩ (oQ h)
theorem call_sortedI:CallR X (.builtin "sorted") (zn X.K):=by
 intro pins s σ H xs us Q I r h
 obtain ⟨p,ns,rfl,hS,h64,k⟩:=h
 obtain ⟨u,rfl,ru⟩:=r.one
 cases ru
 obtain ⟨its,rv,pl,hz⟩:=I.list hS
 have hI:IntsAre its ns:=mG rv
 have hl:its.length = ns.length:=by have:=rv.length;rw [OJ] at this;exact this.symm
 refine Srt.xD pl.isList hI (by rw [O2];lia) fun out ms ho perm pw=>?_
 obtain ⟨e,at1⟩:=sortedAll_at s.heap its out
 have fresh:s.heap.objs.size <= s.heap.objs.size + 1:=Nat.le_succ _
 refine ⟨.ref (s.heap.objs.size + 1),upd H (s.heap.objs.size + 1) (.lst (ms.map V.int)),I.laid (t':=s.toks) (fun b o hb=>sortedAll_old hb) fresh ?_,rfl,k ms _ perm pw (I.hok.fresh fresh)⟩
 exact ⟨by rw [OJ,perm.length_eq,O2];lia,out.toList,e,oQ ho,by simpa using at1⟩
theorem lf (hc:X.calm = true):CallR X (.builtin "sum") (IY X.K):=by
 intro pins s σ H xs us Q I r h
 obtain ⟨p,ns,rfl,hS,q⟩:=h
 obtain ⟨u,rfl,ru⟩:=r.one
 cases ru
 obtain ⟨its,rv,pl,hz⟩:=I.list hS
 have hI:IntsAre its ns:=mG rv
 obtain ⟨ys,e⟩:=hI.allInts.items
 have hl:=pl.isList
 have en:ns = ys.toList.map (·.1):=by
  rw [<- nums_intItems,<- e]
  simpa using hI.numsOf.symm
 rw [e] at hl
 refine sum_intListG (I.ok.hd hc) hl fun h' tk t' hk=>⟨.int ns.sum,H,I.kept hk,⟨t',?_⟩,q⟩
 rw [preSum_eq,QU (by simp),en]
end
end L2
namespace HT
open PySem PySem.Spec PyProof.Rows
section
variable {prog:Program} {w:World} {A:Around} {E:Value -> Shared -> Prop} {s:Shared}
theorem lG {t sl:Addr} {items:Array Value} {vl vu:Value} {lo hi:Option Int} {Q:Value -> Shared -> Prop} (ht:IsTup s.heap t items) (hs:s.heap.IsSliceOf sl vl vu .none) (pl:IsPart vl lo) (pu:IsPart vu hi)
  (hw:sIx items.size 0 lo = 0 /\ sIx items.size items.size hi = items.size) (h:Q (.ref t) s):wpAny (model prog w) A (getItem (.ref t) (.ref sl)) Q E s:=by
 obtain ⟨os,hos,hcs,hds⟩:=id hs
 have hTs:s.TypeIs (.ref sl) "slice" := ⟨os,hos,hcs⟩
 unfold getItem
 try with_reducible refine Pp ?_
 first | refine OA (OE ?_) | skip
 refine OA (wpAny_sequenceKey ht.typeIs (by decide) ?_)
 refine OA (QN (name:=Str.ofString "__getitem__") ht.typeIs QO
  (PR QO ht.typeIs entry_tuple_getitem ?_ (args_tuple_getitem _ _)))
 show wpAny _ _ (Builtin.Tuple.tupleItemsOf (.ref t) >>= _) _ _ s
 refine OA (tupleItemsOf_ ht ?_)
 refine OA (P9 hTs ?_)
 rw [OC (by decide)]
 refine OA (iZ hs pl pu ?_)
 have hyes:((((sIx items.size 0 lo:Nat):Int) == 0 && (1:Int) == 1 && (sIx items.size items.size hi - sIx items.size 0 lo) == items.size) = true):=by
  rw [hw.1,hw.2]
  simp
 show wpAny _ _ (if (((sIx items.size 0 lo:Nat):Int) == 0 && (1:Int) == 1 && (sIx items.size items.size hi - sIx items.size 0 lo) == items.size) = true then _ else _) _ _ s
 rw [OC hyes]
 refine OA (m:=Builtin.Tuple.tupleIsExact _) (OA (P9 ht.typeIs (OE ?_)))
 rw [OC (by decide)]
 exact OA (PL (OE ⟨_,rfl,OE h⟩))
end
end HT
namespace L2
open PySem PySem.Spec PyProof.Rows M
theorem Inv.rdl {X:Cx} {pins:List (Addr × Obj)} {σ:St} {H:Hp} {s:Shared} {l:Addr} {xs:List V} (I:Inv X pins σ H s) (h:Rd H l (.lst xs)):xs.length <= sizeLine /\ ∃ (its:List Value) (n:Nat),Vals xs its /\ xs.length = its.length /\ s.heap.get? l = some { cls:=.type "list",data:=.seq its.toArray n }:=by
 obtain ⟨h1,its,n,r,e⟩:=(show ObjOk X.prog X.w H s.heap l (.lst xs) from h.ok I.hok)
 exact ⟨h1,its,n,r,r.length,e⟩
section
variable {X:Cx}
theorem op_catM:OpR X (binaryOp .Add) IQ:=by
 intro pins s σ H x y v u Q I rx ry h
 obtain ⟨l,b,xs,zs,rfl,rfl,hH,hB,hz,q⟩:=h
 cases rx
 cases ry
 obtain ⟨z,its,n,r,hl,e⟩:=I.rdl hH
 obtain ⟨z2,its2,n2,r2,hl2,e2⟩:=I.rdl hB
 refine PySem.P.add_list e e2 ?_ (by rw [O0,O0];lia)
 have ea:its.toArray ++ its2.toArray = (its ++ its2).toArray:=by simp
 rw [ea]
 exact ⟨.ref _,_,I.lnew (t':=s.toks) (r.append r2) (by rw [OM];lia),rfl,q _ I.fresh⟩
theorem op_tupM:OpR X (binaryOp .Add) (IZ X.K):=by
 intro pins s σ H x y v u Q I rx ry h
 obtain ⟨a,b,xs,ys,rfl,rfl,ha,hb,hz,q1,q2,q⟩:=h
 cases rx
 cases ry
 obtain ⟨its,r1,p1,_⟩:=I.tuple ha
 obtain ⟨its2,r2,p2,_⟩:=I.tuple hb
 have hz2:its.length + its2.length <= sizeLine:=by rw [<- r1.length,<- r2.length];exact hz
 by_cases hv:its = []
 ·have hx:xs = []:=r1.nil_iff.mp hv
  obtain ⟨⟨cls,dd,data,sl⟩,ho,hc,n,hd⟩:=id p1
  obtain ⟨⟨cls2,dd2,data2,sl2⟩,ho2,hc2,n2,hd2⟩:=id p2
  simp only at hc hd hc2 hd2;subst hc hd hc2 hd2
  exact concat_meets ⟨_,ho,rfl⟩ ⟨_,ho2,rfl⟩ noFill_tuple_add seq_tuple_add Sb Sc (Sd (.ref a) (.ref b)) (tuple_addW0 a b its.toArray its2.toArray n n2 dd dd2 sl sl2 (by simp [hv])) ⟨ho,ho2,⟨.ref b,H,I,rfl,q2 hx⟩⟩
 ·refine HT.G5 p1 p2 hv (fun z=>⟨.ref a,H,I,rfl,q1 (r2.nil_iff.mp z)⟩) (fun z=>?_) hz2
  refine ⟨.ref s.heap.objs.size,_,I.laid (t':=s.toks) (o:=.tup (xs ++ ys)) (fun b ob e=>OT _ e) (OH _) ?_,rfl,q _ (I.hok.fresh (OH _))⟩
  exact ⟨by rw [OM];exact hz,_,r1.append r2,IsTup.new _ _⟩
theorem HL:OpR X (binaryOp .Add) IX:=A7
theorem bu:OpR X (binaryOp .Add) (IP X.K):=op_add.or (op_catM.or (op_tupM.or HL))
mutual
noncomputable def pyD:D -> PyData
 | .non=>.none
 | .bl b=>.bool b
 | .int i=>.int i
 | .str x=>.str x
 | .lst l=>.list (pyDs l)
 | .tup l=>.tuple (pyDs l)
 | .mtp l=>.tuple (pyDs l)
 | _=>.none
noncomputable def pyDs:List D -> List PyData
 | []=>[]
 | d :: l=>pyD d :: pyDs l
end
mutual
theorem sS:∀ (n:Nat) (d:D),okD n d = true -> (pyD d).canLay0 = true /\ (pyD d).depth <= n
 | _,.non,_=>by simp [pyD,PyData.canLay0,PyData.depth]
 | _,.bl _,_=>by simp [pyD,PyData.canLay0,PyData.depth]
 | _,.int _,_=>by simp [pyD,PyData.canLay0,PyData.depth]
 | n,.str x,h=>by
  have h':PyData.strOk x = true:=by cases n <;> simpa [okD] using h
  simp [pyD,PyData.canLay0,PyData.depth,h']
 | 0,.lst l,h=>by simp [okD] at h
 | n + 1,.lst l,h=>by
  obtain ⟨a,b⟩:=qY n l (by simpa [okD] using h)
  simp only [pyD,PyData.canLay0,PyData.depth]
  exact ⟨a,by lia⟩
 | 0,.tup l,h=>by simp [okD] at h
 | n + 1,.tup l,h=>by
  obtain ⟨a,b⟩:=qY n l (by simpa [okD] using h)
  simp only [pyD,PyData.canLay0,PyData.depth]
  exact ⟨a,by lia⟩
 | 0,.mtp l,h=>by simp [okD] at h
 | n + 1,.mtp l,h=>by
  obtain ⟨a,b⟩:=qY n l (by simpa [okD] using h)
  simp only [pyD,PyData.canLay0,PyData.depth]
  exact ⟨a,by lia⟩
 | n,.ty _,h=>by cases n <;> simp [okD] at h
 | n,.scr _,h=>by cases n <;> simp [okD] at h
 | n,.ins _ _ _,h=>by cases n <;> simp [okD] at h
theorem qY:∀ (n:Nat) (l:List D),okDs n l = true -> PyData.canLayAll0 (pyDs l) = true /\ PyData.depthAll (pyDs l) <= n
 | _,[],_=>by simp [pyDs,PyData.canLayAll0,PyData.depthAll]
 | n,d :: l,h=>by
  rw [okDs,PH] at h
  obtain ⟨a,b⟩:=sS n d h.1
  obtain ⟨c,e⟩:=qY n l h.2
  simp only [pyDs,PyData.canLayAll0,PyData.depthAll,a,c]
  exact ⟨rfl,by lia⟩
end
mutual
theorem AF:∀ (n m:Nat) (d e:D),okD n d = true -> okD m e = true -> PyData.eqv (pyD d) (pyD e) = eqD d e
 | n,m,.non,e,_,he=>by cases e <;> first | (simp [pyD,PyData.eqv,eqD];done) | (cases m <;> simp [okD] at he)
 | n,m,.bl _,e,_,he=>by cases e <;> first | (simp [pyD,PyData.eqv,eqD];done) | (cases m <;> simp [okD] at he)
 | n,m,.int _,e,_,he=>by cases e <;> first | (simp [pyD,PyData.eqv,eqD];done) | (cases m <;> simp [okD] at he)
 | n,m,.str _,e,_,he=>by cases e <;> first | (simp [pyD,PyData.eqv,eqD];done) | (cases m <;> simp [okD] at he)
 | 0,m,.lst _,e,hd,he=>by simp [okD] at hd
 | n + 1,m,.lst l,e,hd,he=>by
  cases e with
  | lst l'=>
   cases m with
   | zero=>simp [okD] at he
   | succ m=>
    simp only [pyD,PyData.eqv,eqD]
    exact eqvs_is n m l l' (by simpa [okD] using hd) (by simpa [okD] using he)
  | _=>first | (simp [pyD,PyData.eqv,eqD];done) | (cases m <;> simp [okD] at he)
 | 0,m,.tup _,e,hd,he=>by simp [okD] at hd
 | n + 1,m,.tup l,e,hd,he=>by
  cases e with
  | tup l'=>
   cases m with
   | zero=>simp [okD] at he
   | succ m=>
    simp only [pyD,PyData.eqv,eqD]
    exact eqvs_is n m l l' (by simpa [okD] using hd) (by simpa [okD] using he)
  | mtp l'=>
   cases m with
   | zero=>simp [okD] at he
   | succ m=>
    simp only [pyD,PyData.eqv,eqD]
    exact eqvs_is n m l l' (by simpa [okD] using hd) (by simpa [okD] using he)
  | _=>first | (simp [pyD,PyData.eqv,eqD];done) | (cases m <;> simp [okD] at he)
 | 0,m,.mtp _,e,hd,he=>by simp [okD] at hd
 | n + 1,m,.mtp l,e,hd,he=>by
  cases e with
  | tup l'=>
   cases m with
   | zero=>simp [okD] at he
   | succ m=>
    simp only [pyD,PyData.eqv,eqD]
    exact eqvs_is n m l l' (by simpa [okD] using hd) (by simpa [okD] using he)
  | mtp l'=>
   cases m with
   | zero=>simp [okD] at he
   | succ m=>
    simp only [pyD,PyData.eqv,eqD]
    exact eqvs_is n m l l' (by simpa [okD] using hd) (by simpa [okD] using he)
  | _=>first | (simp [pyD,PyData.eqv,eqD];done) | (cases m <;> simp [okD] at he)
 | n,_,.ty _,_,h,_=>by cases n <;> simp [okD] at h
 | n,_,.scr _,_,h,_=>by cases n <;> simp [okD] at h
 | n,_,.ins _ _ _,_,h,_=>by cases n <;> simp [okD] at h
theorem eqvs_is:∀ (n m:Nat) (l l':List D),okDs n l = true -> okDs m l' = true -> PyData.eqvAll (pyDs l) (pyDs l') = eqDs l l'
 | _,_,[],[],_,_=>by simp [pyDs,PyData.eqvAll,eqDs]
 | _,_,[],_ :: _,_,_=>by simp [pyDs,PyData.eqvAll,eqDs]
 | _,_,_ :: _,[],_,_=>by simp [pyDs,PyData.eqvAll,eqDs]
 | n,m,d :: l,e :: l',hd,he=>by
  rw [okDs,PH] at hd he
  rw [pyDs,pyDs,PyData.eqvAll,eqDs,AF n m d e hd.1 he.1,eqvs_is n m l l' hd.2 he.2]
end
mutual
theorem iI {pins:List (Addr × Obj)} {σ:St} {H:Hp} {s:Shared} (I:Inv X pins σ H s):∀ (n:Nat) {d:D} {x:V} {v:Value},okD n d = true -> Den X.K H d x -> RelV x v -> ∃ as,Reads s.heap v (pyD d) as
 | _,.non,x,v,_,dx,r=>by rw [den_non.mp dx] at r;cases r;exact ⟨_,.none⟩
 | _,.bl b,x,v,_,dx,r=>by rw [den_bl.mp dx] at r;cases r;exact ⟨_,.bool b⟩
 | _,.int i,x,v,_,dx,r=>by rw [den_int.mp dx] at r;obtain ⟨t,rfl⟩:=r;exact ⟨_,.int i t⟩
 | _,.str y,x,v,_,dx,r=>by rw [den_str.mp dx] at r;obtain ⟨t,rfl⟩:=r;exact ⟨_,.str y t⟩
 | 0,.lst _,x,v,h,dx,r=>by simp [okD] at h
 | n + 1,.lst l,x,v,h,dx,r=>by
  obtain ⟨p,xs,rfl,hp,ds⟩:=den_lst.mp dx
  cases r
  obtain ⟨_,its,k,rv,_,e⟩:=I.rdl hp
  obtain ⟨as,ra⟩:=dens_reads I n (by simpa [okD] using h) ds rv
  exact ⟨_,.list e rfl rfl (by simpa using ra)⟩
 | 0,.tup _,x,v,h,dx,r=>by simp [okD] at h
 | n + 1,.tup l,x,v,h,dx,r=>by
  obtain ⟨p,xs,rfl,hp,ds⟩:=gA dx
  cases r
  obtain ⟨its,rv,⟨o,e,c,k,d⟩,_⟩:=I.tuple hp
  obtain ⟨as,ra⟩:=dens_reads I n (by simpa [okD] using h) ds rv
  exact ⟨_,.tuple e c d (by simpa using ra)⟩
 | 0,.mtp _,x,v,h,dx,r=>by simp [okD] at h
 | n + 1,.mtp l,x,v,h,dx,r=>by
  obtain ⟨p,xs,rfl,hp,ds⟩:=den_mtp.mp dx
  cases r
  obtain ⟨its,rv,⟨o,e,c,k,d⟩,_⟩:=I.tuple hp
  obtain ⟨as,ra⟩:=dens_reads I n (by simpa [okD] using h) ds rv
  exact ⟨_,.tuple e c d (by simpa using ra)⟩
 | n,.ty _,_,_,h,_,_=>by cases n <;> simp [okD] at h
 | n,.scr _,_,_,h,_,_=>by cases n <;> simp [okD] at h
 | n,.ins _ _ _,_,_,h,_,_=>by cases n <;> simp [okD] at h
theorem dens_reads {pins:List (Addr × Obj)} {σ:St} {H:Hp} {s:Shared} (I:Inv X pins σ H s):∀ (n:Nat) {ds:List D} {xs:List V} {vs:List Value},okDs n ds = true -> Dens X.K H ds xs -> Vals xs vs -> ∃ as,ReadsAll s.heap vs (pyDs ds) as
 | _,[],xs,vs,_,d,r=>by
  rw [d.nil_of] at r
  cases r
  exact ⟨_,.nil⟩
 | n,d :: ds,xs,vs,h,dd,r=>by
  rw [okDs,PH] at h
  obtain ⟨y,ys,rfl,a,b⟩:=dd.cons_of
  cases r with
  | cons r rr=>
   obtain ⟨as,ra⟩:=iI I n h.1 a r
   obtain ⟨bs,rb⟩:=dens_reads I n h.2 b rr
   exact ⟨_,.cons ra rb⟩
end
theorem fi (hu:X.A.units + 64 < cLine):OpR X (compareOp .Eq) (Kb X.K false):=by
 intro pins s σ H x y v u Q I rx ry h
 obtain ⟨S,d,e,sm,dx,dy,cd,ce,q⟩:=h
 obtain ⟨as,ra⟩:=iI I 50 cd (rT sm dx) rx
 obtain ⟨bs,rb⟩:=iI I 50 ce (rT sm dy) ry
 obtain ⟨a1,a2⟩:=sS 50 d cd
 obtain ⟨b1,b2⟩:=sS 50 e ce
 have hm:=Nat.min_le_left (pyD d).depth (pyD e).depth
 refine SeqAt.compareEq_reads ra rb a1 b1 (by lia) ⟨.bl _,H,I,rfl,?_⟩
 rw [AF 50 50 d e cd ce]
 exact q
theorem mP (hu:X.A.units + 64 < cLine):OpR X (compareOp .NotEq) (Kb X.K true):=by
 intro pins s σ H x y v u Q I rx ry h
 obtain ⟨S,d,e,sm,dx,dy,cd,ce,q⟩:=h
 obtain ⟨as,ra⟩:=iI I 50 cd (rT sm dx) rx
 obtain ⟨bs,rb⟩:=iI I 50 ce (rT sm dy) ry
 obtain ⟨a1,a2⟩:=sS 50 d cd
 obtain ⟨b1,b2⟩:=sS 50 e ce
 have hm:=Nat.min_le_left (pyD d).depth (pyD e).depth
 refine SeqAt.compareNe_reads ra rb a1 b1 (by lia) ⟨.bl _,H,I,rfl,?_⟩
 rw [AF 50 50 d e cd ce]
 exact q
theorem ee:CallR X (.builtin "len") (IV X.K):=En
theorem ld:CallR X (.builtin "isinstance") (IU X.K):=by
 intro pins s σ H xs us Q I r h
 obtain ⟨x,T,t,rfl,ht,hm,q⟩:=h
 obtain ⟨u,w',rfl,ru,rw'⟩:=r.two
 cases rw'
 have fin:∀ tk:Nat,EP X pins σ Q (.bool (Il t T)) { s with toks:=tk }:=fun tk=>⟨.bl _,H,I.tok tk,rfl,q⟩
 cases x with
 | non=>cases ht;exact lj I ru .non (lm (by decide) hm) fin
 | bl b=>cases ht;exact lj I ru (.bl b) (lm (by decide) hm) fin
 | int i=>cases ht;exact lj I ru (.int i) (lm (by decide) hm) fin
 | str y=>cases ht;exact lj I ru (.str y) (lm (by decide) hm) fin
 | ref p=>
  cases ru
  rcases ht with ⟨rfl,xs,h⟩ | ⟨rfl,xs,h⟩
  ·obtain ⟨_,its,n,rv,_,e⟩:=I.rdl h
   exact Py W.kitx_list I.kIn ⟨_,e,rfl⟩ (lm (by decide) hm) (fun z=>nomatch z) fin
  ·obtain ⟨its,rv,⟨o,e,c,_⟩,_⟩:=I.tuple h
   exact Py W.kitx_tuple I.kIn ⟨o,e,c⟩ (lm (by decide) hm) (fun z=>nomatch z) fin
 | _=>exact (show False from ht).elim
theorem qX:MtM X "list.extend" rExtM:=by
 intro pins s σ H x vs v us Q I rx rv h
 obtain ⟨l,b,xs,zs,rfl,rfl,hH,hB,hz,q⟩:=h
 cases rx
 obtain ⟨u,rfl,ru⟩:=rv.one
 cases ru
 obtain ⟨z,its,n,r,hl,e⟩:=I.lstM hH
 obtain ⟨z2,its2,n2,r2,hl2,e2⟩:=I.rdl hB
 have hsz:its.toArray.size + its2.toArray.size <= sizeLine:=by rw [O0,O0];lia
 have hlong:¬ (!its.toArray.isEmpty && Builtin.List.listTooLong (its.toArray.size + its2.toArray.size)) = true:=by
  rw [Fl hsz,Bool.and_false]
  exact Px
 refine call_meets F.slot_list_extend ⟨_,e,rfl⟩ F.entry_list_extend (F.args_list_extend_2 _ _)
  (AutoSeq1.list_extend_list_list_0 l its.toArray n b its2.toArray n2 hlong (by rw [O0];lia) (by lia)) ⟨e,e2,?_⟩
 refine ⟨.non,_,I.lset (its':=its ++ its2) hH e (by simp) (r.append r2) ?_,rfl,q⟩
 rw [OM]
 lia
theorem ME:SlR X (Lr X.K):=by
 refine SlR.or Ij ?_
 intro pins s σ H x v vl vu lo hi sl Q I rx hs pl pu h
 obtain ⟨a,xs,rfl,hx,q1,q2⟩:=h
 cases rx
 by_cases hw:HT.sIx xs.length 0 lo = 0 /\ HT.sIx xs.length xs.length hi = xs.length
 ·obtain ⟨its,r,ht,hz⟩:=I.tuple hx
  have hlen:its.toArray.size = xs.length:=by rw [O0];exact r.length.symm
  have hcut:mv xs lo hi = xs:=by
   unfold mv
   rw [hw.1,hw.2,List.drop_zero,Nat.sub_zero,QU (OH _)]
  refine ⟨"tuple",_,QO.lookup,ht.typeIs,?_⟩
  exact HT.lG ht hs pl pu (by rw [hlen];exact hw) ⟨.ref a,H,I,rfl,q1 hcut⟩
 ·exact Kv pins s σ H (.ref a) (.ref a) vl vu lo hi sl Q I rfl hs pl pu ⟨a,xs,rfl,hx,hw,q2⟩
theorem Ao:CallR X (.builtin "sorted") (FN X.K):=by
 intro pins s σ H xs us Q I r h
 obtain ⟨p,yks,rfl,hS,h64,hk,k⟩:=h
 obtain ⟨u,rfl,ru⟩:=r.one
 cases ru
 obtain ⟨its,rv,pl,hz⟩:=I.list hS
 have hl:yks.length = its.length:=by rw [<- rv.length,OJ]
 have atI:∀ i,i < its.length -> ∃ yk,yks[i]? = some yk /\ yks.getD i (.non,[]) = yk /\ RelV yk.1 (its.getD i Value.none):=fun i hi=>by
  have ey:yks[i]? = some yks[i]:=P0 (by lia)
  have ex:(yks.map (·.1))[i]? = some yks[i].1:=by rw [O6,ey];rfl
  obtain ⟨v,ev,rl⟩:=rv.get ex
  exact ⟨_,ey,by rw [Sh,ey];rfl,by rw [Sh,ev];exact rl⟩
 have tup:∀ i,i < its.length -> Srt.KP s.heap (its.getD i Value.none) (yks.getD i (.non,[])).2 /\ (yks.getD i (.non,[])).2 ≠ []:=fun i hi=>by
  obtain ⟨yk,e1,e2,rl⟩:=atI i hi
  obtain ⟨q,e3,e4,e5⟩:=hk _ (Rf e1)
  rw [e2]
  refine ⟨?_,e5⟩
  rw [e3] at rl
  have rl':its.getD i Value.none = Value.ref q:=rl
  obtain ⟨js,rj,⟨o,ho,hc,n,hd⟩,_⟩:=I.tuple e4
  refine ⟨q,o,js.toArray,n,rl',ho,hc,hd,?_⟩
  simpa using mG rj
 refine Srt.vY (Srt.Fc fun i=>(yks.getD i (.non,[])).2) pl.isList (by rw [O2];lia) (Srt.AO tup) fun q hq ha=>?_
 obtain ⟨pv,pw⟩:=Srt.xj (vs:=its) (d:=Value.none) hq ha
 rw [<- hl] at hq ha
 obtain ⟨py,wy⟩:=Srt.xj (vs:=yks) (d:=((V.non,[]):V × List Int)) hq ha
 obtain ⟨e,at1⟩:=sortedAll_at s.heap its (Srt.gL its q)
 have hv:Vals ((q.toList.map fun i=>yks.getD i (.non,[])).map (·.1)) (q.toList.map fun i=>its.getD i Value.none):=by
  have hb:∀ i ∈ q.toList,i < its.length:=fun i hi=>by
   have:i < yks.length:=by simpa using (QS.mp hq).mem_iff.mp hi
   lia
  revert hb
  generalize q.toList = L
  induction L with
  | nil=>exact fun _=>.nil
  | cons i L ih=>
   intro hb
   refine .cons ?_ (ih fun j hj=>hb j (OK _ hj))
   obtain ⟨yk,_,e2,rl⟩:=atI i (hb i OI)
   dsimp only
   rw [e2]
   exact rl
 have fresh:s.heap.objs.size <= s.heap.objs.size + 1:=Nat.le_succ _
 refine ⟨.ref (s.heap.objs.size + 1),upd H (s.heap.objs.size + 1) (.lst ((q.toList.map fun i=>yks.getD i (.non,[])).map (·.1))),I.laid (t':=s.toks) (fun b o hb=>sortedAll_old hb) fresh ?_,rfl,?_⟩
 ·refine ⟨by rw [OJ,py.length_eq,O2];lia,_,e,hv,at1⟩
 ·refine k _ _ py (wy _ fun i j _ _ h=>?_) (I.hok.fresh fresh)
  rw [<- yL]
  exact h
theorem m8:CallR X (.builtin "sorted") (zo X.K):=call_sortedI.or Ao
end
end L2
namespace M
noncomputable def hG (a:List Int) (k:Int):List Int:=if a.any (· == k) then a else a ++ [k]
noncomputable def eR (ns:List Int):List Int:=ns.foldl hG []
end M
namespace L2
open PySem
theorem JC:bootBuiltins "set" = some (.type "set"):=by decide +kernel
theorem yC:∀ {ns:List Int} {its:List Value},Vals (ns.map V.int) its -> PyProof.Rows.IntsAre its ns
 | [],_,h=>by cases h;exact .nil
 | n :: ns,_,h=>by
  cases h with
  | cons r t=>
   obtain ⟨tk,rfl⟩:=r
   exact .cons n tk (yC t)
section
variable {X:Cx}
end
end L2
namespace M
open PySem L2
section
variable {K:W.Frag}
noncomputable def tG (K:W.Frag) (d:D):TE:=fun _ H Q=>∀ v,(∀ S,Den K S d v) -> Q v H
theorem s_g {d:D}:SE K (tG K d) (xC d):=fun ρ σ S H Q e r x k v hv=>by
 cases x
 exact k v S H (Ext.refl r.sub) (hv S)
end
end M
namespace L2
open PySem M
theorem nO {X:_} {x:Str} {v:V} {u:Value} {pos:Pos} {K:W.Frag} {d:D} (hg:Gl X x) (hm:X.mg x = some u) (r:RelV v u) (hD:∀ S,Den K S d v) (hd:(x == ("__debug__" : Str)) = false:=by decide):PE X (.Name x pos) (tG K d):=
 fun a b c H Q I h=>Cm hg hm r hd a b c H Q I (h v hD)
end L2
namespace M
open PySem L2
@[simp] noncomputable def Mi (a:XE):XE:=fun ρ=>(a ρ).bind fun d=>match d with | .lst l=>(aJ l).bind fun ns=>if ns.length < 4000 then some (.int ((eR ns).length:Nat)) else none | _=>none
end M
namespace L2
open PySem
section
variable {X:Cx} {o e:Expr} {es:List Expr} {f m:Str} {pos apos p:Pos} {ta:TE} {t:TA} {Ns:List Str} {k:Nat} {g C:Addr} {fd:FuncData} {ps:List Str} {sp:Sp}
end
end L2
namespace M
open PySem L2
section
variable {K:W.Frag} {S S' H H':Hp}
noncomputable def K1:List Str -> List D -> Str -> Option D
 | n :: ns,d :: l,f=>if f = n then some d else K1 ns l f
 | _,_,_=>none
@[simp] noncomputable def Op (Ns:List Str) (f:Str) (e:XE):XE:=fun ρ=>(e ρ).bind fun d=>match d with | .ins N ns l=>if Ns.contains N then K1 ns l f else none | _=>none
@[simp] noncomputable def NM (Ns:List Str) (m:Str) (g:List D -> Option D) (e:XE) (a:XA):XE:=fun ρ=>(e ρ).bind fun d=>match d with | .ins N ns l=>if Ns.contains N && !ns.contains m then (a ρ).bind fun ds=>g (.ins N ns l :: ds) else none | _=>none
@[simp] noncomputable def NL (N f:Str) (mi:List D -> Option D) (a:XA):XE:=fun ρ=>((a ρ).bind mi).map fun d=>.ins N [f] [d]
end
end M
namespace M
end M
namespace L2
open PySem PySem.Spec PyProof.Rows
section
variable {prog:Program} {w:World} {A:Around} {E:Value -> Shared -> Prop} {s:Shared}
end
section
variable {X:Cx}
end
end L2
namespace M
open PySem L2
section
variable {K:W.Frag}
end
end M
namespace L2
open PySem
theorem fM {XN:List Str} {sc scope:Scope} {N:List Str} {js:List (Option Nat)} (h1:scope.kind = .function:=by rfl) (h2:∀ y ∈ scope.names,y.2 ≠ .cell:=by decide +kernel) (h3:∀ y ∈ scope.names,y.2 = .free -> sc.names.lookup y.1 = some .cell \/ sc.names.lookup y.1 = some .free:=by decide +kernel)
  (h4:∀ y ∈ scope.names,y.2 = .local -> scope.names.lookup y.1 = some .local:=by decide +kernel) (h5:js.length = N.length:=by rfl) (h6:((N.zip js).all fun p=>match p.2 with | none=>true | some j=>decide (XN[j]? = some p.1) && decide (scope.names.lookup p.1 = some .free)) = true:=by decide +kernel):CmpOk XN sc scope N js:=⟨h1,h2,h3,h4,h5,h6⟩
end L2
namespace M
open PySem L2
noncomputable def yc:D -> D -> Option D:=dI fun i j=>ifC (0 <= i /\ 0 <= j) (some (.int ((i.toNat &&& j.toNat:Nat):Int))) none
noncomputable def dIn (neg:Bool):D -> D -> Option D
 | .int i,.lst l=>(aJ l).map fun ns=>.bl (if neg then !ns.contains i else ns.contains i)
 | .int i,.tup l=>(aJ l).map fun ns=>.bl (if neg then !ns.contains i else ns.contains i)
 | _,_=>none
@[simp] noncomputable def BD (m:List D -> Option D) (e:D) (a:XA):XE:=fun ρ=>(a ρ).bind fun ds=>m (ds ++ [e])
section
variable {K:W.Frag}
theorem FO:SR2 K (rI0 fun i j=>.int (Builtin.bitAnd i j)) yc:=DP fun i j d h=>by
 obtain ⟨c,rfl⟩:=iJ h
 show some (V.int _) = some (V.int _)
 have e1:decide (0 <= i) = true:=Pr c.1
 have e2:decide (0 <= j) = true:=Pr c.2
 unfold Builtin.bitAnd
 rw [e1,e2]
theorem si (i:Int):∀ ns:List Int,inV (.int i) (ns.map V.int) = ns.contains i
 | []=>rfl
 | n :: ns=>by
  have ih:=si i ns
  unfold inV at ih ⊢
  rw [OQ,QP,ih,List.contains_cons]
  have:eqV (V.int n) (V.int i) = (i == n):=by
   show (n == i) = (i == n)
   rw [Bool.eq_iff_iff,Qk,Qk]
   exact ⟨Eq.symm,Eq.symm⟩
  rw [this]
theorem oK:∀ ns:List Int,(ns.map V.int).all nB = true
 | []=>rfl
 | n :: ns=>by rw [OQ,List.all_cons,oK ns];rfl
theorem Ls (neg:Bool):SR2 K (rIn K neg) (dIn neg):=fun S H x y d e z Q s dx dy q k=>by
 unfold dIn at q
 split at q
 ·rename_i i l
  cases qi:aJ l with
  | none=>rw [qi] at q;cases q
  | some ns=>
   rw [qi] at q
   cases q
   obtain ⟨p,xs,rfl,h1,h2⟩:=dy.lst s
   obtain ⟨e,_⟩:=et h2 qi
   subst e
   have ex:=dx.int
   subst ex
   exact ⟨p,_,rfl,.inl (.inl h1),rfl,oK ns,by rw [si];exact k _ S H (Ext.refl s) (den_bl.mpr rfl)⟩
 ·rename_i i l
  cases qi:aJ l with
  | none=>rw [qi] at q;cases q
  | some ns=>
   rw [qi] at q
   cases q
   obtain ⟨p,xs,rfl,h1,h2⟩:=dy.tup s
   obtain ⟨e,_⟩:=et h2 qi
   subst e
   have ex:=dx.int
   subst ex
   exact ⟨p,_,rfl,.inr h1,rfl,oK ns,by rw [si];exact k _ S H (Ext.refl s) (den_bl.mpr rfl)⟩
 ·cases q
theorem HX {n:Nat} {m:List D -> Option O} {E:XK} {t:TA} {a:XA} {e:D} {v:V} (hv:mE e = some v) (h:SA K t a) (hn:∀ ρ ds,a ρ = some ds -> ds.length = n):SE K (tP (fX K (n + 1) m) [v] E t) (BD (fun ds=>(m ds).map O.d) e a):=fun ρ σ S H Q d r x k=>by
 unfold BD at x
 cases q:a ρ with
 | none=>rw [q] at x;cases x
 | some ds=>
  rw [q] at x
  dsimp only [Option.bind] at x
  cases qg:m (ds ++ [e]) with
  | none=>rw [qg] at x;cases x
  | some o=>
   rw [qg] at x
   cases x
   refine h ρ σ S H _ ds r q fun vs S1 H1 z1 d1=>?_
   refine ⟨by rw [OM,<- d1.length,hn ρ ds q];rfl,S1,ds ++ [e],o,z1.sub,d1.append (.cons (iH hv) .nil),qg,fun v fp S3 H3 z3 ow nd fr=>?_⟩
   exact k v _ H3 (z1.trans (yx z3 fr)) (ow.den (lh fun b hb=>(fr b hb).2) fun b hb=>eJ hb)
end
end M
namespace L2
open PySem
structure FunD (K:W.Frag) (x qual:Str) (st:Stmt) (T:Addr) (f:Addr) (fd:FuncData):Prop where
 ex:∃ (oc:Value) (od:Option Addr) (kV doc pm:Value) (an:Option Addr) (cdv ct:Value) (osl:Array (Option Value)),fd = W.fnOf x qual (aZ st) (aV st) (am st) (.ref T) kV doc pm an cdv ct /\ K.lookup f = some ⟨oc,od,.func fd,osl⟩ /\ W.codeIn K cdv qual = true
section
variable {P:Program} {w:World} {K:W.Frag} {mg:Str -> Option Value} {base:Heap}
theorem FunD.ok {x qual:Str} {st:Stmt} {T f:Addr} {fd:FuncData} {N ps:List Str} {k:Nat} {sp:Sp} (F:FunD K x qual st T f fd) (S:FnScope N ps (am st)) (len:∀ vs H Q E,sp vs H Q E -> vs.length = ps.length)
  (hb:∀ (cdv:Value) (A:Around) (outer:List Env) (s:Shared) (H:Hp) (vs:List V) (Q:VK) (E:XK),Room k (A.deeper (PyProof.Rows.envOfC qual (am st) s.heap.objs.size f cdv)) -> sp vs H Q E -> ∃ t,PSs (Au CX0 P w K mg base N qual (am st) f cdv A outer s H E).nox (aV st) t /\ t { nx:=fun _ H'=>Q .non H',rt:=Q } (bi N vs) H):FnOk P w K mg base CX0 (k + 1) f fd ps sp:=by
 obtain ⟨oc,od,kV,doc,pm,an,cdv,ct,osl,rfl,lk,hcd⟩:=F.ex
 exact IA lk hcd S len fun A outer s H vs Q E hr hsp=>by obtain ⟨t,h,q⟩:=hb cdv A outer s H vs Q E hr hsp;exact ⟨t,h.nox,q⟩
end
end L2
namespace L2
open PySem PySem.Spec PyProof.Rows
section
variable {X:Cx} {pins:List (Addr × Obj)} {σ:St} {H:Hp} {s:Shared} {XN N:List Str} {sc scope:Scope} {js:List (Option Nat)}
variable {tg iter elt:Expr} {ifs:List Expr} {pos:Pos} {wi:TI} {g:TG} {tt:TIf} {te:TE}
end
end L2
namespace RevT
open PySem PySem.Calls PyProof.Rows
section
variable {prog:Program} {w:World} {A:Around} {E:Value -> Shared -> Prop} {s:Shared}
end
end RevT
namespace L2
open PySem PySem.Spec PyProof.Rows
section
variable {X:Cx} {tg:Expr}
end
end L2
namespace M
open PySem L2
section
variable {K:W.Frag} {S S' H H':Hp}
noncomputable def MC:List D -> Option (List D)
 | [.tup l]=>some l.reverse | _=>none
@[simp] noncomputable def NP (a:XA):XA:=fun ρ=>(a ρ).bind MC
end
end M
namespace L2
open PySem
section
variable {X:Cx} {e:Expr} {pos p p':Pos} {ta:TE} {T:Addr} {N:Str} {ans:List (Str × Bool)}
end
end L2
namespace M
open PySem L2
section
variable {K:W.Frag} {S S' H H':Hp}
@[simp] noncomputable def NJ (ans:List (Str × Bool)) (e:XE):XE:=fun ρ=>(e ρ).bind fun d=>match d with | .ins N _ _=>(ans.lookup N).map .bl | _=>none
end
end M
namespace L2
open PySem PySem.Spec PyProof.Rows Builtin Builtin.ObjectAttr Builtin.Getset_descriptor
section
variable {prog:Program} {w:World} {A:Around} {E:Value -> Shared -> Prop} {s:Shared} {K:W.Frag} {C a:Addr}
end
end L2
namespace L2
open PySem PySem.Spec PyProof.Rows
section
variable {H H':Hp} {B h0 h h':Heap} {fs:List Addr}
end
section
variable {X:Cx} {pins:List (Addr × Obj)} {σ:St} {H:Hp} {s:Shared} {E:XK} {B:Heap} {e:Addr} {cls a0:Value}
end
section
variable {P:Program} {w:World} {K:W.Frag} {mg:Str -> Option Value} {base:Heap} {N:List Str} {qual:Str} {scope:Scope} {f:Addr} {cdv:Value} {A:Around} {outer:List Env} {s:Shared} {H:Hp} {E:XK}
end
section
variable {X:Cx} {E:XK} {x:Str} {e:Expr} {te:TE} {np cpos pos:Pos}
end
section
variable {X:Cx} {pins:List (Addr × Obj)} {σ:St} {H H':Hp} {s s':Shared} {e:Addr}
end
section
variable {X:Cx} {body suite:List Stmt} {b0:Stmt} {x n:Str} {i:Nat} {L:List Str} {tb:XK -> TS} {ts:TS} {np hp pos:Pos}
end
section
variable {X:Cx} {e:Expr} {pos p p':Pos} {i:Nat} {N:Str} {ans:List (Str × Bool)} {vv:V} {u:Value}
end
end L2
namespace M
open PySem L2
section
variable {K:W.Frag} {S S' H H':Hp}
inductive RO where
 | rz (N:Str) | nx (ρ:Env)
noncomputable abbrev XR:=Env -> Option RO
variable {E:XK}
@[simp] noncomputable def Nd:XR:=fun ρ=>some (.nx ρ)
@[simp] noncomputable def Mk (N:Str):XR:=fun _=>some (.rz N)
@[simp] noncomputable def Ox (c:XT) (m n:XR):XR:=fun ρ=>(c ρ).bind fun b=>if b = true then m ρ else n ρ
@[simp] noncomputable def N0 (m n:XR):XR:=fun ρ=>(m ρ).bind fun o=>match o with | .nx ρ'=>n ρ' | .rz N=>some (.rz N)
@[simp] noncomputable def Nf (m:XR):XR:=fun ρ=>(m ρ).bind fun o=>match o with | .nx _=>none | .rz N=>some (.rz N)
@[simp] noncomputable def xrE (m:Env -> Option Str):XR:=fun ρ=>(m ρ).map .rz
@[simp] noncomputable def Nb (m:List D -> Option Str) (a:XA):Env -> Option Str:=fun ρ=>(a ρ).bind m
noncomputable def IK (N:Str):List (List (Str × Bool)) -> Option (List Bool)
 | []=>some []
 | a :: l=>(a.lookup N).bind fun b=>(IK N l).map fun bs=>b :: bs
noncomputable def ES (i:Nat) (N:Str):List (Nat × List (List (Str × Bool))) -> Env -> Option Env
 | [],ρ=>some ρ
 | p :: l,ρ=>if p.1 = i then none else (IK N p.2).bind fun bs=>if bs.length <= 1000 then ES i N l (ρ.set p.1 (.sh (.lst (bs.map .bl)))) else none
@[simp] noncomputable def Ov (L:List Str) (i:Nat) (m:XR) (l:List (Nat × List (List (Str × Bool)))):XS:=fun ρ=>if i < ρ.length then (m ρ).bind fun o=>match o with
 | .rz N=>if L.contains N then (ES i N l (ρ.map fun _=>.un)).map fun ρ'=>.nx (ρ'.set i .un) else none
 | .nx ρ'=>some (.nx ρ') else none
end
end M
namespace L2
open PySem PySem.Spec PyProof.Rows
theorem D9 {P:Program} {w:World} {K:W.Frag} {tg:Expr} (it:Addr) (lo:Int) (n:Nat):Turn P w K tg (Itr lo n) [it] it (fun i h=>IsLongIter h it (lo + (i:Nat) * 1) ((n:Int) - (i:Nat)) 1) where
 mem:=by simp
 obj:=fun i h st b hb=>by
  obtain rfl:b = it:=by simpa using hb
  refine ⟨_,st,fun v z=>?_⟩
  have y:Data.fields _ = Data.cell v:=z
  cases y
 keep:=fun i h h' st k=>k it (by simp) _ st
 item:=by
  intro X hP hw hK hc i pins s σ H E I hf st hg
  subst hP hw hK
  have ⟨g0,g1,g2,g3,g4,g5⟩:=hf it (by simp)
  refine (Walks.longrange (prog:=X.prog) (w:=X.w) (I.ok.hd hc) it lo 1 n).item i s _ _ hg st fun v h' tk hv st' kk=>?_
  obtain ⟨t,rfl⟩:=hv
  have J:Inv X pins σ H { s with heap:=h',toks:=tk }:=I.turned (fun b o hb q=>kk b o (by simpa using hb) q) g0 g1 g3 g4 g5
  exact ⟨_,rfl,yz (s:={ s with heap:=h',toks:=tk }) (n := "longrange_iterator") st' rfl rfl (by decide) ⟨.int (lo + i),H,J,⟨t,by rw [Int.mul_one]⟩,⟨rfl,rfl⟩,st',fun b hb=>(hf b hb).1⟩⟩
 done:=by
  intro X hP hw hK hc i pins s σ H E I hf st hg
  subst hP hw hK
  have ⟨g0,g1,g2,g3,g4,g5⟩:=hf it (by simp)
  exact wpAny_pyNext_long_end (I.ok.hd hc) st (by have:n <= i:=hg;lia) fun h' eb=>⟨rfl,I.turned (t':=s.toks) (fun b o hb q=>eb b o hb q) g0 g1 g3 g4 g5⟩
 self:=fun _ _ _ _ _ st h=>wpAny_pyIter_longiter st h
section
variable {X:Cx} {tg:Expr}
theorem DR {pins:List (Addr × Obj)} {σ:St} {H:Hp} {s:Shared} {R:It -> Hp -> Prop} {E:Value -> Shared -> Prop} {lo hi:Int} {t u v:Tok} {tk:Nat} (I:Inv X pins σ H s) (q:R (Itr lo (hi - lo).toNat) H) :
  wpAny (model X.prog X.w) X.A (pyIter (.ref s.heap.objs.size)) (PIE X pins σ tg R) E { s with heap:=s.heap.push { cls:=.type "range",data:=.fields #[.int lo t,.int hi u,.int 1 v] },toks:=tk }:=by
 have J:Inv X pins σ H { s with heap:=s.heap.push { cls:=.type "range",data:=.fields #[.int lo t,.int hi u,.int 1 v] },toks:=tk }:=I.kept fun b o z=>OT _ z
 have hs:(((hi - lo).toNat:Nat):Int) - ((0:Nat):Int) = Builtin.Range.rangeSize lo hi 1:=by rw [rangeSize_one];split <;> lia
 have h0:lo + ((0:Nat):Int) * 1 = lo:=by simp
 cases hb:Builtin.Range.small lo hi 1 with
 | true=>
  refine wpAny_pyIter_range (IsRange.new ..) hb ?_
  refine ⟨_,[(s.heap.push { cls:=.type "range",data:=.fields #[.int lo t,.int hi u,.int 1 v] }).objs.size],_,_,H,rfl,J.kept (t':=tk) fun b o z=>OT _ z,tQ _ lo (hi - lo).toNat,?_,fun b hb=>?_,q⟩
  ·show IsRangeIter _ _ (lo + ((0:Nat):Int) * 1) ((((hi - lo).toNat:Nat):Int) - ((0:Nat):Int)) 1
   rw [h0,hs]
   exact O3 _ rfl
  ·have z:b = (s.heap.push { cls:=.type "range",data:=.fields #[.int lo t,.int hi u,.int 1 v] }).objs.size:=by simpa using hb
   subst z
   exact J.fpOk (OH _) (J.hok.fresh (OH _))
 | false=>
  refine wpAny_pyIter_longrange (IsRange.new ..) hb ?_
  refine ⟨_,[(s.heap.push { cls:=.type "range",data:=.fields #[.int lo t,.int hi u,.int 1 v] }).objs.size],_,_,H,rfl,J.kept (t':=tk) fun b o z=>OT _ z,D9 _ lo (hi - lo).toNat,?_,fun b hb=>?_,q⟩
  ·show IsLongIter _ _ (lo + ((0:Nat):Int) * 1) ((((hi - lo).toNat:Nat):Int) - ((0:Nat):Int)) 1
   rw [h0,hs]
   exact O3 _ rfl
  ·have z:b = (s.heap.push { cls:=.type "range",data:=.fields #[.int lo t,.int hi u,.int 1 v] }).objs.size:=by simpa using hb
   subst z
   exact J.fpOk (OH _) (J.hok.fresh (OH _))
noncomputable def IH (ta:TA):TI:=fun σ H R=>ta σ H fun vs H1=>∃ i j:Int,vs = [.int i,.int j] /\ R (Itr i (j - i).toNat) H1
theorem DJ {a b:Expr} {ta:TA} {p pos:Pos} (hg:Gl X "range") (hm:X.mg "range" = none) (ha:PA X [a,b] ta) (hs:starEach [a,b] X.env = [(false,eval a X.env),(false,eval b X.env)]:=by rfl) (hs2:starEach [b] X.env = [(false,eval b X.env)]:=by rfl) :
  PI X tg (.Call (.Name "range" p) [a,b] [] pos) (IH ta):=by
 intro pins s σ H R I h
 refine Call_ (mL I hg hm boot_range (RG (thn (ha pos pins s σ H _ I h) fun us s1 hpt9=>?_) (by rw [hs,hs2]) (by rw [hs2];rfl)))
 obtain ⟨vs,H1,I1,r1,q1⟩:=hpt9
 obtain ⟨i,j,rfl,q⟩:=q1
 obtain ⟨u1,u2,rfl,r,r'⟩:=Vals.two r1
 obtain ⟨t,rfl⟩:=r
 obtain ⟨t',rfl⟩:=r'
 exact call_range_2 (DR I1 q)
end
end L2
namespace M
open PySem L2
section
variable {K:W.Frag} {S S' H H':Hp}
noncomputable def Kg:List D -> Option (List D)
 | [.int i,.int j]=>some (fQ i (j - i).toNat)
 | _=>none
@[simp] noncomputable def GT (a:XA):XA:=fun ρ=>(a ρ).bind Kg
theorem JN {ta tb:TE} {a b:XE} (h:SPk K ta a) (hb:SPk K tb b):SI K (IH (eW ta (eW tb mV))) (GT (ad a (ad b av))):=fun ρ σ S H R l r x k=>by
 unfold GT at x
 cases q:ad a (ad b av) ρ with
 | none=>rw [q] at x;cases x
 | some ds=>
  rw [q] at x
  obtain ⟨d,e,qa,qb,rfl⟩:=gX q
  obtain ⟨d2,e2,qa2,qb2,rfl⟩:=gX qb
  cases qb2
  cases d <;> try (cases x;done)
  cases d2 <;> try (cases x;done)
  cases x
  refine h ρ σ S H _ _ r qa fun v S1 H1 z1 d1=>hb ρ σ S1 H1 _ _ (r.ext z1) qa2 fun w S2 H2 z2 d2=>?_
  exact ⟨_,_,by rw [d1.int,d2.int],k _ S2 H2 (z1.trans z2) (wa _ _)⟩
end
end M
namespace L2
open PySem PySem.Spec PyProof.Rows
section
variable {X:Cx} {tg:Expr}
end
end L2
namespace M
open PySem L2
section
variable {K:W.Frag} {S S' H H':Hp}
noncomputable def Kt (x:Str):List D:=x.cps.toList.map fun c=>D.str ⟨#[c]⟩
noncomputable def sgD:D -> Option (List D)
 | .str x=>some (Kt x)
 | _=>none
@[simp] noncomputable def Os (e:XE):XA:=fun ρ=>(e ρ).bind sgD
noncomputable def Mr (d:D) (lo hi:Option Int):Option D:=match d with
 | .str x=>if x.length <= LIM then some (.str (Txt.slice x lo hi)) else none
 | _=>none
@[simp] noncomputable def Ou (a:XE) (lo hi:XO):XE:=fun ρ=>(a ρ).bind fun d=>(lo ρ).bind fun l=>(hi ρ).bind fun h=>Mr d l h
end
end M
namespace L2
open PySem
end L2
namespace L2
open PySem PySem.Spec PyProof.Rows
section
variable {X:Cx}
inductive PJ (X:Cx):List Expr -> List TE -> Prop
 | nil:PJ X [] []
 | cons {e:Expr} {t:TE} {es:List Expr} {ts:List TE}:PE X e t -> PJ X es ts -> PJ X (e :: es) (t :: ts)
end
end L2
namespace M
open PySem L2
section
variable {K:W.Frag} {S S' H H':Hp}
noncomputable def fvD:D -> Option D
 | .int i=>if i.natAbs.log2 < 1920 then some (.str (toString i)) else none
 | .str y=>if y.length <= LIM then some (.str y) else none
 | _=>none
@[simp] noncomputable def xFv (e:XE):XE:=fun ρ=>(e ρ).bind fvD
inductive SJ (K:W.Frag):List TE -> List XE -> Prop
 | nil:SJ K [] []
 | cons {t:TE} {a:XE} {ts:List TE} {as:List XE}:SPk K t a -> SJ K ts as -> SJ K (t :: ts) (a :: as)
end
end M
namespace L2
open PySem PySem.Spec PyProof.Rows
section
variable {M:Model} {A:Around} {Ex:Value -> Shared -> Prop} {s:Shared}
end
section
variable {P:Program} {w:World} {K:W.Frag} {mg:Str -> Option Value} {base:Heap} {N:List Str} {qual:Str} {scope:Scope} {f:Addr} {cdv:Value} {A:Around} {outer:List Env} {s:Shared} {H:Hp} {E:XK}
end
section
variable {X:Cx} {pins:List (Addr × Obj)} {σ:St} {H:Hp} {s:Shared} {XN N:List Str} {sc scope:Scope} {js:List (Option Nat)}
variable {tg iter elt:Expr} {ifs:List Expr} {pos:Pos} {wi:TI} {g:TG} {tt:TIf} {te:TE} {E:XK}
end
section
variable {X:Cx}
end
end L2
namespace M
open PySem L2
section
variable {K:W.Frag} {S S' H H':Hp} {E:XK}
@[simp] noncomputable def Oy (m:XS):XR:=fun ρ=>match m ρ with | some (.nx ρ')=>some (.nx ρ') | _=>none
@[simp] noncomputable def Oz (n:Env -> Option Str) (m:XS):XR:=fun ρ=>match n ρ with | some N=>some (.rz N) | none=>(match m ρ with | some (.nx ρ')=>some (.nx ρ') | _=>none)
@[simp] noncomputable def M9 (m:Env -> Option Str):Env -> Option Str:=m
@[simp] noncomputable def Na (e:XE) (m:Env -> Option Str):Env -> Option Str:=fun ρ=>(e ρ).bind fun _=>m ρ
@[simp] noncomputable def Ow (n:Env -> Option Str) (e:XE) (m:Env -> Option Str):Env -> Option Str:=fun ρ=>match n ρ with | some N=>some N | none=>(e ρ).bind fun _=>m ρ
@[simp] noncomputable def NY (i:Nat) (m:Env -> Option Str):Env -> Option Str:=fun ρ=>match ρ[i]? with | some (.ow (.lst _))=>m ρ | _=>none
noncomputable def Eo (g:XG) (c:XT) (e:XE) (n:Env -> Option Str) (ρ0:Env):List D -> Option Str
 | []=>none
 | d :: l=>(g d ρ0).bind fun ρ1=>(c ρ1).bind fun b=>if b = true then (match n ρ1 with | some N=>some N | none=>(e ρ1).bind fun _=>Eo g c e n ρ0 l) else Eo g c e n ρ0 l
@[simp] noncomputable def Nc (js:List (Option Nat)) (w:XA) (g:XG) (c:XT) (e:XE) (n:Env -> Option Str):Env -> Option Str:=fun ρ=>(w ρ).bind fun l=>if l.length <= LIM then Eo g c e n (qw js ρ) l else none
noncomputable def IL (g:XG) (m:XR):List D -> Env -> Option RO
 | [],ρ=>some (.nx ρ)
 | d :: l,ρ=>(g d ρ).bind fun ρ1=>(m ρ1).bind fun o=>match o with | .nx ρ2=>IL g m l ρ2 | .rz N=>some (.rz N)
@[simp] noncomputable def NZ (e:XA) (g:XG) (m:XR):XR:=fun ρ=>(e ρ).bind fun l=>IL g m l ρ
end
end M
namespace L2
open PySem
end L2
namespace L2
open PySem PySem.Spec PyProof.Rows
section
variable {κ:Type} [DecidableEq κ]
noncomputable def jM (kvs:List (κ × V)) (k:κ):Option V:=(kvs.find? fun kv=>decide (kv.1 = k)).map (·.2)
noncomputable def iC (kvs:List (κ × V)) (k:κ) (v:V):List (κ × V):=
 if (kvs.any fun kv=>decide (kv.1 = k)) = true then kvs.map (fun kv=>if kv.1 = k then (kv.1,v) else kv) else kvs ++ [(k,v)]
noncomputable def u3 (kvs:List (κ × V)) (k:κ):List (κ × V):=kvs.filter fun kv=>decide (kv.1 ≠ k)
theorem kU {p:κ × V} {r:List (κ × V)} {k:κ} (e:p.1 = k):jM (p :: r) k = some p.2:=by simp [jM,QX,e]
theorem kT {p:κ × V} {r:List (κ × V)} {k:κ} (e:¬ p.1 = k):jM (p :: r) k = jM r k:=by simp [jM,QX,e]
theorem n4 (k:κ):∀ kvs:List (κ × V),(kvs.any fun kv=>decide (kv.1 = k)) = (jM kvs k).isSome
 | []=>rfl
 | p :: r=>by
  rw [QP]
  by_cases e:p.1 = k
  ·simp only [kU e,Pr e,Bool.true_or,Option.isSome_some]
  ·rw [kT e,Pf e,Bool.false_or];exact n4 k r
theorem hZ (kvs:List (κ × V)) (k:κ) (v:V):(iC kvs k v).length <= kvs.length + 1:=by
 unfold iC
 split
 ·rw [OJ];lia
 ·rw [OM,OL,RQ];lia
theorem FK {kvs:List (κ × V)} {k:κ} (v:V) (h:jM kvs k = none):iC kvs k v = kvs ++ [(k,v)]:=by
 unfold iC
 rw [n4,h]
 exact OB (by decide)
theorem RelO.isSome_eq {o:Option V} {u:Option Value} (r:RelO o u):o.isSome = u.isSome:=by
 cases o with
 | none=>cases u with
  | none=>rfl
  | some _=>exact (show False from r).elim
 | some _=>cases u with
  | none=>exact (show False from r).elim
  | some _=>rfl
theorem KV.val {kvs:List (κ × V)} {vs:List (κ × Value)} (r:KV kvs vs) (k:κ):RelO (jM kvs k) (valueAt vs k):=by
 unfold KV at r
 induction r with
 | nil=>exact True.intro
 | @cons p q ps qs h t ih=>
  obtain ⟨h1,h2⟩:=h
  by_cases e:p.1 = k
  ·have e':q.1 = k:=h1.symm.trans e
   have b:valueAt (q :: qs) k = some q.2:=by simp [valueAt,QX,e']
   rw [kU e,b];exact h2
  ·have e':¬ q.1 = k:=fun z=>e (h1.trans z)
   have b:valueAt (q :: qs) k = valueAt qs k:=by simp [valueAt,QX,e']
   rw [kT e,b];exact ih
theorem KV.any {kvs:List (κ × V)} {vs:List (κ × Value)} (r:KV kvs vs) (k:κ):(kvs.any fun kv=>decide (kv.1 = k)) = vs.any fun kv=>decide (kv.1 = k):=by
 unfold KV at r
 induction r with
 | nil=>rfl
 | cons h t ih=>rw [QP,QP,ih,h.1]
theorem KV.repl {kvs:List (κ × V)} {vs:List (κ × Value)} (r:KV kvs vs) (k:κ) {y:V} {u:Value} (ry:RelV y u) :
  KV (kvs.map fun kv=>if kv.1 = k then (kv.1,y) else kv) (vs.map fun kv=>if kv.1 = k then (kv.1,u) else kv):=by
 unfold KV at r ⊢
 induction r with
 | nil=>exact .nil
 | @cons p q ps qs h t ih=>
  rw [OQ,OQ]
  refine .cons ?_ ih
  obtain ⟨h1,h2⟩:=h
  by_cases e:p.1 = k
  ·rw [OC e,OC (h1.symm.trans e)];exact ⟨h1,ry⟩
  ·rw [OB e,OB (fun z=>e (h1.trans z))];exact ⟨h1,h2⟩
theorem KV.put {kvs:List (κ × V)} {vs:List (κ × Value)} (r:KV kvs vs) (k:κ) {y:V} {u:Value} (ry:RelV y u):KV (iC kvs k y) (stored vs k u):=by
 unfold iC stored
 rw [r.any k]
 by_cases e:(vs.any fun kv=>decide (kv.1 = k)) = true
 ·rw [OC e,OC e];exact r.repl k ry
 ·rw [OB e,OB e];exact Paired.snoc r ⟨rfl,ry⟩
theorem KV.length {kvs:List (κ × V)} {vs:List (κ × Value)} (r:KV kvs vs):kvs.length = vs.length:=P7 r
theorem EC (kvs:List (κ × V)) (k:κ):(u3 kvs k).length <= kvs.length:=Rt _ _
end
theorem B8 {P:Program} {w:World} {k:Key} {u:Value} (r:RelV (kV k) u):(bp P w).is k u = true:=by
 cases k with
 | inl i=>obtain ⟨t,e⟩:=(show ∃ t,u = Value.int i t from r);subst e;exact yO P w i t
 | inr x=>obtain ⟨t,e⟩:=(show ∃ t,u = Value.str x t from r);subst e;exact yP P w x t
theorem vk {P:Program} {w:World}:∀ {ks:List Key} {us:List Value},Vals (ks.map kV) us -> ItemsAre (bp P w) ks us
 | [],_,r=>by rw [Qa] at r;cases r;exact .nil
 | k :: ks,_,r=>by
  rw [OQ] at r
  cases r with
  | cons h t=>exact .cons (B8 h) (vk t)
noncomputable abbrev KT (H:Hp):List (List Key × V) -> List (List Key × Addr × Value) -> Prop:=Paired fun p q=>p.1 = q.1 /\ H q.2.1 = some (.tup (p.1.map kV)) /\ RelV p.2 q.2.2
theorem KT.val {H:Hp} {kvs:List (List Key × V)} {xs:List (List Key × Addr × Value)} (r:KT H kvs xs) (k:List Key):RelO (jM kvs k) ((atKey xs k).map (·.2)):=by
 induction r with
 | nil=>exact True.intro
 | @cons p q ps qs h t ih=>
  obtain ⟨h1,_,h2⟩:=h
  by_cases e:p.1 = k
  ·have e':q.1 = k:=h1.symm.trans e
   have b:atKey (q :: qs) k = some q.2:=by simp [atKey,QX,e']
   rw [kU e,b];exact h2
  ·have e':¬ q.1 = k:=fun z=>e (h1.trans z)
   have b:atKey (q :: qs) k = atKey qs k:=by simp [atKey,QX,e']
   rw [kT e,b];exact ih
theorem KT.repl {H:Hp} {kvs:List (List Key × V)} {xs:List (List Key × Addr × Value)} (r:KT H kvs xs) (k:List Key) {y:V} {u:Value} (ry:RelV y u) :
  KT H (kvs.map fun kv=>if kv.1 = k then (kv.1,y) else kv) (xs.map (putAt k u)):=by
 induction r with
 | nil=>exact .nil
 | @cons p q ps qs h t ih=>
  rw [OQ,OQ]
  refine .cons ?_ ih
  obtain ⟨h1,h2,h3⟩:=h
  unfold putAt
  by_cases e:p.1 = k
  ·rw [OC e,OC (h1.symm.trans e)];exact ⟨h1,h2,ry⟩
  ·rw [OB e,OB (fun z=>e (h1.trans z))];exact ⟨h1,h2,h3⟩
theorem KT.put {H:Hp} {kvs:List (List Key × V)} {xs:List (List Key × Addr × Value)} (r:KT H kvs xs) (k:List Key) {b:Addr} {y:V} {u:Value} (hb:H b = some (.tup (k.map kV))) (ry:RelV y u) :
  KT H (iC kvs k y) (storedH xs k b u):=by
 have e:(kvs.any fun kv=>decide (kv.1 = k)) = (atKey xs k).isSome:=by
  rw [n4,(r.val k).isSome_eq,Option.isSome_map]
 unfold iC storedH
 rw [e]
 by_cases q:(atKey xs k).isSome = true
 ·rw [OC q,OC q];exact r.repl k ry
 ·rw [OB q,OB q];exact Paired.snoc r ⟨rfl,hb,ry⟩
theorem KT.keeps {H H':Hp} {kvs:List (List Key × V)} {xs:List (List Key × Addr × Value)} (r:KT H kvs xs) (ht:∀ b ys,H b = some (.tup ys) -> H' b = some (.tup ys)):KT H' kvs xs:=
 Paired.mapP r fun _ _ z=>⟨z.1,ht _ _ z.2.1,z.2.2⟩
section
variable {P:Program} {w:World} {H:Hp} {h:Heap} {a:Addr}
theorem dM {u:HO} (ok:HOk P w H h) (e:Rd H a u):ObjOk P w H h a u:=e.ok ok
theorem EB {kvs:List (Key × V)} (ok:HOk P w H h) (e:Rd H a (.dK kvs)):kvs.length <= sizeLine /\ (a == sysModules) = false /\ ∃ vs,KV kvs vs /\ h.DictOf (bp P w) a vs:=
 show ObjOk P w H h a (.dK kvs) from dM ok e
theorem KW {kvs:List (Key × V)} (ok:HOk P w H h) (e:H a = some (.dK kvs)):kvs.length <= sizeLine /\ (a == sysModules) = false /\ ∃ vs,KV kvs vs /\ h.DictOf (bp P w) a vs:=EB ok (.inl e)
theorem oU {ks:List Key} (ok:HOk P w H h) (e:H a = some (.tup (ks.map kV))):(tupleKind (bp P w)).is h ks a:=by
 obtain ⟨_,its,r,o,h1,h2,n,h3⟩:=(show ObjOk P w H h a (.tup (ks.map kV)) from ok a _ e)
 exact ⟨o,its.toArray,n,h1,h2,h3,by simpa using vk r⟩
theorem B1 {kvs:List (List Key × V)} (ok:HOk P w H h) (e:Rd H a (.dT kvs)):kvs.length <= sizeLine /\ (a == sysModules) = false /\
  ∃ xs,KT H kvs xs /\ h.DictOfH (tupleKind (bp P w)) a xs:=by
 obtain ⟨z,y,xs,r,o,es,ep,h1,h2,h3,h4,h5⟩:=(show ObjOk P w H h a (.dT kvs) from dM ok e)
 refine ⟨z,y,xs,r,o,es,ep,h1,h2,h3,h4,fun x hx=>?_,h5⟩
 have all:∀ {l:List (List Key × V)} {m:List (List Key × Addr × Value)},KT H l m -> ∀ x ∈ m,(tupleKind (bp P w)).is h x.1 x.2.1:=by
  intro l m q
  induction q with
  | nil=>intro x hx;exact nomatch hx
  | @cons p q ps qs hq t ih=>
   intro x hx
   rcases OP.mp hx with e | hx
   ·subst e
    exact oU ok (by rw [<- hq.1];exact hq.2.1)
   ·exact ih x hx
 exact all r x hx
theorem ED {kvs:List (List Key × V)} (ok:HOk P w H h) (e:H a = some (.dT kvs)):kvs.length <= sizeLine /\ (a == sysModules) = false /\
  ∃ xs,KT H kvs xs /\ h.DictOfH (tupleKind (bp P w)) a xs:=B1 ok (.inl e)
end
def GV (H:Hp) (a:Addr) (y:V) (r:Option V):Prop:=
 (∃ kvs k,Rd H a (.dK kvs) /\ y = kV k /\ r = jM kvs k) \/ ∃ kvs k b,Rd H a (.dT kvs) /\ y = .ref b /\ H b = some (.tup (k.map kV)) /\ r = jM kvs k
def KJ (H:Hp) (a:Addr) (y v:V) (H':Hp):Prop:=
 (∃ kvs k,H a = some (.dK kvs) /\ y = kV k /\ kvs.length < sizeLine /\ H' = upd H a (.dK (iC kvs k v))) \/
 ∃ kvs k b,H a = some (.dT kvs) /\ y = .ref b /\ H b = some (.tup (k.map kV)) /\ kvs.length < sizeLine /\ H' = upd H a (.dT (iC kvs k v))
section
variable {X:Cx} {pins:List (Addr × Obj)} {σ:St} {H:Hp} {s:Shared} {a:Addr} {y v:V} {u r:Value} {o:Option V} {A:Around} {E:Value -> Shared -> Prop}
theorem Inv.big (I:Inv X pins σ H s):sysModules < s.heap.objs.size:=by
 have h:mainGlobals < s.heap.objs.size:=(I.mod.glob.keeps I.bk).lt
 exact Rr (by decide) h
theorem Ms {Q:Value -> Shared -> Prop} (hu:A.units + 1 < cLine) (I:Inv X pins σ H s) (g:GV H a y o) (ry:RelV y u) (h:∀ s',Inv X pins σ H s' -> Q (.bool o.isSome) s') :
  wpAny (model X.prog X.w) A (compareOp .In u (.ref a)) Q E s:=by
 rcases g with ⟨kvs,k,e,ey,l⟩ | ⟨kvs,k,b,e,ey,eb,l⟩
 ·subst ey
  obtain ⟨z,hd,vs,rel,dd⟩:=EB I.hok e
  refine wpAny_in_of (B8 ry) hd dd.mapOf ?_
  rw [<- (rel.val k).isSome_eq,<- l]
  exact h _ (I.tok _)
 ·subst ey
  cases (show u = Value.ref b from ry)
  obtain ⟨z,hd,xs,rel,dd⟩:=B1 I.hok e
  refine wpAny_in_heap (Ru hu) (oU I.hok eb) hd dd ?_
  have q:=(rel.val k).isSome_eq
  rw [Option.isSome_map] at q
  rw [<- q,<- l]
  exact h _ (I.tok _)
theorem Hb {Q:Value -> Shared -> Prop} (hu:A.units + 1 < cLine) (I:Inv X pins σ H s) (g:GV H a y o) (ry:RelV y u) (h:∀ s',Inv X pins σ H s' -> Q (.bool (!o.isSome)) s') :
  wpAny (model X.prog X.w) A (compareOp .NotIn u (.ref a)) Q E s:=by
 rcases g with ⟨kvs,k,e,ey,l⟩ | ⟨kvs,k,b,e,ey,eb,l⟩
 ·subst ey
  obtain ⟨z,hd,vs,rel,dd⟩:=EB I.hok e
  refine wpAny_notIn_of (B8 ry) hd dd.mapOf ?_
  rw [<- (rel.val k).isSome_eq,<- l]
  exact h _ (I.tok _)
 ·subst ey
  cases (show u = Value.ref b from ry)
  obtain ⟨z,hd,xs,rel,dd⟩:=B1 I.hok e
  refine wpAny_notIn_heap (Ru hu) (oU I.hok eb) hd dd ?_
  have q:=(rel.val k).isSome_eq
  rw [Option.isSome_map] at q
  rw [<- q,<- l]
  exact h _ (I.tok _)
theorem nr {h':Heap} {t':Nat} {ob:HO} (I:Inv X pins σ H s) (mu:Mut (H a)) (hs:Heap.SameBut a s.heap h') (he:∃ q,h'.get? a = some q) (new:ObjOk X.prog X.w (upd H a ob) h' a ob) :
  Inv X pins σ (upd H a ob) { s with heap:=h',toks:=t' }:=
 I.write (x:=a) (e:=a) mu (.inl rfl) (fun b q hb z=>(hs.2 b hb).trans z) he new
theorem JF {P:Program} {w:World} {H':Hp} {h':Heap} {kvs:List (Key × V)} {vs:List (Key × Value)} (z:kvs.length <= sizeLine) (hd:(a == sysModules) = false) (rel:KV kvs vs) (dd:h'.DictOf (bp P w) a vs) :
  ObjOk P w H' h' a (.dK kvs):=⟨z,hd,vs,rel,dd⟩
theorem Da {H':Hp} {Q:Unit -> Shared -> Prop} (hu:A.units + 1 < cLine) (I:Inv X pins σ H s) (g:KJ H a y v H') (ry:RelV y u) (rv:RelV v r) (h:∀ s',Inv X pins σ H' s' -> Q () s') :
  wpAny (model X.prog X.w) A (setItem (.ref a) u r) Q E s:=by
 rcases g with ⟨kvs,k,e,ey,l,eH⟩ | ⟨kvs,k,b,e,ey,eb,l,eH⟩
 ·subst ey eH
  obtain ⟨z,hd,vs,rel,dd⟩:=KW I.hok e
  have hz:vs.length <= sizeLine:=by rw [<- rel.length];exact z
  have hl:(iC kvs k v).length <= sizeLine:=by have:=hZ kvs k v;lia
  refine wpAny_setItem_pairs (hsz:=hz) (B8 ry) dd fun h' dd' hs=>h _ ?_
  have he:∃ q,h'.get? a = some q:=let ⟨q,_,_,hq,_⟩:=dd';⟨q,hq⟩
  exact nr I (by rw [e];exact True.intro) hs he (JF hl hd (rel.put k rv) dd')
 ·subst ey eH
  cases (show u = Value.ref b from ry)
  obtain ⟨z,hd,xs,rel,dd⟩:=ED I.hok e
  have hz:xs.length <= sizeLine:=by rw [<- P7 rel];exact z
  have hl:(iC kvs k v).length <= sizeLine:=by have:=hZ kvs k v;lia
  refine wpAny_setItem_heap (hsz:=hz) (Ru hu) (oU I.hok eb) dd fun h' dd' hs=>h _ ?_
  obtain ⟨q,es,ep,hq,h2,h3,h4,_,h5⟩:=dd'
  refine nr I (by rw [e];exact True.intro) hs ⟨q,hq⟩ ⟨hl,hd,_,(rel.put k eb rv).keeps fun c ys ec=>?_,q,es,ep,hq,h2,h3,h4,h5⟩
  rw [aD (vA ec e (fun z=>nomatch z))]
  exact ec
end
section
variable {X:Cx} {pins:List (Addr × Obj)} {σ:St} {H:Hp} {s:Shared} {a:Addr} {kvs:List (Key × V)} {k:Key} {u:Value} {A:Around} {E:Value -> Shared -> Prop}
end
noncomputable def LO (ty td:TE):TE:=fun σ H Q=>ty σ H fun y H1=>td σ H1 fun x H2=>∃ a o,x = .ref a /\ GV H2 a y o /\ Q (.bl o.isSome) H2
noncomputable def CI (ty td:TE):TE:=fun σ H Q=>ty σ H fun y H1=>td σ H1 fun x H2=>∃ a o,x = .ref a /\ GV H2 a y o /\ Q (.bl (!o.isSome)) H2
noncomputable def I0 (td ty tv:TE):TS:=fun D σ H=>tv σ H fun v H1=>td σ H1 fun x H2=>ty σ H2 fun y H3=>∃ a H4,x = .ref a /\ KJ H3 a y v H4 /\ D.nx σ H4
section
variable {X:Cx} {o i e value:Expr} {pos pos' tpos:Pos} {td ty tv:TE}
theorem Fu (hu:X.A.units + 1 < cLine) (hi:PE X i ty) (ho:PE X o td):PC X .In i o (LO ty td):=by
 intro pins s σ H Q I h
 refine thn (hi pins s σ H _ I h) fun iv s1 ⟨y,H1,I1,ry,q1⟩=>thn (ho pins s1 σ H1 _ I1 q1) fun u s2 hpt9=>?_
 obtain ⟨x,H2,I2,rx,a,ov,ex,g,q2⟩:=hpt9
 subst ex
 obtain rfl:u = Value.ref a:=rx
 exact Ms hu I2 g ry fun s3 I3=>⟨.bl ov.isSome,H2,I3,rfl,q2⟩
theorem vG (hu:X.A.units + 1 < cLine) (hi:PE X i ty) (ho:PE X o td):PC X .NotIn i o (CI ty td):=by
 intro pins s σ H Q I h
 refine thn (hi pins s σ H _ I h) fun iv s1 ⟨y,H1,I1,ry,q1⟩=>thn (ho pins s1 σ H1 _ I1 q1) fun u s2 hpt9=>?_
 obtain ⟨x,H2,I2,rx,a,ov,ex,g,q2⟩:=hpt9
 subst ex
 obtain rfl:u = Value.ref a:=rx
 exact Hb hu I2 g ry fun s3 I3=>⟨.bl (!ov.isSome),H2,I3,rfl,q2⟩
theorem HQ (hu:X.A.units + 1 < cLine) (ho:PE X o td) (hi:PE X i ty) (hv:PE X value tv) (hs:swapsWith value (some (.Subscript o i pos')) pos.line X.env = pure false) :
  PS X (.Assign [.Subscript o i pos'] value pos) (I0 td ty tv):=by
 intro pins s σ H D I h
 refine wpAny_Assign_Subscript (thn (hv pins s σ H _ I h) fun r s1 ⟨v,H1,I1,rv,q1⟩=>thn (ho pins s1 σ H1 _ I1 q1) fun u s2 ⟨x,H2,I2,rx,q2⟩=>thn (hi pins s2 σ H2 _ I2 q2) fun iv s3 hpt9=>?_) hs
 obtain ⟨y,H3,I3,ry,a,H4,ex,g,q3⟩:=hpt9
 subst ex
 obtain rfl:u = Value.ref a:=rx
 exact Da hu I3 g ry rv fun s4 I4=>⟨σ,H4,I4,q3⟩
end
theorem yj {P:Program} {w:World} {H:Hp} (h:Heap) (hb:sysModules < h.objs.size):ObjOk P w H (h.push { cls:=.type "dict",data:=.dict #[] }) h.objs.size (.dT []):=
 ⟨Pl _,beq_eq_false_iff_ne.mpr (O8 (OX hb)),[],.nil,_,#[],0,O3 _ rfl,⟨rfl,rfl,rfl⟩,rfl,rfl,List.nodup_nil⟩
noncomputable def Gu:TE:=fun _ H Q=>∀ p,H p = none -> Q (.ref p) (upd H p (.dT []))
section
variable {X:Cx} {pos:Pos}
theorem Fv:PE X (.Dict [] [] pos) Gu:=fun pins s σ H Q I h=>
 wpAny_Dict_empty ⟨.ref s.heap.objs.size,_,I.laid (a:=s.heap.objs.size) (o:=.dT []) (t':=s.toks) (fun _ _ q=>OT _ q) (OH _) (yj s.heap I.big),rfl,h _ (I.hok.fresh (OH _))⟩
end
section
variable {X:Cx} {pins:List (Addr × Obj)} {σ:St} {H:Hp} {s:Shared} {a:Addr} {y d:V} {u r:Value} {o:Option V} {A:Around} {E:Value -> Shared -> Prop}
end
section
variable {X:Cx} {o e f:Expr} {apos cpos:Pos} {td ty tx:TE}
end
end L2
namespace PySem
namespace DX
theorem wW:typeLookup (.type "list") "keys" = pure none:=by rw [QG,QH];kernel_rfl
theorem AS:typeLookup (.type "list") "__getattr__" = pure none:=by rw [QG,QH];kernel_rfl
theorem l9:isSubtype (.type "AttributeError") (.type "AttributeError") = pure true:=by rw [QY];kernel_rfl
theorem AG:((Manifest.find? "AttributeError").elim false fun t=>t.mro.contains "StopIteration" || t.mro.contains "SystemExit") = false:=by first | rfl | kernel_rfl | decide +kernel
section
variable {prog:Program} {w:World} {A:Around} {E:Value -> Shared -> Prop} {s:Shared} {a:Addr} {its:Array Value} {n:Nat} {α:Type}
theorem DQ {msg nm:Str} {Q:α -> Shared -> Prop} (hh:A.handled = none) (hm:msg.length <= sizeLine) (hq:∀ h' tk' e oe,(∀ b o,s.heap.get? b = some o -> h'.get? b = some o) -> h'.get? e = some oe -> oe.cls = .type "AttributeError" -> E (.ref e) { s with heap:=h',toks:=tk' }) :
  wpAny (model prog w) A (raiseAttrError (.ref a) nm msg:Sem α) Q E s:=by
 unfold raiseAttrError
 refine OA (wpAny_mkStr (OA ?_) hm)
 unfold newExc newTuple
 refine OA (Ps ?_ (by size_fits))
 refine OA (m:=firstArgMember _ _) (Qq (a:=Value.none) (by simp only [firstArgMember,AG];rfl) ?_)
 refine Ps ?_ (by size_fits)
 refine OA (wpAny_mkText ?_)
 refine OA ?_
 have f1:=l9
 unfold noteAttr lacksNameAndObj
 have ho:=O3 (s.heap.push { cls:=.type "tuple",data:=.seq [Value.str msg s.toks].toArray }) (o:={ cls:=.type "AttributeError",data:=.fields (#[.ref s.heap.objs.size,.none,.none,.none,.bool false,.none] ++ ownMembersOf (.type "AttributeError") [Value.str msg s.toks]) }) rfl
 have hT:({ s with heap:=(s.heap.push { cls:=.type "tuple",data:=.seq [Value.str msg s.toks].toArray }).push { cls:=.type "AttributeError",data:=.fields (#[.ref s.heap.objs.size,.none,.none,.none,.bool false,.none] ++ ownMembersOf (.type "AttributeError") [Value.str msg s.toks]) } }:Shared).TypeIs (.ref (s.heap.push { cls:=.type "tuple",data:=.seq [Value.str msg s.toks].toArray }).objs.size) "AttributeError" := ⟨_,ho,rfl⟩
 repeat (any_goals (first | assumption | wp_step))
 unfold raiseNew
 refine OA (wpAny_handled ?_)
 rw [hh]
 first
  | refine QZ ?_
  | refine OA (OE (QZ ?_))
 have hu:=Pt (Obj.mapFields fun vs=>vs.extract 0 6 ++ #[Value.str nm s.toks,.ref a]) ho (Rv (Qr rfl _))
 refine hq _ _ _ _ (fun b o hb=>?_) (Pt _ ho (Rv (Qr rfl _))) (RS _ _)
 rw [RK _ _ (Qh (Pa (OS hb) (by simp)))]
 exact OT _ (OT _ hb)
theorem qC {tk:Tok} {Q:Fin -> Shared -> Prop} (hh:A.handled = none) (hx:s.heap.get? a = some { cls:=.type "list",data:=.seq its n }) (hq:∀ h' tk' e oe,(∀ b o,s.heap.get? b = some o -> h'.get? b = some o) -> h'.get? e = some oe -> oe.cls = .type "AttributeError" -> E (.ref e) { s with heap:=h',toks:=tk' }) :
  wpAny (model prog w) A (Builtin.«object.__getattribute__» ⟨[.ref a,.str "keys" tk],[]⟩) Q E s:=by
 obtain ⟨h,g,d,t,os⟩:=s
 have hT:(⟨h,g,d,t,os⟩:Shared).TypeIs (.ref a) "list" := ⟨_,hx,rfl⟩
 have f4:=wW
 repeat (any_goals (first | assumption | wp_step))
 all_goals (try dsimp only)
 repeat (any_goals (first | assumption | wp_step))
 exact DQ hh (by rw [O2];decide +kernel) hq
theorem Dt {Q:Option Value -> Shared -> Prop} (hh:A.handled = none) (hx:s.heap.get? a = some { cls:=.type "list",data:=.seq its n }) (hq:∀ h' tk',(∀ b o,s.heap.get? b = some o -> h'.get? b = some o) -> Q none { s with heap:=h',toks:=tk' }) :
  wpAny (model prog w) A (getAttr? (.ref a) "keys") Q E s:=by
 obtain ⟨h,g,d,t,os⟩:=s
 have hT:(⟨h,g,d,t,os⟩:Shared).TypeIs (.ref a) "list" := ⟨_,hx,rfl⟩
 have f2:=RT.lookup
 have f3:=RT.bind (.ref a)
 have f5:=AS
 have f6:=l9
 unfold getAttr? getAttrBy? getAttrBy getAttrByItsOwn callGetattribute boundAndCalled
 repeat (any_goals (first | assumption | wp_step))
 refine Si RT.plain F.entry_list_ga (RT.check _ _ _ _ _ _ _ _ hT (F.args_list_getattribute_2 _ _) (qC (by exact hh) hx fun h' tk' e oe hk he hc=>?_))
 have hTe:(⟨h',g,d,tk',os⟩:Shared).TypeIs (.ref e) "AttributeError" := ⟨oe,he,hc⟩
 dsimp only
 unfold getattributeRaised
 refine OA (Q0 (T := "AttributeError") (b:=true) hTe f6 ?_)
 rw [OC rfl]
 refine OA ?_
 unfold hookBehind
 rw [OB (by decide)]
 refine Qq f5 ?_
 unfold hookOrError
 dsimp only
 unfold attributeErrorLeaves
 simp only [Bool.not_false,if_true]
 first
  | refine QZ ?_
  | refine OA (QZ ?_)
 refine OA (Q0 (T := "AttributeError") (b:=true) hTe f6 ?_)
 rw [OC rfl]
 exact OE (hq h' tk' hk)
end
theorem rY:entryFor table "dict.update.loop" = some Builtin.«dict.update.loop»:=entryFor_of_tree (by kernel_rfl)
theorem jG:plainId "dict.update.loop" = true:=by decide +kernel
end DX
end PySem
namespace L2
open PySem PySem.Spec PyProof.Rows
section
variable {X:Cx} {pins:List (Addr × Obj)} {σ:St} {H:Hp} {s:Shared} {a b:Addr} {kvs:List (List Key × V)} {k:List Key} {v:V} {r:Value} {A:Around} {E:Value -> Shared -> Prop}
theorem Hc {Q:Unit -> Shared -> Prop} (hu:(tupleKind (bp X.prog X.w)).room A) (I:Inv X pins σ H s) (e:H a = some (.dT kvs)) (eb:H b = some (.tup (k.map kV))) (l:kvs.length < sizeLine) (rv:RelV v r)
  (h:∀ s',Inv X pins σ (upd H a (.dT (iC kvs k v))) s' -> Q () s'):wpAny (model X.prog X.w) A (dictSet a (.ref b) r) Q E s:=by
 obtain ⟨z,hd,xs,rel,dd⟩:=ED I.hok e
 have hz:xs.length <= sizeLine:=by rw [<- P7 rel];exact z
 have hl:(iC kvs k v).length <= sizeLine:=by have:=hZ kvs k v;lia
 refine wpAny_dictSet_heap (hsz:=hz) hu (oU I.hok eb) dd fun h' dd' hs=>h _ ?_
 obtain ⟨q,es,ep,hq,h2,h3,h4,_,h5⟩:=dd'
 refine nr I (by rw [e];exact True.intro) hs ⟨q,hq⟩ ⟨hl,hd,_,(rel.put k eb rv).keeps fun c ys ec=>?_,q,es,ep,hq,h2,h3,h4,h5⟩
 rw [aD (vA ec e (fun z=>nomatch z))]
 exact ec
end
noncomputable def kO (kvs:List (List Key × V)) (es:List (List Key × V)):List (List Key × V):=es.foldl (fun acc kv=>iC acc kv.1 kv.2) kvs
section
variable {X:Cx} {pins:List (Addr × Obj)} {σ:St} {A:Around} {a l it:Addr} {xs:List V}
theorem zW {R:Result -> Shared -> Prop} (hu:(tupleKind (bp X.prog X.w)).room A.in1) (hh:A.in1.handled = none):∀ (es:List (Addr × Addr × List Key × V)) (i:Nat) (kvs:List (List Key × V)) (H:Hp) (s:Shared),Inv X pins σ H s -> H a = some (.dT kvs) ->
  rp X pins H it -> s.heap.IsListIter it l i -> H l = some (.lst xs) -> xs.drop i = es.map (fun e=>V.ref e.1) -> (∀ e ∈ es,H e.1 = some (.tup [.ref e.2.1,e.2.2.2]) /\ H e.2.1 = some (.tup (e.2.2.1.map kV))) -> kvs.length + es.length < sizeLine ->
  (∀ s',Inv X pins σ (upd H a (.dT (kO kvs (es.map fun e=>(e.2.2.1,e.2.2.2))))) s' -> R (.ok (.ret .none)) s') ->
  codeAny (model X.prog X.w) A (.builtin "dict.update.loop" ⟨[.ref a,.ref it,rawInt i,.none],[]⟩) R s
 | [],i,kvs,H,s,I,ea,fo,hit,el,hd,_,_,hR=>by
  obtain ⟨its,rl,pl,_⟩:=I.list (.inl (.inl el))
  have hx:its.toArray[i]? = none:=by
   have h1:xs.length <= i:=by
    have:=OZ List.length hd
    rw [RJ] at this
    simpa [Nat.sub_eq_zero_iff_le] using this
   have:=rl.length
   simp
   lia
  refine Qs DX.rY ?_
  rw [QI DX.jG _]
  show wpAny _ A.in1 (pyNext (.ref it) >>= _) _ _ s
  refine OA (wpAny_pyNext_list_end hh hit pl.isList hx fun h' he=>?_)
  show wpAny _ A.in1 (Builtin.Dict.addKeywords a [] >>= _) _ _ _
  refine OA (OE (OE (hR _ ?_)))
  have e0:upd H a (.dT (kO kvs (([]:List (Addr × Addr × List Key × V)).map fun e=>(e.2.2.1,e.2.2.2)))) = H:=by
   funext c
   unfold upd
   split
   ·rename_i z;rw [z,ea];rfl
   ·rfl
  rw [e0]
  exact I.turned (t':=s.toks) (it:=it) (fun b o hb e=>he b o hb e) fo.1 fo.2.1 fo.2.2.2.1 fo.2.2.2.2.1 fo.2.2.2.2.2
 | e :: es,i,kvs,H,s,I,ea,fo,hit,el,hd,he,hl,hR=>by
  obtain ⟨its,rl,pl,_⟩:=I.list (.inl (.inl el))
  obtain ⟨e1,e2⟩:=he e OI
  have hxi:xs[i]? = some (V.ref e.1):=by
   have:=OZ (fun l:List V=>l[0]?) hd
   simpa [Ro] using this
  obtain ⟨u,hui,ru⟩:=rl.get hxi
  cases (show u = Value.ref e.1 from ru)
  refine Qs DX.rY ?_
  rw [QI DX.jG _]
  show wpAny _ A.in1 (pyNext (.ref it) >>= _) _ _ s
  refine OA (wpAny_pyNext_list_item hit pl.isList (x:=.ref e.1) (by simpa using hui) fun h' hit' hs=>?_)
  have I1:Inv X pins σ H { s with heap:=h' }:=I.turned (t':=s.toks) (it:=it) (fun b o hb e=>hs.extBut b o hb e) fo.1 fo.2.1 fo.2.2.2.1 fo.2.2.2.2.1 fo.2.2.2.2.2
  have P1:=I1.pinned (fp:=[it]) (fun b hb=>by rw [OO.mp hb];exact fo) (fun b hb=>by
   rw [OO.mp hb]
   obtain ⟨o,ho,_,hd⟩:=hit'
   exact ⟨o,ho,fun v z=>by rw [hd] at z;cases z⟩)
  obtain ⟨its2,rl2,pl2,_⟩:=I1.tuple (.inl (.inl e1))
  obtain ⟨u1,u2,e3,r1,r2⟩:=Vals.two rl2
  subst e3
  cases (show u1 = Value.ref e.2.1 from r1)
  have body:wpAny (model X.prog X.w) A.in1 (dictSet a (.ref e.2.1) u2) (fun _ s'=>Inv X (pins ++ pf [it] h') σ (upd H a (.dT (iC kvs e.2.2.1 e.2.2.2))) s') (fun e s'=>R (.error e) s') { s with heap:=h' }:=
   Hc hu P1 ea e2 (by rw [OL] at hl;lia) r2 fun s' I'=>I'
  refine OA (Pp (OA ?_))
  refine wpAny_tryCatch (m:=Builtin.Dict.pairItems (.ref e.1)) ?_
  obtain ⟨ot,hot,hct,nt,hdt⟩:=pl2
  unfold Builtin.Dict.pairItems
  refine OA (P9 (T := "tuple") ⟨ot,hot,hct⟩ ?_)
  rw [OC (by decide)]
  refine OA (wpAny_seqItems hot hdt (OE ?_))
  show wpAny _ A.in1 (holding [.ref e.2.1,u2] (dictSet a (.ref e.2.1) u2)) _ _ _
  refine Pp (PZ body (fun _ s' I'=>?_) fun _ _ z=>z)
  have na:it ≠ a:=fun z=>by have f0:=fo.1;rw [z,ea] at f0;cases f0
  have nl:l ≠ a:=vA el ea (fun z=>nomatch z)
  refine OE ⟨QJ DX.jG _,?_⟩
  show codeAny (model X.prog X.w) A (.builtin "dict.update.loop" ⟨[.ref a,.ref it,rawInt ((i + 1:Nat):Int),.none],[]⟩) R s'
  have tn:∀ c ys,H c = some (.tup ys) -> upd H a (.dT (iC kvs e.2.2.1 e.2.2.2)) c = some (.tup ys):=fun c ys z=>by rw [aD (vA z ea (fun z=>nomatch z))];exact z
  refine zW hu hh es (i + 1) (iC kvs e.2.2.1 e.2.2.2) _ s' I'.unpinned aB ⟨by rw [aD na];exact fo.1,fo.2⟩ ?_ (by rw [aD nl];exact el) ?_ (fun e' h'=>?_) ?_ fun s2 I2=>hR s2 ?_
  ·obtain ⟨o,ho,hc2,hd2⟩:=hit'
   exact ⟨o,(I'.pin (it,o) (OU _ (OU _ (gI (OO.mpr rfl) ho)))).1,hc2,hd2⟩
  ·have:=OZ List.tail hd
   rw [List.tail_drop] at this
   exact this
  ·obtain ⟨z1,z2⟩:=he e' (OK _ h')
   exact ⟨tn _ _ z1,tn _ _ z2⟩
  ·have:=hZ kvs e.2.2.1 e.2.2.2
   rw [OL] at hl
   lia
  ·rw [CM] at I2
   exact I2
end
theorem un1 {A:Around} (h:A.units + 64 < cLine):A.units + 1 < cLine:=Pw (Nat.add_le_add_left (by decide) _) h
theorem CB {P:Program} {w:World} {A:Around} (h:A.units + 64 < cLine):(tupleKind (bp P w)).room A.in1:=Ru (un1 h)
end L2
namespace M
open PySem L2
section
variable {K:W.Frag} {S S' H H':Hp}
theorem BA {l:List D} {v:V} (h:Den K S (.tup l) v):∃ p xs,v = .ref p /\ S p = some (.tup xs) /\ Dens K S l xs:=by
 obtain ⟨p,xs,e,h1,h2⟩:=den_tup.mp h
 exact ⟨p,xs,e,h1,h2⟩
noncomputable def kyD:D -> Option (List Int)
 | .tup l=>aJ l
 | _=>none
noncomputable abbrev kI (k:List Int):List Key:=k.map Sum.inl
theorem JP (k:List Int):(kI k).map kV = k.map V.int:=by rw [O7];rfl
theorem AL {a b:List Int} (h:kI a = kI b):a = b:=by
 induction a generalizing b with
 | nil=>cases b with
  | nil=>rfl
  | cons _ _=>cases h
 | cons x a ih=>cases b with
  | nil=>cases h
  | cons y b=>
   injection h with h1 h2
   injection h1 with h1
   rw [h1,ih h2]
theorem ss {d:D} {k:List Int} {v:V} (h:Den K S d v) (e:kyD d = some k):∃ p,v = .ref p /\ S p = some (.tup ((kI k).map kV)):=by
 cases d <;> try (cases e;done)
 obtain ⟨p,xs,rfl,h1,h2⟩:=BA h
 obtain ⟨rfl,_⟩:=et h2 e
 exact ⟨p,rfl,by rw [JP];exact h1⟩
theorem n5 (q:List Int):∀ ks:List (List Int),(jM (bn ks) (kI q)).isSome = ks.contains q
 | []=>rfl
 | k :: ks=>by
  have ih:=n5 q ks
  by_cases h:k = q
  ·subst h
   show (jM ((kI k,V.bl true) :: bn ks) (kI k)).isSome = _
   rw [kU rfl]
   simp
  ·show (jM ((kI k,V.bl true) :: bn ks) (kI q)).isSome = _
   rw [kT (fun z=>h (AL z)),ih]
   rw [List.contains_cons]
   have:(q == k) = false:=by simpa using fun z=>h z.symm
   rw [this,Bool.false_or]
noncomputable def p7 (ks:List (List Int)) (q:List Int):List (List Int):=if ks.contains q then ks else ks ++ [q]
theorem EA (a b:List (List Int)):bn (a ++ b) = bn a ++ bn b:=by unfold bn;rw [Q1]
theorem Cu (ks:List (List Int)) (q:List Int):iC (bn ks) (kI q) (.bl true) = bn (p7 ks q):=by
 unfold p7
 cases h:ks.contains q with
 | false=>
  have hv:jM (bn ks) (kI q) = none:=by
   have:=n5 q ks
   rw [h] at this
   cases z:jM (bn ks) (kI q) with
   | none=>rfl
   | some _=>rw [z] at this;cases this
  rw [FK _ hv,OB (by decide),EA]
  rfl
 | true=>
  rw [OC rfl]
  have ha:((bn ks).any fun kv=>decide (kv.1 = kI q)) = true:=by rw [n4,n5,h]
  unfold iC
  rw [OC ha]
  unfold bn
  rw [O7]
  refine List.map_congr_left fun k _=>?_
  show (if kI k = kI q then (kI k,V.bl true) else (kI k,V.bl true)) = _
  split <;> rfl
theorem tj:∀ (qs ks:List (List Int)),kO (bn ks) (qs.map fun q=>(kI q,V.bl true)) = bn (qs.foldl p7 ks)
 | [],ks=>rfl
 | q :: qs,ks=>by
  show kO (iC (bn ks) (kI q) (.bl true)) (qs.map fun q=>(kI q,V.bl true)) = _
  rw [Cu,tj qs]
  rfl
theorem nu (ks:List (List Int)):(bn ks).length = ks.length:=OJ _
@[simp] noncomputable def NG (k:XE):Env -> Option O:=fun ρ=>(k ρ).bind fun d=>(kyD d).map fun q=>.dic [q]
@[simp] noncomputable def GL:Env -> Option O:=fun _=>some (.dic [])
theorem Kj:STr K Gu GL:=fun ρ σ S H Q o r x c=>by
 cases x
 intro p hp
 exact c (.ref p) [p] S _ (Ext.own r.sub hp) (own_dic.mpr ⟨p,rfl,rfl,aB⟩) (O4.mpr ⟨by simp,List.nodup_nil⟩) fun c' hc=>by rw [OO.mp hc];exact ⟨hp,r.sub.free hp⟩
noncomputable def gB (ρ:Env) (i:Nat):Option (List (List Int)):=match ρ[i]? with
 | some (.ow (.dic ks))=>some ks
 | some (.sh (.dic ks))=>some ks
 | some (.sh (.dif ks))=>some ks
 | some (.ow (.hd _ ks []))=>some ks
 | _=>none
theorem Az {ρ:Env} {σ:St} {i:Nat} {ks:List (List Int)} (r:Rl K ρ σ S H) (h:gB ρ i = some ks):∃ a,σ[i]? = some (some (.ref a)) /\ Rd H a (.dT (bn ks)):=by
 unfold gB at h
 split at h
 ·rename_i ks' q
  cases h
  obtain ⟨v,fp,e,ow,_⟩:=r.ow i _ q
  obtain ⟨a,rfl,_,ha⟩:=own_dic.mp ow
  exact ⟨a,e,.inl ha⟩
 ·rename_i ks' q
  cases h
  obtain ⟨v,e,dv⟩:=r.sh i _ q
  obtain ⟨a,rfl,ha⟩:=den_dic.mp dv
  exact ⟨a,e,cR r.sub ha⟩
 ·rename_i ks' q
  cases h
  obtain ⟨v,e,dv⟩:=r.sh i _ q
  obtain ⟨a,o,rfl,ha⟩:=den_dif.mp dv
  exact ⟨a,e,.inr ⟨o,r.sub _ _ ha⟩⟩
 ·rename_i p ks' q
  cases h
  obtain ⟨v,fp,e,ow,_⟩:=r.ow i _ q
  obtain ⟨xs,f,rfl,_,ha,ho⟩:=own_hd.mp ow
  rw [ho.nil_of.1] at e
  exact ⟨p,e,.inl ha⟩
 ·cases h
@[simp] noncomputable def tX (neg:Bool) (k:XE) (i:Nat):XE:=fun ρ=>(k ρ).bind fun d=>(kyD d).bind fun q=>(gB ρ i).map fun ks=>.bl (if neg then !(ks.contains q) else ks.contains q)
theorem zB {tk:TE} {k:XE} {i:Nat} (h:SE K tk k):SE K (CI tk (g6 i)) (tX true k i):=fun ρ σ S H Q g r x c=>by
 unfold tX at x
 cases qk:k ρ with
 | none=>rw [qk] at x;cases x
 | some d=>
  rw [qk] at x
  dsimp only [Option.bind] at x
  cases qd:kyD d with
  | none=>rw [qd] at x;cases x
  | some q=>
   rw [qd] at x
   dsimp only at x
   cases qi:gB ρ i with
   | none=>rw [qi] at x;cases x
   | some ks=>
    rw [qi] at x
    cases x
    refine h ρ σ S H _ d r qk fun v S1 H1 z1 d1=>?_
    obtain ⟨b,rfl,hb⟩:=ss d1 qd
    obtain ⟨a,e1,ha⟩:=Az (r.ext z1) qi
    refine ⟨.ref a,e1,a,_,rfl,.inr ⟨_,kI q,b,ha,rfl,z1.sub b _ hb,rfl⟩,c _ S1 H1 z1 ?_⟩
    rw [n5]
    exact den_bl.mpr rfl
theorem Ja {tk:TE} {k:XE} {i:Nat} (h:SE K tk k):SE K (LO tk (g6 i)) (tX false k i):=fun ρ σ S H Q g r x c=>by
 unfold tX at x
 cases qk:k ρ with
 | none=>rw [qk] at x;cases x
 | some d=>
  rw [qk] at x
  dsimp only [Option.bind] at x
  cases qd:kyD d with
  | none=>rw [qd] at x;cases x
  | some q=>
   rw [qd] at x
   dsimp only at x
   cases qi:gB ρ i with
   | none=>rw [qi] at x;cases x
   | some ks=>
    rw [qi] at x
    cases x
    refine h ρ σ S H _ d r qk fun v S1 H1 z1 d1=>?_
    obtain ⟨b,rfl,hb⟩:=ss d1 qd
    obtain ⟨a,e1,ha⟩:=Az (r.ext z1) qi
    refine ⟨.ref a,e1,a,_,rfl,.inr ⟨_,kI q,b,ha,rfl,z1.sub b _ hb,rfl⟩,c _ S1 H1 z1 ?_⟩
    rw [n5]
    exact den_bl.mpr rfl
theorem RlF.dic {A:Hp} {Λ:Nat -> Option Addr} {Φ:Nat -> List Addr} {ρ:Env} {σ:St} {i:Nat} {ks:List (List Int)} (f:RlF K A Λ Φ ρ σ S H) (h:ρ[i]? = some (.ow (.dic ks))) :
  ∃ a,σ[i]? = some (some (.ref a)) /\ H a = some (.dT (bn ks)) /\ ∀ ks',RlA K A Λ (ρ.set i (.ow (.dic ks'))) σ S (upd H a (.dT (bn ks'))):=by
 obtain ⟨v,ev,ow,nd,n⟩:=f.ow i _ h
 obtain ⟨a,rfl,hfp,ha⟩:=own_dic.mp ow
 have ain:a ∈ Φ i:=by rw [hfp];exact OI
 refine ⟨a,ev,ha,fun ks'=>?_⟩
 have ne:∀ b,b ≠ a -> upd H a (.dT (bn ks')) b = H b:=fun b hb=>aD hb
 have sub':Same S (upd H a (.dT (bn ks'))):=fun b u e=>by rw [ne b fun z=>by subst z;rw [(n b ain).1] at e;cases e];exact f.sub b u e
 have asub':Same A (upd H a (.dT (bn ks'))):=fun b u e=>by rw [ne b fun z=>by subst z;rw [(n b ain).2] at e;cases e];exact f.asub b u e
 have fin:=f.put (H':=upd H a (.dT (bn ks'))) i sub' asub' (own_dic.mpr ⟨a,rfl,rfl,aB⟩) (O4.mpr ⟨by simp,List.nodup_nil⟩) (fun b hb=>by rw [OO.mp hb];exact n a ain) fun j o' hj e1 b hb=>by
  have nb:b ∉ Φ i:=fun z=>f.dj j i o' _ hj e1 h b hb z
  exact ⟨ne b fun z=>nb (z ▸ ain),fun z=>nb (by rw [OO.mp z];exact ain)⟩
 rw [tF ev] at fin
 exact ⟨_,fin⟩
@[simp] noncomputable def GS (i:Nat) (k:XE):XS:=fun ρ=>match ρ[i]? with
 | some (.ow (.dic ks))=>(k ρ).bind fun d=>(kyD d).bind fun q=>if ks.length < LIM then some (.nx (ρ.set i (.ow (.dic (p7 ks q))))) else none
 | _=>none
theorem Ko {tk:TE} {k:XE} {i:Nat} (h:SE K tk k):SS K (I0 (g6 i) tk (tC (.bl true))) (GS i k):=fun A Λ ρ σ S H E o r x c=>by
 unfold GS at x
 split at x <;> try (cases x;done)
 rename_i ks q0
 cases qk:k ρ with
 | none=>rw [qk] at x;cases x
 | some d=>
  rw [qk] at x
  dsimp only [Option.bind] at x
  cases qd:kyD d with
  | none=>rw [qd] at x;cases x
  | some q=>
   rw [qd] at x
   dsimp only at x
   split at x <;> try (cases x;done)
   rename_i hl
   cases x
   obtain ⟨Φ,f⟩:=r
   obtain ⟨a,ev,_,_⟩:=f.dic q0
   refine ⟨.ref a,ev,h ρ σ S H _ d ⟨A,Λ,Φ,f⟩ qk fun v S1 H1 z1 d1=>?_⟩
   obtain ⟨b,rfl,hb⟩:=ss d1 qd
   obtain ⟨a',ev',ha,up⟩:=(f.ext z1).dic q0
   rw [ev] at ev'
   cases ev'
   refine ⟨a,_,rfl,.inr ⟨_,kI q,b,ha,rfl,z1.sub b _ hb,?_,rfl⟩,?_⟩
   ·rw [nu];exact Rr hl fg
   ·rw [Cu]
    exact c σ S1 _ (up _) z1.sh
noncomputable def kK:List D -> Option (List (List Int))
 | []=>some []
 | .tup [d,.bl true] :: l=>(kyD d).bind fun q=>(kK l).map fun qs=>q :: qs
 | _=>none
theorem zc {S H:Hp} (s:Same S H):∀ {l:List D} {xs:List V} {qs:List (List Int)},Dens K S l xs -> kK l = some qs ->
  ∃ es:List (Addr × Addr × List Key × V),xs = es.map (fun e=>V.ref e.1) /\ (∀ e ∈ es,H e.1 = some (.tup [.ref e.2.1,e.2.2.2]) /\ H e.2.1 = some (.tup (e.2.2.1.map kV))) /\ es.map (fun e=>(e.2.2.1,e.2.2.2)) = qs.map fun q=>(kI q,V.bl true)
 | [],xs,qs,h,e=>by
  cases e
  exact ⟨[],h.nil_of,(fun e he=>by cases he),rfl⟩
 | d :: l,xs,qs,h,e=>by
  obtain ⟨y,ys,rfl,h1,h2⟩:=h.cons_of
  unfold kK at e
  split at e <;> try (cases e;done)
  ·rename_i hh;cases hh
  ·rename_i d0 l0 hh
   injection hh with hh1 hh2
   subst hh1 hh2
   cases qd:kyD d0 with
   | none=>rw [qd] at e;cases e
   | some q=>
    rw [qd] at e
    dsimp only [Option.bind] at e
    cases ql:kK l with
    | none=>rw [ql] at e;cases e
    | some qs'=>
     rw [ql] at e
     cases e
     obtain ⟨es,e1,e2,e3⟩:=zc s h2 ql
     obtain ⟨t,zs,rfl,ht,hz⟩:=BA h1
     obtain ⟨y1,r1,rfl,k1,hz⟩:=hz.cons_of
     obtain ⟨y2,r2,rfl,k2,hz⟩:=hz.cons_of
     have:=hz.nil_of
     subst this
     obtain ⟨b,rfl,hb⟩:=ss k1 qd
     have:=den_bl.mp k2
     subst this
     refine ⟨(t,b,kI q,.bl true) :: es,by rw [e1];rfl,fun e he=>?_,by rw [OQ,e3];rfl⟩
     rcases OP.mp he with rfl | he
     ·exact ⟨s t _ ht,s b _ hb⟩
     ·exact e2 e he
@[simp] noncomputable def NW (i:Nat) (e:XA):XS:=fun ρ=>match ρ[i]? with
 | some (.ow (.dic ks))=>(e ρ).bind fun l=>(kK l).bind fun qs=>if ks.length + l.length < LIM then some (.nx (ρ.set i (.ow (.dic (qs.foldl p7 ks))))) else none
 | _=>none
theorem Kq {t:TE} {e:XE} (h:SE K t e):ST K (tB t) (xB e):=fun ρ σ S H Q b r x c=>by
 unfold xB at x
 cases q:e ρ with
 | none=>rw [q] at x;cases x
 | some d=>
  rw [q] at x
  cases d <;> try (cases x;done)
  cases x
  refine h ρ σ S H _ _ r q fun v S1 H1 z1 d1=>?_
  exact ⟨_,den_bl.mp d1,c S1 H1 z1⟩
end
end M
namespace L2
open PySem PySem.Spec PyProof.Rows M
section
variable {X:Cx}
end
end L2
namespace M
open PySem L2
section
variable {K:W.Frag}
end
end M
namespace L2
open PySem PySem.Spec PyProof.Rows
section
variable {X:Cx} {tg:Expr}
end
end L2
namespace M
open PySem L2
section
variable {K:W.Frag} {S H:Hp}
noncomputable def Kx (a c:Int) (n:Nat):List D:=(List.range n).map fun i:Nat=>D.int (a + (i:Int) * c)
noncomputable def LC:List D -> Option (List D)
 | [.int a,.int j,.int c]=>ifC (c ≠ 0 /\ (-1000000 < c /\ c < 1000000) /\ Builtin.Range.small a j c = true) (some (Kx a c (Builtin.Range.rangeSize a j c).toNat)) none
 | _=>none
@[simp] noncomputable def NU (a:XA):XA:=fun ρ=>(a ρ).bind LC
end
end M
namespace L2
open PySem PySem.Spec PyProof.Rows
section
variable {X:Cx}
end
end L2
namespace M
open PySem L2
section
variable {K:W.Frag}
noncomputable def K7:D -> Option (List D)
 | .int j=>ifC (0 <= j /\ j < 1000000) (some ((List.range j.toNat).map fun i:Nat=>D.int (i:Int))) none
 | _=>none
@[simp] noncomputable def M8 (a:XE):XA:=fun ρ=>(a ρ).bind K7
end
end M
namespace L2
open PySem PySem.Spec PyProof.Rows
section
variable {X:Cx} {pins:List (Addr × Obj)} {σ:List (Option V)} {H H':Hp} {s:Shared} {h':Heap}
end
section
variable {X:Cx}
end
end L2
namespace M
open PySem L2
section
variable {K:W.Frag} {S S' H H':Hp}
noncomputable def enL (k:Nat):List D -> List D
 | []=>[]
 | d :: l=>.tup [.int (k:Int),d] :: enL (k + 1) l
@[simp] noncomputable def Oo (a:XE):XA:=fun ρ=>(a ρ).bind fun d=>match d with | .lst l=>some (enL 0 l) | _=>none
end
end M
namespace L2
open PySem PySem.Spec PyProof.Rows M
section
variable {X:Cx}
end
end L2
namespace M
open PySem L2
section
variable {K:W.Frag}
end
section
variable {K:W.Frag} {S S' H H':Hp}
theorem za:∀ {l:List O} {xs:List V} {fp:List Addr},Owns K S H l xs fp -> l.length = xs.length
 | [],_,_,h=>by rw [h.nil_of.1];rfl
 | _ :: _,_,_,h=>by
  obtain ⟨y,ys,f,g,rfl,rfl,a,b⟩:=h.cons_of
  rw [OL,OL,za b]
theorem Cj:∀ {l:List O} {xs:List V} {fp:List Addr} {n:Nat} {o:O},Owns K S H l xs fp -> l[n]? = some o -> ∃ y fn,xs[n]? = some y /\ Own K S H o y fn /\ (∀ b ∈ fn,b ∈ fp) /\ (fp.Nodup -> fn.Nodup)
 | [],_,_,_,_,_,e=>by simp at e
 | _ :: _,_,_,0,o,h,e=>by
  obtain ⟨y,ys,f,g,rfl,rfl,a,b⟩:=h.cons_of
  cases e
  exact ⟨y,f,rfl,a,fun b hb=>OY _ hb,fun nd=>(PP.mp nd).1⟩
 | _ :: _,_,_,n + 1,o,h,e=>by
  obtain ⟨y,ys,f,g,rfl,rfl,a,b⟩:=h.cons_of
  rw [P5] at e
  obtain ⟨z,fn,h1,h2,h3,h4⟩:=Cj b e
  exact ⟨z,fn,by rw [P5];exact h1,h2,fun b hb=>OU _ (h3 b hb),fun nd=>h4 (PP.mp nd).2.1⟩
@[simp] noncomputable def Ot (i:Nat) (p:XP):XA:=fun ρ=>match ρ[i]? with
 | some (.ow o)=>(p ρ).bind fun is=>match dD o is with | some (.lst l)=>shs l | _=>none
 | _=>none
end
end M
namespace TL
open PySem PyProof.Rows
section
variable {prog:Program} {w:World} {A:Around} {E:Value -> Shared -> Prop} {s:Shared}
end
end TL
namespace L2
open PySem PySem.Spec PyProof.Rows
section
variable {X:Cx}
end
end L2
namespace M
open PySem L2
section
variable {K:W.Frag}
end
end M
namespace L2
open PySem PySem.Spec PyProof.Rows
section
variable {X:Cx}
end
end L2
namespace M
open PySem L2
section
variable {K:W.Frag}
end
end M
namespace TL
open PySem PyProof.Rows
section
variable {prog:Program} {w:World} {A:Around} {R:Result -> Shared -> Prop} {I:Addr} {fp wr:List Addr} {n:Nat} {P:Nat -> Value -> Prop} {St:Nat -> Heap -> Prop} {h0:Heap}
end
section
variable {prog:Program} {w:World} {A:Around} {E:Value -> Shared -> Prop} {s:Shared}
end
end TL
namespace L2
open PySem PySem.Spec PyProof.Rows
section
variable {X:Cx}
end
end L2
namespace M
open PySem L2
section
variable {K:W.Frag}
end
section
variable {K:W.Frag} {S S' H H':Hp}
end
section
variable {K:W.Frag}
@[simp] noncomputable def M7 (f g:D -> D -> Option D) (a b c:XE):XE:=fun ρ=>(a ρ).bind fun x=>(b ρ).bind fun y=>(f x y).bind fun z=>match z with
 | .bl true=>(c ρ).bind fun w=>g y w
 | .bl false=>some (.bl false)
 | _=>none
end
end M
namespace ST
open PySem PySem.SetTable
noncomputable def it (m:Nat):Nat -> Nat -> Nat
 | 0,i=>i
 | n + 1,i=>it m n ((i * 5 + 1) % (m + 1))
theorem wR (m:Nat):∀ a b i,it m (a + b) i = it m b (it m a i)
 | 0,b,i=>by rw [Qo];rfl
 | a + 1,b,i=>by rw [Nat.add_right_comm];exact wR m a b _
noncomputable def orb (m:Nat):Nat -> Nat -> List Nat
 | 0,_=>[]
 | n + 1,i=>i :: orb m n ((i * 5 + 1) % (m + 1))
theorem Ci {m:Nat}:∀ {n i j:Nat},j ∈ orb m n i -> ∃ k,k < n /\ it m k i = j
 | 0,_,_,h=>by cases h
 | n + 1,i,j,h=>by
  rcases OP.mp h with rfl | h
  ·exact ⟨0,QW _,rfl⟩
  ·obtain ⟨k,hk,e⟩:=Ci h
   exact ⟨k + 1,Nat.succ_lt_succ hk,e⟩
def Full (m:Nat):Prop:=it m (m + 1) 0 = 0 /\ ((List.range (m + 1)).all fun j=>(orb m (m + 1) 0).contains j) = true
noncomputable instance (m:Nat):Decidable (Full m):=by unfold Full;infer_instance
theorem K3:Full 7:=by decide +kernel
theorem JJ:Full 31:=by decide +kernel
theorem Hj:Full 127:=by decide +kernel
theorem Hk:Full 511:=by decide +kernel
theorem Full.reach {m:Nat} (f:Full m) {i j:Nat} (hi:i <= m) (hj:j <= m):∃ k,k <= m /\ it m k i = j:=by
 have h:∀ x,x <= m -> ∃ k,k <= m /\ it m k 0 = x:=fun x hx=>by
  have:=List.all_eq_true.mp f.2 x (P8.mpr (by lia))
  obtain ⟨k,hk,e⟩:=Ci (Sj.mp this)
  exact ⟨k,by lia,e⟩
 obtain ⟨a,ha,rfl⟩:=h i hi
 obtain ⟨b,hb,rfl⟩:=h j hj
 by_cases hab:a <= b
 ·exact ⟨b - a,by lia,by rw [<- wR];congr 1;lia⟩
 ·refine ⟨m + 1 + b - a,by lia,?_⟩
  rw [<- wR,show a + (m + 1 + b - a) = (m + 1) + b by lia,wR,f.1]
noncomputable def blk (m:Nat):Nat -> Nat × Nat -> Nat × Nat
 | 0,x=>x
 | n + 1,x=>blk m n (leap m x.1 x.2)
theorem BS (m:Nat):∀ a b x,blk m (a + b) x = blk m b (blk m a x)
 | 0,b,x=>by rw [Qo];rfl
 | a + 1,b,x=>by rw [Nat.add_right_comm];exact BS m a b _
theorem xY (m:Nat):∀ n i,blk m n (i,0) = (it m n i,0)
 | 0,i=>rfl
 | n + 1,i=>by
  show blk m n ((i * 5 + 1 + 0 / 32) % (m + 1),0 / 32) = _
  exact xY m n _
theorem BV (m:Nat):∀ n x,(blk m n x).2 = x.2 / 32 ^ n
 | 0,x=>by rw [Nat.pow_zero,Nat.div_one];rfl
 | n + 1,x=>by
  show (blk m n (leap m x.1 x.2)).2 = _
  rw [BV m n]
  show x.2 / 32 / 32 ^ n = _
  rw [Nat.div_div_eq_div_mul,Nat.pow_succ,Nat.mul_comm]
theorem BU (m:Nat):∀ n x,x.1 <= m -> (blk m n x).1 <= m
 | 0,x,h=>h
 | n + 1,x,h=>BU m n _ (Nat.le_of_lt_succ (Nat.mod_lt _ (QW m)))
theorem uX {m:Nat} (f:Full m) (x:Nat × Nat) (h1:x.1 <= m) (h2:x.2 < 2 ^ 64) {j:Nat} (hj:j <= m):∃ n,n <= m + 13 /\ (blk m n x).1 = j:=by
 have e:(blk m 13 x).2 = 0:=by
  rw [BV]
  exact Nat.div_eq_of_lt (Pa h2 (by decide))
 obtain ⟨k,hk,ek⟩:=f.reach (BU m 13 x h1) hj
 refine ⟨13 + k,by lia,?_⟩
 have e2:blk m 13 x = ((blk m 13 x).1,0):=Prod.ext rfl e
 rw [BS,e2,xY]
 exact ek
noncomputable def adv (t:SetTable):Nat -> Probe -> Probe
 | 0,p=>p
 | n + 1,p=>adv t n (t.advance p)
theorem BM (t:SetTable):∀ a b p,adv t (a + b) p = adv t b (adv t a p)
 | 0,b,p=>by rw [Qo];rfl
 | a + 1,b,p=>by rw [Nat.add_right_comm];exact BM t a b _
noncomputable def stt (m:Nat) (x:Nat × Nat) (d:Option Nat):Probe:={ j:=x.1,more:=runEnd m x.1 - x.1,i:=x.1,perturb:=x.2,dummy:=d }
theorem BO (t:SetTable):∀ (r:Nat) (p:Probe),p.more = r -> adv t (r + 1) p = stt t.mask (leap t.mask p.i p.perturb) p.dummy
 | 0,p,h=>by
  show t.advance p = _
  unfold advance
  rw [OB (by lia)]
  rfl
 | r + 1,p,h=>by
  show adv t (r + 1) (t.advance p) = _
  have e:t.advance p = { p with j:=p.j + 1,more:=p.more - 1 }:=by
   unfold advance
   rw [OC (by lia)]
  rw [e]
  exact BO t r _ (by show p.more - 1 = r;lia)
theorem Gr (m:Nat) (x:Nat × Nat) (d:Option Nat):(stt m x d).more <= 9:=by
 show runEnd m x.1 - x.1 <= 9
 unfold runEnd
 split <;> lia
theorem BN (t:SetTable) (d:Option Nat):∀ n x,∃ k,k <= 10 * n /\ adv t k (stt t.mask x d) = stt t.mask (blk t.mask n x) d
 | 0,x=>⟨0,OH _,rfl⟩
 | n + 1,x=>by
  obtain ⟨k,hk,e⟩:=BN t d n (leap t.mask x.1 x.2)
  have h:=Gr t.mask x d
  refine ⟨(stt t.mask x d).more + 1 + k,by lia,?_⟩
  rw [BM,BO t _ _ rfl]
  exact e
theorem zt {t:SetTable} (f:Full t.mask) (h:Int) {j:Nat} (hj:j <= t.mask):∃ k,k < 10 * turns t.mask /\ (adv t k (t.probeStart h)).j = j:=by
 have hb:bits h < 2 ^ 64:=by
  unfold bits
  have h1:=Int.emod_nonneg h (b:=(2 ^ 64:Int)) (by decide)
  have h2:=Int.emod_lt_of_pos h (b:=(2 ^ 64:Int)) (by decide)
  lia
 obtain ⟨n,hn,e⟩:=uX f (bits h % (t.mask + 1),bits h) (Nat.le_of_lt_succ (Nat.mod_lt _ (QW _))) hb hj
 obtain ⟨k,hk,e2⟩:=BN t none n (bits h % (t.mask + 1),bits h)
 refine ⟨k,by unfold turns;lia,?_⟩
 show (adv t k (stt t.mask (bits h % (t.mask + 1),bits h) none)).j = j
 rw [e2]
 exact e
theorem Fk {t:SetTable} (hd:t.dummies = #[]) (j:Nat):t.slot j ≠ .dummy:=by
 unfold slot
 dsimp only
 split
 ·exact fun z=>by cases z
 ·rw [OB (by rw [hd];unfold has;simp)]
  exact fun z=>by cases z
theorem B4 {t:SetTable} (hd:t.dummies = #[]) (hashAt:Nat -> Int) (h:Int):∀ (fuel k:Nat) (p:Probe),k < fuel -> t.slot (adv t k p).j = .empty ->
  (∃ a,a <= k /\ t.slot (adv t a p).j = .empty /\ probe.go t hashAt h fuel p = some (.empty (adv t a p).j p.dummy)) \/
  (∃ a i,a < k /\ t.slot (adv t a p).j = .live i /\ hashAt i = h /\ probe.go t hashAt h fuel p = some (.candidate (adv t a p).j i (adv t (a + 1) p)))
 | 0,_,_,hk,_=>by lia
 | fuel + 1,k,p,hk,he=>by
  unfold probe.go
  cases q:t.slot p.j with
  | empty=>exact .inl ⟨0,Pl _,q,rfl⟩
  | dummy=>exact absurd q (Fk hd _)
  | live i=>
   cases k with
   | zero=>
    have:t.slot p.j = .empty:=he
    rw [q] at this
    cases this
   | succ k=>
    by_cases hh:hashAt i = h
    ·refine .inr ⟨0,i,QW _,q,hh,?_⟩
     have:(hashAt i == h) = true:=by simpa using hh
     show (if (hashAt i == h) = true then _ else _) = _
     rw [OC this]
     rfl
    ·have:¬ (hashAt i == h) = true:=by simpa using hh
     have e:(if (hashAt i == h) = true then some (Met.candidate p.j i (t.advance p)) else probe.go t hashAt h fuel (t.advance p)) = probe.go t hashAt h fuel (t.advance p):=OB this
     have hdm:(t.advance p).dummy = p.dummy:=by unfold advance;split <;> rfl
     rcases B4 hd hashAt h fuel k (t.advance p) (by lia) he with ⟨a,h1,h2,h3⟩ | ⟨a,i',h1,h2,h3,h4⟩
     ·refine .inl ⟨a + 1,by lia,h2,?_⟩
      show (if (hashAt i == h) = true then _ else _) = _
      rw [e,h3,hdm]
      rfl
     ·refine .inr ⟨a + 1,i',by lia,h2,h3,?_⟩
      show (if (hashAt i == h) = true then _ else _) = _
      rw [e,h4]
      rfl
theorem vf {m:Nat} {owner:Array (Option Nat)} {j0:Nat} (h0:owner.getD j0 (some 0) = none):∀ (fuel n:Nat) (x:Nat × Nat),n < fuel -> (blk m n x).1 = j0 -> ∃ j,layClean.free m owner fuel x.1 x.2 = some j /\ owner.getD j (some 0) = none
 | 0,_,_,h,_=>by lia
 | fuel + 1,n,x,h,e=>by
  unfold layClean.free
  cases q:(List.range (runEnd m x.1 + 1 - x.1)).find? fun k=>(owner.getD (x.1 + k) (some 0)).isNone with
  | some k=>
   have:=List.find?_some q
   exact ⟨x.1 + k,rfl,Option.isNone_iff_eq_none.mp this⟩
  | none=>
   cases n with
   | zero=>
    have hx:x.1 = j0:=e
    have hr:x.1 <= runEnd m x.1:=by unfold runEnd;split <;> lia
    have:=List.find?_eq_none.mp q 0 (P8.mpr (by lia))
    rw [Nat.add_zero,hx,h0] at this
    exact absurd rfl this
   | succ n=>exact vf h0 fuel n (leap m x.1 x.2) (by lia) e
noncomputable def liv (m:Nat) (owner:Array (Option Nat)):List (Nat × Nat):=(List.range (m + 1)).filterMap fun j=>(owner.getD j none).map (j,·)
theorem G2 (h:Int):bits h < 2 ^ 64:=by
 unfold bits
 have h1:=Int.emod_nonneg h (b:=(2 ^ 64:Int)) (by decide)
 have h2:=Int.emod_lt_of_pos h (b:=(2 ^ 64:Int)) (by decide)
 lia
theorem yq {α β:Type} {f g:α -> Option β}:∀ {l:List α},(∀ x ∈ l,f x = g x) -> l.filterMap f = l.filterMap g
 | [],_=>rfl
 | a :: l,h=>by rw [Pc,Pc,h a OI,yq fun x hx=>h x (OK _ hx)]
theorem yU:∀ {l m:List Nat},l.Nodup -> (∀ a ∈ l,a ∈ m) -> l.length <= m.length
 | [],m,_,_=>Pl _
 | a :: l,m,h,k=>by
  obtain ⟨h1,h2⟩:=O4.mp h
  have ha:=k a OI
  have ih:=yU (m:=m.erase a) h2 fun b hb=>(Sk (fun e=>h1 (by rw [<- e];exact hb))).mpr (k b (OK _ hb))
  rw [Sm ha] at ih
  have:=List.length_pos_of_mem ha
  rw [OL]
  lia
theorem EK {α β:Type} (f g:α -> Option β):∀ (l:List α) (j:α),l.Nodup -> j ∈ l -> f j = none -> (g j).isSome = true -> (∀ i ∈ l,i ≠ j -> g i = f i) -> (l.filterMap g).length = (l.filterMap f).length + 1
 | [],_,_,h,_,_,_=>by cases h
 | i :: l,j,nd,h,hf,hg,hs=>by
  obtain ⟨n1,n2⟩:=O4.mp nd
  by_cases e:i = j
  ·subst e
   obtain ⟨b,hb⟩:=Re.mp hg
   have:l.filterMap g = l.filterMap f:=yq fun x hx=>hs x (OK _ hx) fun z=>n1 (z ▸ hx)
   rw [Pc,Pc,hf,hb,this]
   rfl
  ·have hj:j ∈ l:=(OP.mp h).resolve_left (O8 e)
   have ih:=EK f g l j n2 hj hf hg fun x hx=>hs x (OK _ hx)
   rw [Pc,Pc,hs i OI e]
   cases f i with
   | none=>exact ih
   | some b=>rw [OL,OL,ih]
structure LOk (m k:Nat) (owner:Array (Option Nat)):Prop where
 size:owner.size = m + 1
 len:(liv m owner).length = k
 lt:∀ (j v:Nat),owner.getD j none = some v -> v < k
theorem LOk.empty {m k:Nat} {owner:Array (Option Nat)} (o:LOk m k owner) (hk:k <= m):∃ j,j <= m /\ owner.getD j (some 0) = none:=by
 apply Rx
 intro hn
 have all:∀ j ∈ List.range (m + 1),((owner.getD j none).map (j,·)).isSome = true:=fun j hj=>by
  have hj':=P8.mp hj
  cases q:owner.getD j none with
  | some v=>rfl
  | none=>
   have hs:=o.size
   refine absurd ⟨j,by lia,?_⟩ hn
   simp [Array.getD,hs,hj'] at q ⊢
   exact q
 have:(liv m owner).length = m + 1:=by
  unfold liv
  have key:∀ l:List Nat,(∀ j ∈ l,((owner.getD j none).map (j,·)).isSome = true) -> (l.filterMap fun j=>(owner.getD j none).map (j,·)).length = l.length:=by
   intro l
   induction l with
   | nil=>intro _;rfl
   | cons a l ih=>
    intro h
    obtain ⟨b,hb⟩:=Re.mp (h a OI)
    rw [Pc,hb,OL,OL,ih fun j hj=>h j (OK _ hj)]
  rw [key _ all,RU]
 have:=o.len
 lia
theorem LOk.set {m k:Nat} {owner:Array (Option Nat)} (o:LOk m k owner) {j:Nat} (h:owner.getD j (some 0) = none):LOk m (k + 1) (owner.setIfInBounds j (some k)):=by
 have hs:=o.size
 have hj:j < m + 1:=by
  apply Rx
  intro hn
  simp [Array.getD,hs,hn] at h
 have gd:∀ i,(owner.setIfInBounds j (some k)).getD i none = if i = j then some k else owner.getD i none:=fun i=>by
  by_cases e:i = j
  ·subst e
   simp [Array.getD,hs,hj]
  ·rw [OB e]
   rw [RV,RV,Array.getElem?_setIfInBounds_ne (O8 e)]
 have hj0:owner.getD j none = none:=by
  simp [Array.getD,hs,hj] at h ⊢
  exact h
 refine ⟨by rw [Array.size_setIfInBounds];exact hs,?_,fun i v hv=>?_⟩
 ·unfold liv
  rw [EK (fun i=>(owner.getD i none).map (i,·)) _ _ j List.nodup_range (P8.mpr hj) (by rw [hj0];rfl) (by rw [gd,OC rfl];rfl) fun i _ hi=>by rw [gd,OB hi]]
  have:=o.len
  unfold liv at this
  lia
 ·rw [gd] at hv
  split at hv
  ·cases hv;lia
  ·have:=o.lt i v hv;lia
theorem Bt {t:SetTable} (hd:t.dummies = #[]) (h:t.place.size <= t.mask):∃ j,j <= t.mask /\ t.slot j = .empty:=by
 apply Rx
 intro hn
 have all:∀ j,j <= t.mask -> t.place[below t.place j]? = some j:=fun j hj=>by
  apply Rx
  intro hx
  refine hn ⟨j,hj,?_⟩
  unfold slot
  dsimp only
  rw [OB (by simpa using hx),OB (by rw [hd];unfold has;simp)]
 have inj:∀ l:List Nat,l.Nodup -> (∀ j ∈ l,j <= t.mask) -> l.length <= t.place.size:=fun l nd hl=>by
  have h1:(l.map (below t.place)).Nodup:=by
   rw [List.nodup_iff_pairwise_ne] at nd
   rw [List.nodup_iff_pairwise_ne,Ql]
   refine List.Pairwise.imp_of_mem ?_ nd
   intro a b ha hb hab e
   have e1:=all a (hl a ha)
   have e2:=all b (hl b hb)
   rw [e,e2] at e1
   cases e1
   exact hab rfl
  have h2:∀ x ∈ l.map (below t.place),x ∈ List.range t.place.size:=fun x hx=>by
   obtain ⟨j,hj,rfl⟩:=O1.mp hx
   exact P8.mpr (Q2.mp (all j (hl j hj))).1
  have:=yU h1 h2
  simpa using this
 have:=inj (List.range (t.mask + 1)) List.nodup_range fun j hj=>by have:=P8.mp hj;lia
 rw [RU] at this
 lia
theorem dG {α:Type} (xs:Array α) (p:Nat) (x:α):(insertAt xs p x).size = xs.size + 1:=by
 unfold insertAt
 rw [Array.size_append,Array.size_push,Ry,Ry]
 lia
section
variable {prog:Program} {w:World} {A:Around} {E:Value -> Shared -> Prop} {s:Shared}
end
def Msk (m:Nat):Prop:=m = 7 \/ m = 31 \/ m = 127 \/ m = 511
theorem Msk.full {m:Nat} (h:Msk m):Full m:=by
 rcases h with rfl | rfl | rfl | rfl
 ·exact K3
 ·exact JJ
 ·exact Hj
 ·exact Hk
structure TOk (n:Nat) (t:SetTable):Prop where
 msk:Msk t.mask
 pl:t.place.size = n
 dm:t.dummies = #[]
theorem TOk.fits {n:Nat} {t:SetTable} (o:TOk n t) (h:n <= t.mask):t.fits n = true:=by
 unfold SetTable.fits SetTable.fill
 rw [o.dm,o.pl]
 simp [h]
theorem Mt {m n:Nat} (h:Msk m) (h1:n * 5 < m * 3) (h2:m * 3 <= (n + 1) * 5) (hn:n < 300):Msk (sizeAbove (grown (n + 1)) - 1) /\ (n + 1) * 5 < (sizeAbove (grown (n + 1)) - 1) * 3 /\ sizeAbove (grown (n + 1)) <= 512:=by
 rcases h with rfl | rfl | rfl | rfl
 ·have:n = 4:=by lia
  subst this
  exact ⟨.inr (.inl (by decide +kernel)),by decide +kernel,by decide +kernel⟩
 ·have:n = 18:=by lia
  subst this
  exact ⟨.inr (.inr (.inl (by decide +kernel))),by decide +kernel,by decide +kernel⟩
 ·have:n = 76:=by lia
  subst this
  exact ⟨.inr (.inr (.inr (by decide +kernel))),by decide +kernel,by decide +kernel⟩
 ·lia
section
variable {prog:Program} {w:World} {A:Around} {E:Value -> Shared -> Prop} {s:Shared}
end
end ST
namespace ST
open PySem PySem.SetTable PyProof.Rows
section
variable {prog:Program} {w:World} {A:Around} {E:Value -> Shared -> Prop} {s:Shared}
end
section
variable {prog:Program} {w:World} {A:Around} {E:Value -> Shared -> Prop} {s:Shared}
end
section
variable {prog:Program} {w:World} {A:Around} {R:Result -> Shared -> Prop} {I:Addr} {fp wr:List Addr} {n:Nat} {P:Nat -> Value -> Prop} {St:Nat -> Heap -> Prop} {h0:Heap}
end
section
variable {prog:Program} {w:World} {A:Around} {E:Value -> Shared -> Prop} {s:Shared}
end
end ST
namespace L2
open PySem
section
variable {X:Cx}
end
end L2
namespace M
open PySem L2
section
variable {K:W.Frag}
end
end M
namespace DL
open PySem
section
variable {prog:Program} {w:World} {A:Around} {E:Value -> Shared -> Prop} {s:Shared}
end
end DL
namespace L2
open PySem
section
variable {X:Cx}
end
end L2
namespace M
open PySem L2
section
variable {K:W.Frag}
@[simp] noncomputable def NK (i:Nat):XE:=fun ρ=>(gB ρ i).map fun ks=>.int (ks.length:Nat)
end
end M
namespace DY
open PySem
section
variable {prog:Program} {w:World} {K:Type} [DecidableEq K] {knd:HeapKind prog w K} {A:Around} {E:Value -> Shared -> Prop} {s:Shared}
theorem ym {β:Type} (f:K × Addr × Value -> β) (k:K):∀ {xs:List (K × Addr × Value)} {j:Nat} {p:Addr × Value},(xs.map (·.1)).Nodup -> xs[j]? = some (k,p) -> (xs.map f).eraseIdx j = (xs.filter fun x=>decide (x.1 ≠ k)).map f
 | [],j,p,_,hj=>by simp at hj
 | x :: l,0,p,hn,hj=>by
  simp at hj
  subst hj
  rw [OQ,O4] at hn
  have:l.filter (fun x=>decide (x.1 ≠ k)) = l:=List.filter_eq_self.mpr fun y hy=>by
   simp only [ne_eq,decide_eq_true_eq]
   exact fun e=>hn.1 (O1.mpr ⟨y,hy,e⟩)
  rw [Qt (by simp),this]
  rfl
 | x :: l,j + 1,p,hn,hj=>by
  rw [P5] at hj
  rw [OQ,O4] at hn
  have hne:x.1 ≠ k:=fun e=>hn.1 (by rw [e];exact O1.mpr ⟨(k,p),Rf hj,rfl⟩)
  rw [Q3 (by simpa using hne),OQ,OQ,List.eraseIdx_cons_succ,ym f k hn.2 hj]
theorem xE {d a:Addr} {xs:List (K × Addr × Value)} {k:K} {p:Addr × Value} {Q:Option DictEntry -> Shared -> Prop} (hu:knd.room A) (hkey:knd.is s.heap k a) (hm:s.heap.DictOfH knd d xs) (hp:atKey xs k = some p) (hsz:xs.length <= sizeLine)
  (hQ:∀ h',h'.DictOfH knd d (xs.filter fun x=>decide (x.1 ≠ k)) -> Heap.SameBut d s.heap h' -> Q (some (entryOfKey knd (k,p))) { s with heap:=h',toks:=s.toks + knd.draws k }):wpAny (model prog w) A (Builtin.Dict.takeOut d (.ref a)) Q E s:=by
 obtain ⟨o,es,ep,ho,hc,hd,he,his,hn⟩:=hm
 unfold Builtin.Dict.takeOut;refine Pp (OA (knd.pyHash hu hkey (OA (wpAny_dictFind_heap (s:={ s with toks:=s.toks + knd.draws k }) hu hkey ho hd he his hn (fun hno=>?_) fun j q hj=>?_))))
 ·rw [atKey_none_of_get hno] at hp;cases hp
 ·rw [atKey_of_get hn hj] at hp
  cases hp
  refine OA (Rz (s:={ s with toks:=s.toks + knd.draws k }) ho hd ?_)
  rw [entry_at he j,hj]
  have hz:es.size <= sizeLine:=by rw [size_of_entries he];exact hsz
  refine OA (wpAny_updateDictKeys (hz:=hz) (s:={ s with toks:=s.toks + knd.draws k }) ho hd (OE (hQ _ ⟨_,_,ep + 1,Pt _ ho (Obj.isFreed_of_dict (Obj.data_mapDictKeys hd _)),hc.mapDictKeys _,Obj.data_mapDictKeys hd _,?_,fun x hx=>?_,?_⟩ (RA ..))))
  ·rw [<- ym (entryOfKey knd) k hn hj,<- he]
   obtain ⟨l⟩:=es
   simp
  ·exact knd.keeps (his x (Po.mp hx).1) ho hd (RA ..)
  ·exact hn.sublist ((RX).map _)
theorem FG {d a:Addr} {xs:List (K × Addr × Value)} {k:K} {p:Addr × Value} {Q:Value -> Shared -> Prop} (hu:knd.room A.in1) (hkey:knd.is s.heap k a) (hm:s.heap.DictOfH knd d xs) (hp:atKey xs k = some p) (hsz:xs.length <= sizeLine)
  (hQ:∀ h',h'.DictOfH knd d (xs.filter fun x=>decide (x.1 ≠ k)) -> Heap.SameBut d s.heap h' -> Q p.2 { s with heap:=h',toks:=s.toks + knd.draws k }):wpAny (model prog w) A (call (.builtin "dict.pop") [.ref d,.ref a]) Q E s:=by
 have hT:=hm.typeIs
 obtain ⟨o,es,ep,ho,hc,hd,he,his,hn⟩:=id hm
 refine wpAny_call (Si F.slot_dict_pop.plain F.entry_dict_pop (F.slot_dict_pop.check _ _ _ _ _ _ _ _ hT (F.args_dict_pop_2 _ _) ?_))
 unfold Builtin.«dict.pop»;refine OA ?_
 unfold Builtin.Dict.keyAndDefault;refine OA (Sn hT ?_)
 show wpAny _ _ (pure (d,Value.ref a,none)) _ _ s;refine OE ?_
 have hne:es.isEmpty = false:=by
  cases q:es.isEmpty with
  | false=>rfl
  | true=>
   have e0:es.toList = []:=by simpa [Array.isEmpty_iff] using q
   rw [e0] at he
   cases xs with
   | nil=>cases hp
   | cons _ _=>cases he
 refine OA (Rz ho hd (OA (OE ?_)))
 rw [hne]
 refine OA (xE hu hkey hm hp hsz fun h' hm' hs'=>?_)
 exact OA (wpAny_letGo (OE (hQ h' hm' hs')))
def DAt (s:Heap) (d:Addr) (es:Array DictEntry) (ep:Nat):Prop:=∃ o,s.get? d = some o /\ o.ExactDict /\ o.data = .dict es ep
theorem vm {d:Addr} {es:Array DictEntry} {ep:Nat} {Q:Value -> Shared -> Prop} (hd:(d == sysModules) = false) (hm:DAt s.heap d es ep)
  (hQ:Q (.ref s.heap.objs.size) { s with heap:=s.heap.push { cls:=.type "dict_keyiterator",data:=.fields #[.ref d,.int 0 0,.int es.size 0,.int ep 0] } }):wpAny (model prog w) A (pyIter (.ref d)) Q E s:=by
 obtain ⟨o,ho,hc,hdat⟩:=hm
 have hT:s.TypeIs (.ref d) "dict" := ⟨o,ho,hc.1⟩
 refine wpAny_pyIter_slot hT F.slot_dict_iter (PR F.slot_dict_iter hT F.entry_dict_iter ?_ (F.args_dict_iter_1 _));unfold Builtin.«dict.__iter__»;refine OA ?_
 unfold Builtin.Dict.dictSlotNone;refine OA (Sn hT ?_);show wpAny _ _ (pure (Value.ref d)) _ _ s
 refine OE ?_;show wpAny _ _ (Builtin.Dict.showsAll d >>= _) _ _ s
 unfold Builtin.Dict.showsAll;rw [OB (by rw [hd];exact Px)]
 refine OA (OE (OA (Rz ho hdat (OA (wpAny_dictEpoch ho hdat (OA (Ps (OE ⟨_,rfl, "dict_keyiterator",_,⟨_,O3 _ rfl,rfl⟩,RB.lookup,?_⟩))))))))
 simpa [rawInt] using hQ
theorem yS {it d:Addr} {i ep:Nat} {es:Array DictEntry} {Q:Option Value -> Shared -> Prop} (hit:s.heap.IsKeyIter it d i es.size ep) (hm:DAt s.heap d es ep) (hlt:i < es.size)
  (hQ:∀ h',h'.IsKeyIter it d (i + 1) es.size ep -> Heap.SameBut it s.heap h' -> Q (some es[i].key) { s with heap:=h' }):wpAny (model prog w) A (pyNext (.ref it)) Q E s:=by
 obtain ⟨o,ho,hc,hd⟩:=id hit
 obtain ⟨od,hod,hcd,hdd⟩:=hm
 unfold pyNext;refine OA (Ri (QN (name:=Str.ofString "__next__") hit.typeIs RB (PR RB hit.typeIs F.entry_dict_keyiterator_next ?_ (F.args_dict_keyiterator_next_1 _))))
 refine OA (OE (OA (OA ?_)))
 first | refine OA (RY hit.typeIs (OE (OA (Q4 ho hd ?_)))) | refine OA (RZ hit.typeIs (OE (OA (Q4 ho hd ?_))))
 simp only [show Builtin.Dict_items.ownsTuple "dict_keyiterator" = false from by decide,Bool.false_eq_true,Qj]
 show wpAny _ _ (if (Value.ref d == Value.none) = true then _ else _) _ _ s;rw [OB (show ¬ ((Value.ref d == Value.none) = true) from Px)]
 refine OA (OE (OA (Rz hod hdd ?_)));rw [OB (by simp)]
 refine OA (OE (OA (wpAny_dictEpoch hod hdd ?_)));rw [OB (by simp)];refine OE ?_
 simp only [show ¬ ((i:Int) < 0) from by lia,Qj,Qe,PQ hlt];refine OA ?_
 first | refine OA (RY hit.typeIs (OE (OA (So hit.typeIs ?_)))) | refine OA (RZ hit.typeIs (OE (OA (So hit.typeIs ?_))))
 show wpAny _ _ (setField (.ref it) 1 (rawInt ((i:Int) + 1)) >>= _) _ _ s;refine OA (RC ho hd (by simp) ?_)
 have hit':(s.heap.update it (Obj.mapFields (·.setIfInBounds 1 (rawInt ((i:Int) + 1))))).IsKeyIter it d (i + 1) es.size ep:=⟨_,Pt _ ho (Rv (Qr hd _)),(RS ..).trans hc,by rw [Qr hd];simp [rawInt]⟩
 refine OA (Pp (OA (So (s:={ s with heap:=s.heap.update it (Obj.mapFields (·.setIfInBounds 1 (rawInt ((i:Int) + 1)))) }) hit'.typeIs ?_)))
 show wpAny _ _ (pure es[i].key) _ _ _;exact OE (OE ⟨_,rfl,OE (hQ _ hit' (RA ..))⟩)
theorem yR {it d:Addr} {i ep:Nat} {es:Array DictEntry} {Q:Option Value -> Shared -> Prop} (hh:A.handled = none) (hit:s.heap.IsKeyIter it d i es.size ep) (hm:DAt s.heap d es ep) (hge:es.size <= i)
  (hQ:∀ h',Heap.ExtBut it s.heap h' -> Q none { s with heap:=h' }):wpAny (model prog w) A (pyNext (.ref it)) Q E s:=by
 obtain ⟨o,ho,hc,hd⟩:=id hit
 obtain ⟨od,hod,hcd,hdd⟩:=hm
 unfold pyNext;refine OA (Ri (QN (name:=Str.ofString "__next__") hit.typeIs RB (PR RB hit.typeIs F.entry_dict_keyiterator_next ?_ (F.args_dict_keyiterator_next_1 _))))
 refine OA (OE (OA (OA ?_)))
 first | refine OA (RY hit.typeIs (OE (OA (Q4 ho hd ?_)))) | refine OA (RZ hit.typeIs (OE (OA (Q4 ho hd ?_))))
 simp only [show Builtin.Dict_items.ownsTuple "dict_keyiterator" = false from by decide,Bool.false_eq_true,Qj]
 show wpAny _ _ (if (Value.ref d == Value.none) = true then _ else _) _ _ s;rw [OB (show ¬ ((Value.ref d == Value.none) = true) from Px)]
 refine OA (OE (OA (Rz hod hdd ?_)));rw [OB (by simp)]
 refine OA (OE (OA (wpAny_dictEpoch hod hdd ?_)));rw [OB (by simp)];refine OE ?_
 simp only [show ¬ ((i:Int) < 0) from by lia,Qj,Qe,R0 hge];refine OA ?_
 first | refine OA (RY hit.typeIs (OE ?_)) | refine OA (RZ hit.typeIs (OE ?_)) ; skip
 show wpAny _ _ (setField (.ref it) 0 .none >>= _) _ _ s;refine OA (RC ho hd (by simp) ?_)
 show wpAny _ _ (newExc (.type "StopIteration") [] >>= _) _ _ _;refine OA ?_
 simp only [newExc,newTuple];refine OA (Ps ?_ (by size_fits))
 refine OA (m:=firstArgMember _ _) (Qq (a:=Value.none) (by first | rfl | (simp only [firstArgMember];rfl)) (Ps ?_ (by size_fits)))
 simp only [raiseNew];refine OA (wpAny_handled ?_);rw [show A.in1.handled = none from hh]
 refine OA (OE (QZ ?_));refine OA (Q0 (T := "StopIteration") (b:=true) ⟨_,O3 _ rfl,rfl⟩ isSubtype_stop ?_)
 exact OE (hQ _ (((RA ..).extBut.push _).push _))
end
end DY
namespace L2
open PySem PySem.Spec PyProof.Rows
section
variable {X:Cx} {pins:List (Addr × Obj)} {σ:St} {H:Hp} {s:Shared} {a b:Addr} {kvs:List (List Key × V)} {k:List Key} {v:V} {A:Around} {E:Value -> Shared -> Prop}
theorem KT.less {H:Hp} {kvs:List (List Key × V)} {xs:List (List Key × Addr × Value)} (r:KT H kvs xs) (k:List Key):KT H (u3 kvs k) (xs.filter fun x=>decide (x.1 ≠ k)):=by
 unfold KT at *
 induction r with
 | nil=>exact .nil
 | @cons p q l l' h t ih=>
  unfold u3 at *
  by_cases e:p.1 = k
  ·rw [Qt (by simpa using e),Qt (by rw [<- h.1];simpa using e)]
   exact ih
  ·rw [Q3 (by simpa using e),Q3 (by rw [<- h.1];simpa using e)]
   exact .cons h ih
noncomputable def rPopT:V -> List V -> Hp -> VK -> Prop:=fun x vs H Q=>∃ a b kvs k v,x = .ref a /\ vs = [.ref b] /\ H a = some (.dT kvs) /\ H b = some (.tup (k.map kV)) /\ jM kvs k = some v /\ Q v (upd H a (.dT (u3 kvs k)))
theorem Ce (hu:(tupleKind (bp X.prog X.w)).room X.A.in1):MtR X "dict.pop" rPopT:=by
 intro pins s σ H x vs v us Q I rx rv h
 obtain ⟨a,b,kvs,k,y,rfl,rfl,ea,eb,hv,q⟩:=h
 cases (show v = Value.ref a from rx)
 obtain ⟨u,rfl,ru⟩:=rv.one
 cases (show u = Value.ref b from ru)
 obtain ⟨z,hd,xs,rel,dd⟩:=ED I.hok ea
 have hz:xs.length <= sizeLine:=by rw [<- P7 rel];exact z
 have rk:=rel.val k
 rw [hv] at rk
 cases hp:atKey xs k with
 | none=>rw [hp] at rk;exact rk.elim
 | some p=>
  rw [hp] at rk
  refine DY.FG hu (oU I.hok eb) dd hp hz fun h' dd' hs=>⟨y,_,?_,rk,q⟩
  obtain ⟨o,es,ep,ho,h2,h3,h4,_,h5⟩:=dd'
  refine nr I (by rw [ea];exact True.intro) hs ⟨o,ho⟩ ⟨OW (EC _ _) z,hd,_,((show KT H kvs xs from rel).less k).keeps fun c ys ec=>?_,o,es,ep,ho,h2,h3,h4,h5⟩
  rw [aD (vA ec ea (fun z=>nomatch z))]
  exact ec
end
section
variable {X:Cx} {pins:List (Addr × Obj)} {σ:St} {H:Hp} {s:Shared} {a:Addr} {o:Obj} {kvs:List (List Key × V)}
theorem EN (I:Inv X pins σ H s) (e:H a = some (.dT kvs)):∃ o,s.heap.get? a = some o /\ Inv X pins σ (upd H a (.frz o (.dT kvs))) s:=by
 obtain ⟨z,hd,xs,rel,o,es,ep,ho,h2,h3,h4,h5⟩:=(show ObjOk X.prog X.w H s.heap a (.dT kvs) from I.hok a _ e)
 refine ⟨o,ho,?_⟩
 have:=nr (t':=s.toks) (h':=s.heap) (ob:=.frz o (.dT kvs)) I (by rw [e];exact True.intro) ⟨rfl,fun _ _=>rfl⟩ ⟨o,ho⟩ ⟨ho,z,hd,xs,Paired.mapP rel fun p q y=>⟨y.1,by rw [aD (vA y.2.1 e (fun z=>nomatch z))];exact y.2.1,y.2.2⟩,o,es,ep,ho,h2,h3,h4,h5⟩
 exact this
theorem Inv.thaw {u:HO} (I:Inv X pins σ H s) (e:H a = some (.frz o u)) (hn:∀ o' u',X.H₀ a ≠ some (.frz o' u')) (hu:(∀ x,u ≠ .own x) /\ (∀ xs,u ≠ .tup xs)):Inv X pins σ (upd H a u) s:=by
 have ne:∀ b x,H b = x -> (∀ o' u',x ≠ some (.frz o' u')) -> b ≠ a:=fun b x hb hx z=>by subst z;rw [e] at hb;exact hx _ _ hb.symm
 have n0:∀ b,H b = none -> upd H a u b = none:=fun b hb=>by rw [aD (ne b _ hb fun _ _ z=>by cases z)];exact hb
 exact {
  ok:=I.ok
  os:=I.os
  bare:=I.bare
  base:=⟨I.base.keep,I.base.slot,fun b ob q n hx=>n0 b (I.base.free b ob q n hx),I.base.there,fun b xs q=>by rw [aD (ne b _ (I.base.tups b xs q) fun _ _ z=>by cases z)];exact I.base.tups b xs q,
   fun b o' u' q=>by rw [aD fun z=>hn o' u' (by rw [<- z];exact q)];exact I.base.frzs b o' u' q,fun b ps q=>by
    obtain ⟨m,em⟩:=I.base.tbls b ps q
    exact ⟨m,by rw [aD (ne b _ em fun _ _ z=>by cases z)];exact em⟩⟩
  loc:=I.loc
  cell:=I.cell
  free:=n0 _ I.free
  freeC:=fun x c q=>n0 _ (I.freeC x c q)
  pin:=fun p hp=>by
   obtain ⟨q1,q2,q3⟩:=I.pin p hp
   exact ⟨q1,n0 _ q2,q3⟩
  hok:=fun b w hb=>by
   have st:∀ w',ObjOk X.prog X.w H s.heap b w' -> ObjOk X.prog X.w (upd H a u) s.heap b w':=fun w' ok=>ok.stay (fun _ _ _ z=>z) (fun c hc=>by rw [aD (ne c _ hc fun _ _ z=>by cases z)];exact hc) fun c xs hc=>by rw [aD (ne c _ hc fun _ _ z=>by cases z)];exact hc
   by_cases hba:b = a
   ·subst hba
    rw [aB] at hb
    cases hb
    exact st _ (I.hok b _ e).2
   ·rw [aD hba] at hb
    exact st w (I.hok b w hb)
  len:=I.len }
end
theorem pb {α β:Type} {F:α -> β -> Prop}:∀ {l:List α} {m:List β} {i:Nat} {y:β},Paired F l m -> m[i]? = some y -> ∃ p,l[i]? = some p /\ F p y
 | _,_,_,_,.nil,h=>by simp at h
 | _,_,0,_,.cons r _,h=>by simp at h;subst h;exact ⟨_,rfl,r⟩
 | _,_,i + 1,_,.cons _ t,h=>by simpa using pb t (by simpa using h)
noncomputable def Gv (i:Nat) (t:TE):TE:=fun σ H Q=>∃ a kvs,σ[i]? = some (some (.ref a)) /\ H a = some (.dT kvs) /\ ∀ o,t σ (upd H a (.frz o (.dT kvs))) fun v H2=>H2 a = some (.frz o (.dT kvs)) /\ Q v (upd H2 a (.dT kvs))
theorem q9 {X:Cx} {e:Expr} {t:TE} (i:Nat) (h:PE X e t):PE X e (Gv i t):=by
 intro pins s σ H Q I q
 obtain ⟨a,kvs,_,ea,q⟩:=q
 obtain ⟨o,ho,I1⟩:=EN I ea
 refine thn (h pins s σ _ _ I1 (q o)) fun v s1 h1=>?_
 obtain ⟨x,H2,I2,r2,e2,q2⟩:=h1
 refine ⟨x,_,I2.thaw e2 (fun o' u' z=>?_) ⟨fun _ z=>(nomatch z),fun _ z=>(nomatch z)⟩,r2,q2⟩
 have:=I.base.frzs a o' u' z
 rw [ea] at this
 cases this
noncomputable def Itd (a:Addr) (o:Obj) (kvs:List (List Key × V)):It:=
 ⟨fun i H=>H a = some (.frz o (.dT kvs)) /\ i < kvs.length,fun i H x H'=>H' = H /\ ∃ b k v,kvs[i]? = some (k,v) /\ x = .ref b /\ H b = some (.tup (k.map kV)),fun i H=>H a = some (.frz o (.dT kvs)) /\ kvs.length <= i⟩
noncomputable def Hr (te:TE):TI:=fun σ H R=>te σ H fun x H1=>∃ a o kvs,x = .ref a /\ H1 a = some (.frz o (.dT kvs)) /\ R (Itd a o kvs) H1
theorem GC {P:Program} {w:World} {K:W.Frag} {tg:Expr} {es:Array DictEntry} {ep:Nat} {o:Obj} {kvs:List (List Key × V)} (a it:Addr) (ho:o.data = .dict es ep) (hx:o.ExactDict) (hl:es.size = kvs.length):Turn P w K tg (Itd a o kvs) [it] it (fun i h=>h.IsKeyIter it a i es.size ep) where
 mem:=by simp
 obj:=fun i h st b hb=>by
  obtain ⟨q,e,c,d⟩:=st
  rw [OO.mp hb]
  exact ⟨q,e,fun v z=>by rw [d] at z;cases z⟩
 keep:=fun i h h' st k=>st.at fun o e=>k it (by simp) o e
 item:=by
  intro X hP hw hK hc i pins s σ H E I hf st hg
  subst hP hw hK
  obtain ⟨ea,hi⟩:=hg
  obtain ⟨g1,z,hd,xs,rel,o',es',ep',h1,h2,h3,h4,h5⟩:=(show ObjOk X.prog X.w H s.heap a (.frz o (.dT kvs)) from I.hok a _ ea)
  rw [g1] at h1
  cases h1
  rw [ho] at h3
  cases h3
  obtain ⟨f0,f1,f2,f3,f4,f5⟩:=hf it (by simp)
  have hlt:i < es.size:=by rw [hl];exact hi
  refine DY.yS st ⟨o,g1,hx,ho⟩ hlt fun h' st' sb=>?_
  have I1:Inv X pins σ H { s with heap:=h' }:=I.turned (t':=s.toks) (fun b o hb e=>(sb.2 b hb).trans e) f0 f1 f3 f4 f5
  obtain ⟨q,e,c,d⟩:=id st'
  have hxi:es[i]? = (xs[i]?).map (entryOfKey (tupleKind (bp X.prog X.w))):=entry_at h4 i
  rw [PQ hlt] at hxi
  cases qx:xs[i]? with
  | none=>rw [qx] at hxi;cases hxi
  | some y=>
   rw [qx] at hxi
   have ek:es[i] = entryOfKey (tupleKind (bp X.prog X.w)) y:=Pj hxi
   obtain ⟨p,qp,r1,r2,r3⟩:=pb rel qx
   refine ⟨_,rfl,yz (s:={ s with heap:=h' }) e c d (by decide) ⟨.ref y.2.1,H,I1,?_,⟨rfl,y.2.1,p.1,p.2,qp,rfl,r2⟩,st',fun b hb=>(hf b hb).1⟩⟩
   rw [ek]
   rfl
 done:=by
  intro X hP hw hK hc i pins s σ H E I hf st hg
  subst hP hw hK
  obtain ⟨ea,hi⟩:=hg
  obtain ⟨g1,_⟩:=(show ObjOk X.prog X.w H s.heap a (.frz o (.dT kvs)) from I.hok a _ ea)
  obtain ⟨f0,f1,f2,f3,f4,f5⟩:=hf it (by simp)
  exact DY.yR (I.ok.hd hc) st ⟨o,g1,hx,ho⟩ (by rw [hl];exact hi) fun h' eb=>⟨rfl,I.turned (t':=s.toks) (fun b o hb e=>eb b o hb e) f0 f1 f3 f4 f5⟩
 self:=fun _ _ _ _ _ st h=>wpAny_pyIter_keyiter st h
theorem Bc {X:Cx} {tg l:Expr} {tl:TE} (hl:PE X l tl):PI X tg l (Hr tl):=by
 intro pins s σ H R I h
 refine thn (hl pins s σ H _ I h) fun v s1 h1=>?_
 obtain ⟨x,H1,I1,r1,a,o,kvs,e,ea,q⟩:=h1
 subst e
 cases r1
 obtain ⟨g1,z,hd,xs,rel,o',es,ep,h1,h2,h3,h4,h5⟩:=(show ObjOk X.prog X.w H1 s1.heap a (.frz o (.dT kvs)) from I1.hok a _ ea)
 rw [g1] at h1
 cases h1
 have hsz:es.size = kvs.length:=by rw [size_of_entries h4,P7 rel]
 refine DY.vm hd ⟨o,g1,h2,h3⟩ ⟨s1.heap.objs.size,[s1.heap.objs.size],_,_,H1,rfl,I1.kept (t':=s1.toks) fun b o e=>OT _ e,GC a _ h3 h2 hsz,⟨_,O3 _ rfl,rfl,rfl⟩,fun b hb=>?_,q⟩
 rw [OO.mp hb]
 exact I1.fpOk (OH _) I1.fresh
noncomputable def IR:List V -> Hp -> VK -> Prop:=fun vs H Q=>∃ l,∃ es:List (Addr × Addr × List Key × V),vs = [.ref l] /\ H l = some (.lst (es.map fun e=>.ref e.1)) /\ (∀ e ∈ es,H e.1 = some (.tup [.ref e.2.1,e.2.2.2]) /\ H e.2.1 = some (.tup (e.2.2.1.map kV))) /\
 es.length < sizeLine /\ ∀ p,H p = none -> Q (.ref p) (upd H p (.dT (kO [] (es.map fun e=>(e.2.2.1,e.2.2.2)))))
theorem HV {P:Program} {w:World} {A:Around} (h:A.units + 64 < cLine):(tupleKind (bp P w)).room A.in1.in1:=Ru (show A.units + 1 + 1 < cLine from Pw (by lia) h)
theorem Am {X:Cx} (hu:(tupleKind (bp X.prog X.w)).room X.A.in1.in1) (hc:X.calm = true):CallR X (.type "dict") IR:=by
 intro pins s σ H xs us Q I r h
 obtain ⟨l,es,rfl,el,he,hl,q⟩:=h
 obtain ⟨u,rfl,ru⟩:=r.one
 cases (show u = Value.ref l from ru)
 have hn:=I.hok.fresh (OH s.heap.objs.size)
 have I1:=I.laid (a:=s.heap.objs.size) (o:=.dT []) (h':=s.heap.push { cls:=.type "dict",data:=.dict #[] }) (t':=s.toks) (fun _ _ q=>OT _ q) (OH _) (yj s.heap I.big)
 have nl:l ≠ s.heap.objs.size:=a7 el hn
 have ek:∀ {b u},H b = some u -> upd H s.heap.objs.size (.dT []) b = some u:=fun {b u} z=>by rw [aD (a7 z hn)];exact z
 obtain ⟨hll,its,n,rl,hol⟩:=(show ObjOk X.prog X.w (upd H s.heap.objs.size (.dT [])) (s.heap.push { cls:=.type "dict",data:=.dict #[] }) l (.lst (es.map fun e=>V.ref e.1)) from I1.hok l _ (ek el))
 refine callType_codes (Q₁:=fun obj s₁=>obj = .ref s.heap.objs.size /\ s₁ = { s with heap:=s.heap.push { cls:=.type "dict",data:=.dict #[] } }) F.kt_called_dict (F.kt_typeCall_dict_1 _) F.entry_dict_init (kt_code_dict_new _ ⟨rfl,rfl⟩) ?_
 rintro obj s₁ ⟨rfl,rfl⟩
 have hTa:({ s with heap:=s.heap.push { cls:=.type "dict",data:=.dict #[] } }:Shared).TypeIs (.ref s.heap.objs.size) "dict" := ⟨_,O3 _ rfl,rfl⟩
 have hTl:({ s with heap:=s.heap.push { cls:=.type "dict",data:=.dict #[] } }:Shared).TypeIs (.ref l) "list" := ⟨_,hol,rfl⟩
 have hh:X.A.in1.handled = none:=I.ok.hd hc
 refine ⟨hTa,F.args_dict_init_2 _ _,?_⟩
 unfold Builtin.«dict.__init__»;refine OA ?_
 unfold Builtin.Dict.selfAndRest;refine OA (Sn hTa ?_)
 show wpAny _ _ (pure (s.heap.objs.size,[Value.ref l])) _ _ _;refine OE ?_
 show wpAny _ _ (Builtin.Dict.updateFrom "dict.__init__" s.heap.objs.size (.ref l) [] .none) _ _ _
 unfold Builtin.Dict.updateFrom;refine OA (P9 hTl ?_);rw [OC (by decide)]
 refine OA (DX.Dt hh hol fun h' tk' hk=>?_)
 rw [OC (show (none:Option Value).isNone = true from rfl)];refine OA (PL ?_)
 have I2:Inv X pins σ (upd H s.heap.objs.size (.dT [])) { s with heap:=h',toks:=tk' }:=I1.kept (t':=tk') hk
 obtain ⟨its1,rl1,pl1,_⟩:=I2.list (.inl (.inl (ek el)))
 refine OA (wpAny_pyIter_list pl1.isList ?_)
 have I3:Inv X pins σ (upd H s.heap.objs.size (.dT [])) { s with heap:=h'.push { cls:=.type "list_iterator",data:=.fields #[.ref l,.int 0 0] },toks:=tk' }:=I2.kept (t':=tk') fun b o e=>OT _ e
 refine OE ⟨QJ DX.jG _,?_⟩
 refine zW (A:=X.A.in1) (xs:=es.map fun e=>V.ref e.1) (pins:=pins) (σ:=σ) hu hh es 0 [] _ _ I3 aB (I2.fpOk (OH _) (I2.hok.fresh (OH _))) ⟨_,O3 _ rfl,rfl,rfl⟩ (ek el) (by rw [List.drop_zero]) (fun e h'=>?_) (by simpa using hl) fun s' I'=>?_
 ·obtain ⟨z1,z2⟩:=he e h'
  exact ⟨ek z1,ek z2⟩
 ·rw [CM] at I'
  exact ⟨rfl,.ref s.heap.objs.size,_,I',rfl,q _ hn⟩
end L2
namespace M
open PySem L2
section
variable {K:W.Frag} {S S' H H':Hp}
mutual
noncomputable def fZ:D -> Bool
 | .dic _=>false
 | .dif _=>false
 | .lst l=>noDics l
 | .tup l=>noDics l
 | .scr l=>noDics l
 | .mtp l=>noDics l
 | .ins _ _ l=>noDics l
 | _=>true
noncomputable def noDics:List D -> Bool
 | []=>true
 | d :: l=>fZ d && noDics l
end
mutual
theorem Den.less {a:Addr} {o:Obj} {kvs:List (List Key × V)} (hs:∀ b,b ≠ a -> S' b = S b) (ha:S a = some (.frz o (.dT kvs))):∀ {d:D} {v:V},fZ d = true -> Den K S d v -> Den K S' d v
 | .dic _,_,n,_=>by unfold fZ at n;cases n
 | .dif _,_,n,_=>by unfold fZ at n;cases n
 | .non,_,_,h=>by unfold Den at *;exact h
 | .bl _,_,_,h=>by unfold Den at *;exact h
 | .int _,_,_,h=>by unfold Den at *;exact h
 | .str _,_,_,h=>by unfold Den at *;exact h
 | .ty _,_,_,h=>by unfold Den at *;exact h
 | .lst l,_,n,h=>by
  unfold fZ at n
  obtain ⟨p,xs,e,h1,h2⟩:=den_lst.mp h
  refine den_lst.mpr ⟨p,xs,e,?_,Dens.less hs ha n h2⟩
  rcases h1 with h1 | ⟨q,h1⟩
  ·exact .inl (by rw [hs p fun z=>by subst z;rw [ha] at h1;cases h1];exact h1)
  ·exact .inr ⟨q,by rw [hs p fun z=>by subst z;rw [ha] at h1;cases h1];exact h1⟩
 | .tup l,_,n,h=>by
  unfold fZ at n
  obtain ⟨p,xs,e,h1,h2⟩:=den_tup.mp h
  exact den_tup.mpr ⟨p,xs,e,(show S' p = some (.tup xs) by rw [hs p fun z=>by subst z;rw [show S p = some (.tup xs) from h1] at ha;cases ha];exact h1),Dens.less hs ha n h2⟩
 | .scr l,_,n,h=>by
  unfold fZ at n
  obtain ⟨p,xs,e,h1,h2⟩:=den_scr.mp h
  refine den_scr.mpr ⟨p,xs,e,?_,Dens.less hs ha n h2⟩
  rcases h1 with (h1 | ⟨q,h1⟩) | h1
  ·exact .inl (.inl (by rw [hs p fun z=>by subst z;rw [ha] at h1;cases h1];exact h1))
  ·exact .inl (.inr ⟨q,by rw [hs p fun z=>by subst z;rw [ha] at h1;cases h1];exact h1⟩)
  ·exact .inr h1
 | .mtp l,_,n,h=>by
  unfold fZ at n
  obtain ⟨p,xs,e,h1,h2⟩:=den_mtp.mp h
  refine den_mtp.mpr ⟨p,xs,e,?_,Dens.less hs ha n h2⟩
  rcases h1 with (h1 | ⟨q,h1⟩) | h1
  ·exact .inl (.inl (by rw [hs p fun z=>by subst z;rw [ha] at h1;cases h1];exact h1))
  ·exact .inl (.inr ⟨q,by rw [hs p fun z=>by subst z;rw [ha] at h1;cases h1];exact h1⟩)
  ·exact .inr h1
 | .ins _ _ l,_,n,h=>by
  unfold fZ at n
  obtain ⟨p,C,dx,fs,e,h0,h1,h2,h3⟩:=den_ins.mp h
  exact den_ins.mpr ⟨p,C,dx,fs,e,h0,by rw [hs p fun z=>by subst z;rw [ha] at h1;cases h1];exact h1,h2,Dens.less hs ha n h3⟩
theorem Dens.less {a:Addr} {o:Obj} {kvs:List (List Key × V)} (hs:∀ b,b ≠ a -> S' b = S b) (ha:S a = some (.frz o (.dT kvs))):∀ {ds:List D} {xs:List V},noDics ds = true -> Dens K S ds xs -> Dens K S' ds xs
 | [],_,_,h=>by rw [h.nil_of];exact .nil
 | _ :: _,_,n,h=>by
  unfold noDics at n
  obtain ⟨n1,n2⟩:=Sq.mp n
  obtain ⟨y,ys,rfl,a,b⟩:=h.cons_of
  exact .cons (Den.less hs ha n1 a) (Dens.less hs ha n2 b)
end
noncomputable def ksO:Sl -> Option (List (List Int))
 | .ow (.dic ks)=>some ks
 | .ow (.hd _ ks [])=>some ks
 | _=>none
noncomputable def reD (ks:List (List Int)):Sl -> Sl
 | .ow (.dic _)=>.ow (.dic ks)
 | .ow (.hd p _ [])=>.ow (.hd p ks [])
 | s=>s
@[simp] theorem Ca (ks:List (List Int)):ksO (.ow (.dic ks)) = some ks:=rfl
@[simp] theorem E7 (p:Addr) (ks:List (List Int)):ksO (.ow (.hd p ks [])) = some ks:=rfl
@[simp] theorem Mf (ks ks':List (List Int)):reD ks (.ow (.dic ks')) = .ow (.dic ks):=rfl
@[simp] theorem MB (p:Addr) (ks ks':List (List Int)):reD ks (.ow (.hd p ks' [])) = .ow (.hd p ks []):=rfl
theorem HN {s:Sl} {ks:List (List Int)} (h:ksO s = some ks):∃ o,s = .ow o /\ (∀ S H v fp,Own K S H o v fp -> ∃ a,v = .ref a /\ fp = [a] /\ H a = some (.dT (bn ks))) /\ (∀ S H v fp,Own K S H o v fp -> ∀ a,v = .ref a -> ∀ (S' H':Hp) ks',H' a = some (.dT (bn ks')) -> ∃ o',reD ks' s = .ow o' /\ Own K S' H' o' (.ref a) [a]):=by
 unfold ksO at h
 split at h
 ·cases h
  refine ⟨_,rfl,fun S H v fp ow=>own_dic.mp ow,fun S H v fp ow a e S' H' ks' hh=>⟨_,rfl,own_dic.mpr ⟨a,rfl,rfl,hh⟩⟩⟩
 ·cases h
  refine ⟨_,rfl,fun S H v fp ow=>?_,fun S H v fp ow a e S' H' ks' hh=>⟨_,rfl,?_⟩⟩
  ·obtain ⟨xs,f,e,e2,h1,h2⟩:=own_hd.mp ow
   obtain ⟨rfl,rfl⟩:=h2.nil_of
   exact ⟨_,e,e2,h1⟩
  ·obtain ⟨xs,f,e1,e2,h1,h2⟩:=own_hd.mp ow
   obtain ⟨rfl,rfl⟩:=h2.nil_of
   rw [e] at e1
   cases e1
   exact own_hd.mpr ⟨[],[],rfl,rfl,hh,.nil⟩
 ·cases h
section
variable {A:Hp} {Λ:Nat -> Option Addr} {Φ:Nat -> List Addr} {ρ:Env} {σ:St} {i:Nat} {s:Sl} {ks:List (List Int)}
theorem RlF.dicO (f:RlF K A Λ Φ ρ σ S H) (h:ρ[i]? = some s) (hk:ksO s = some ks):∃ a,σ[i]? = some (some (.ref a)) /\ H a = some (.dT (bn ks)) /\ S a = none /\ A a = none /\ (∀ (j:Nat) o',j ≠ i -> ρ[j]? = some (.ow o') -> a ∉ Φ j) /\
  ∀ ks',RlF K A Λ Φ (ρ.set i (reD ks' s)) σ S (upd H a (.dT (bn ks'))):=by
 obtain ⟨o,rfl,w1,w2⟩:=HN (K:=K) hk
 obtain ⟨v,ev,ow,nd,n⟩:=f.ow i _ h
 obtain ⟨a,rfl,hfp,ha⟩:=w1 _ _ _ _ ow
 have ain:a ∈ Φ i:=by rw [hfp];exact OI
 have oth:∀ (j:Nat) o',j ≠ i -> ρ[j]? = some (.ow o') -> a ∉ Φ j:=fun j o' hj e1 z=>f.dj j i o' _ hj e1 h a z ain
 refine ⟨a,ev,ha,(n a ain).1,(n a ain).2,oth,fun ks'=>?_⟩
 obtain ⟨o2,e2,ow2⟩:=w2 _ _ _ _ ow a rfl S (upd H a (.dT (bn ks'))) ks' aB
 rw [e2]
 have ne:∀ b,b ≠ a -> upd H a (.dT (bn ks')) b = H b:=fun b hb=>aD hb
 have fin:=f.put (H':=upd H a (.dT (bn ks'))) i (fun b u e=>by rw [ne b fun z=>by subst z;rw [(n b ain).1] at e;cases e];exact f.sub b u e) (fun b u e=>by rw [ne b fun z=>by subst z;rw [(n b ain).2] at e;cases e];exact f.asub b u e) ow2 (by simp) (fun b hb=>by rw [OO.mp hb];exact n a ain) fun j o' hj e1 b hb=>by
  have nb:b ≠ a:=fun z=>oth j o' hj e1 (by rw [<- z];exact hb)
  exact ⟨ne b nb,fun z=>nb (OO.mp z)⟩
 rw [tF ev] at fin
 have hΦ:(fun j=>if j = i then [a] else Φ j) = Φ:=by
  funext j
  by_cases hj:j = i
  ·rw [OC hj,hj,hfp]
  ·rw [OB hj]
 rw [hΦ] at fin
 exact fin
theorem RlF.melt (f:RlF K A Λ Φ ρ σ S H) (h:ρ[i]? = some s) (hk:ksO s = some ks):∃ a,σ[i]? = some (some (.ref a)) /\ H a = some (.dT (bn ks)) /\ S a = none /\
  ∀ o,RlF K A Λ Φ (ρ.set i (.sh (.dif ks))) σ (upd S a (.frz o (.dT (bn ks)))) (upd H a (.frz o (.dT (bn ks)))):=by
 obtain ⟨a,ev,ha,sa,aa,oth,_⟩:=f.dicO h hk
 refine ⟨a,ev,ha,sa,fun o=>?_⟩
 have s1:Same S (upd S a (.frz o (.dT (bn ks)))):=fun b u e=>by rw [aD (a7 e sa)];exact e
 exact {
  len:=by rw [Qb];exact f.len
  sub:=fun b u e=>by
   by_cases hb:b = a
   ·subst hb;rw [aB] at e ⊢;exact e
   ·rw [aD hb] at e ⊢;exact f.sub b u e
  sh:=fun j d hj=>by
   rcases bv hj with ⟨rfl,e,_⟩ | ⟨hij,hj⟩
   ·cases e
    exact ⟨_,ev,den_dif.mpr ⟨a,o,rfl,aB⟩⟩
   ·obtain ⟨v,e1,e2⟩:=f.sh j d hj
    exact ⟨v,e1,e2.mono s1⟩
  ow:=fun j o' hj=>by
   rcases bv hj with ⟨rfl,e,_⟩ | ⟨hij,hj⟩
   ·cases e
   ·obtain ⟨v,e1,e2,e3,e4⟩:=f.ow j o' hj
    have nb:∀ b ∈ Φ j,b ≠ a:=fun b hb z=>oth j o' (O8 hij) hj (by rw [<- z];exact hb)
    exact ⟨v,e1,e2.mono s1 fun b hb=>aD (nb b hb),e3,fun b hb=>⟨by rw [aD (nb b hb)];exact (e4 b hb).1,(e4 b hb).2⟩⟩
  dj:=fun j k o1 o2 hjk g1 g2=>by
   rcases bv g1 with ⟨rfl,e,_⟩ | ⟨_,g1⟩
   ·cases e
   ·rcases bv g2 with ⟨rfl,e,_⟩ | ⟨_,g2⟩
    ·cases e
    ·exact f.dj j k o1 o2 hjk g1 g2
  lo:=fun j hj=>by
   rcases bv hj with ⟨rfl,e,_⟩ | ⟨_,hj⟩
   ·cases e
   ·exact f.lo j hj
  asub:=fun b u e=>by rw [aD fun z=>by subst z;rw [aa] at e;cases e];exact f.asub b u e
  adis:=fun b=>by
   by_cases hb:b = a
   ·subst hb;exact .inr (.inl aa)
   ·rw [aD hb];exact f.adis b }
end
theorem vw {a:Addr} {o:Obj} {kvs:List (List Key × V)} (s:Same S H) (sa:S a = none) (ha:H a = some (.dT kvs)) (z:Ext (upd S a (.frz o (.dT kvs))) (upd H a (.frz o (.dT kvs))) S' H') :
  S' a = some (.frz o (.dT kvs)) /\ H' a = some (.frz o (.dT kvs)) /\ Ext S H (fun b=>if b = a then none else S' b) (upd H' a (.dT kvs)):=by
 have e1:=z.sh a _ aB
 refine ⟨e1,z.sub a _ e1,fun b u e=>?_,fun b u e=>?_,fun b u e n=>?_⟩
 ·have hb:=a7 e sa
  rw [OB hb]
  exact z.sh b u (by rw [aD hb];exact e)
 ·by_cases hb:b = a
  ·rw [OC hb] at e;cases e
  ·rw [OB hb] at e
   rw [aD hb]
   exact z.sub b u e
 ·by_cases hb:b = a
  ·subst hb
   rw [aB,OC rfl,<- ha]
   exact ⟨e,.inl rfl⟩
  ·rw [aD hb,OB hb]
   exact z.alw b u (by rw [aD hb];exact e) (by rw [aD hb];exact n)
@[simp] noncomputable def n8 (i:Nat) (e:XE):XE:=fun ρ=>((ρ[i]?).bind ksO).bind fun ks=>(e (ρ.set i (.sh (.dif ks)))).bind fun d=>if fZ d = true then some d else none
theorem bind_some {α β:Type} {x:Option α} {f:α -> Option β} {b:β} (h:x.bind f = some b):∃ a,x = some a /\ f a = some b:=Option.bind_eq_some_iff.mp h
theorem Bn {t:TE} {e:XE} (i:Nat) (h:SE K t e):SE K (Gv i t) (n8 i e):=fun ρ σ S H Q d r x k=>by
 obtain ⟨ks,x1,x⟩:=bind_some x
 obtain ⟨s,qs,hk⟩:=bind_some x1
 obtain ⟨d',qe,x⟩:=bind_some x
 split at x
 ·rename_i hn
  cases x
  obtain ⟨A,Λ,Φ,f⟩:=r
  obtain ⟨a,ev,ha,sa,up⟩:=f.melt qs hk
  refine ⟨a,_,ev,ha,fun o=>h _ σ _ _ _ d ⟨A,Λ,Φ,up o⟩ qe fun v S1 H1 z1 d1=>?_⟩
  obtain ⟨e1,e2,z⟩:=vw f.sub sa ha z1
  exact ⟨e2,k v _ _ z (d1.less (fun b hb=>OB hb) e1 hn)⟩
 ·cases x
@[simp] noncomputable def tY (i:Nat) (e:XA):XA:=fun ρ=>((ρ[i]?).bind ksO).bind fun ks=>(e (ρ.set i (.sh (.dif ks)))).bind fun l=>if noDics l = true then some l else none
theorem Ia {t:TE} {e:XA} (i:Nat) (h:SF K t e):SF K (Gv i t) (tY i e):=fun ρ σ S H Q l r x k=>by
 obtain ⟨ks,x1,x⟩:=bind_some x
 obtain ⟨s,qs,hk⟩:=bind_some x1
 obtain ⟨d',qe,x⟩:=bind_some x
 split at x
 ·rename_i hn
  cases x
  obtain ⟨A,Λ,Φ,f⟩:=r
  obtain ⟨a,ev,ha,sa,up⟩:=f.melt qs hk
  refine ⟨a,_,ev,ha,fun o=>h _ σ _ _ _ l ⟨A,Λ,Φ,up o⟩ qe fun b xs S1 H1 z1 h1 h2 h3 d1=>?_⟩
  obtain ⟨e1,e2,z⟩:=vw f.sub sa ha z1
  have hb:b ≠ a:=fun z=>by subst z;rw [aB] at h1;cases h1
  exact ⟨e2,k b xs _ _ z (by rw [aD hb] at h1;exact h1) (by show (if b = a then none else S1 b) = none;rw [OB hb];exact h2) (by rw [aD hb];exact h3) (d1.less (fun b hb=>OB hb) e1 hn)⟩
 ·cases x
noncomputable def Ez (ks:List (List Int)) (q:List Int):List (List Int):=ks.filter fun k=>decide (k ≠ q)
theorem yi (q:List Int):∀ ks:List (List Int),u3 (bn ks) (kI q) = bn (Ez ks q)
 | []=>rfl
 | k :: ks=>by
  have ih:=yi q ks
  unfold u3 Ez bn at *
  rw [OQ]
  by_cases h:k = q
  ·subst h
   rw [Qt (by simp),Qt (by simp)]
   exact ih
  ·rw [Q3 (by simpa using fun z=>h (AL z)),Q3 (by simpa using h),OQ,ih]
theorem zX (q:List Int):∀ ks:List (List Int),ks.contains q = true -> jM (bn ks) (kI q) = some (.bl true)
 | [],h=>by cases h
 | k :: ks,h=>by
  by_cases e:k = q
  ·subst e
   exact kU rfl
  ·show jM ((kI k,V.bl true) :: bn ks) (kI q) = _
   rw [kT (fun z=>e (AL z))]
   refine zX q ks ?_
   rw [List.contains_cons] at h
   have:(q == k) = false:=by simpa using fun z=>e z.symm
   rw [this,Bool.false_or] at h
   exact h
@[simp] noncomputable def z8 (i:Nat) (k:XE):XS:=fun ρ=>(ρ[i]?).bind fun s=>(ksO s).bind fun ks=>(k ρ).bind fun d=>(kyD d).bind fun q=>if ks.contains q = true then some (.nx (ρ.set i (reD (Ez ks q) s))) else none
theorem F8 {tk:TE} {k:XE} {i:Nat} (h:SE K tk k):SS K (zO (tBM K "dict" rPopT (g6 i) (eW tk mV))) (z8 i k):=fun A Λ ρ σ S H E o r x c=>by
 obtain ⟨s,qs,x⟩:=bind_some x
 obtain ⟨ks,hk,x⟩:=bind_some x
 obtain ⟨d,qk,x⟩:=bind_some x
 obtain ⟨q,qd,x⟩:=bind_some x
 split at x
 ·rename_i hc
  cases x
  obtain ⟨Φ,f⟩:=r
  obtain ⟨a,ev,ha,_⟩:=f.dicO qs hk
  refine ⟨.ref a,ev,.inr (.inr (.inl ⟨rfl,.inr ⟨_,ha⟩⟩)),h ρ σ S H _ d ⟨A,Λ,Φ,f⟩ qk fun v S1 H1 z1 d1=>?_⟩
  obtain ⟨b,rfl,hb⟩:=ss d1 qd
  obtain ⟨a',ev',ha',_,_,_,up⟩:=(f.ext z1).dicO qs hk
  rw [ev] at ev'
  cases ev'
  refine ⟨a,b,_,kI q,.bl true,rfl,rfl,ha',z1.sub b _ hb,zX q ks hc,?_⟩
  rw [yi]
  exact c σ S1 _ ⟨Φ,up _⟩ z1.sh
 ·cases x
@[simp] noncomputable def xK (e:XA):Env -> Option O:=fun ρ=>(e ρ).bind fun l=>(kK l).bind fun qs=>if l.length < LIM then some (.dic (qs.foldl p7 [])) else none
theorem HZ {te:TE} {e:XA} (h:SF K te e):STr K (tCB IR (eW te mV)) (xK e):=fun ρ σ S H Q o r x c=>by
 obtain ⟨l,qe,x⟩:=bind_some x
 obtain ⟨qs,qp,x⟩:=bind_some x
 split at x
 ·rename_i hl
  cases x
  refine h ρ σ S H _ l r qe fun p xs S1 H1 z1 hp hs1 hp1 d1=>?_
  obtain ⟨es,e1,e2,e3⟩:=zc z1.sub d1 qp
  refine ⟨p,es,rfl,by rw [<- e1];exact hp1,e2,?_,fun a ha=>?_⟩
  ·have:=d1.length
   have e4:es.length = xs.length:=by rw [e1,OJ]
   exact Rr (by lia) fg
  ·rw [e3,show ([]:List (List Key × V)) = bn [] from rfl,tj]
   have h0:H a = none:=(z1.same r.sub).free ha
   have z2:Ext S1 H1 S1 (upd H1 a (.dT (bn (qs.foldl p7 [])))):=Ext.own z1.sub ha
   exact c (.ref a) [a] S1 _ (z1.trans z2) (own_dic.mpr ⟨a,rfl,rfl,aB⟩) (by simp) fun b hb=>by rw [OO.mp hb];exact ⟨h0,z1.sub.free ha⟩
 ·cases x
end
section
variable {K:W.Frag} {S S' H H':Hp}
def Jq (J:It) (S H:Hp) (l:List D):Prop:=∀ S' H',Ext S H S' H' ->
 (∀ i d,l[i]? = some d -> J.go i H' /\ ∀ x H'',J.yld i H' x H'' -> H'' = H' /\ ∃ b,∃ k:List Int,d = .tup (k.map .int) /\ x = .ref b /\ H' b = some (.tup (k.map V.int))) /\ J.stop l.length H'
def SIT (K:W.Frag) (wi:TI) (e:XA):Prop:=∀ ρ σ S H (R:It -> Hp -> Prop) l,Rl K ρ σ S H -> e ρ = some l -> (∀ J S' H',Ext S H S' H' -> Jq J S' H' l -> R J H') -> wi σ H R
def SGT (K:W.Frag) (g:TG) (x:XG):Prop:=∀ A Λ ρ σ S H b (k:List Int) (Q:St -> Hp -> Prop) ρ',RlA K A Λ ρ σ S H -> H b = some (.tup (k.map V.int)) -> x (.tup (k.map .int)) ρ = some ρ' -> (∀ σ',RlA K A Λ ρ' σ' S H -> Q σ' H) -> g (.ref b) σ H Q
theorem AI {gs:TGs} {y:XGs} {n:Nat} (hs:SGs K gs y) (hl:yJ y n):SGT K (Hl K n gs) (a8 y):=fun A Λ ρ σ S H b k Q ρ' r hb e c=>
 ⟨b,k.map V.int,rfl,SqT.of hb,by rw [OJ,<- hl (k.map D.int) ρ ρ' e,OJ],hs A Λ ρ σ S H _ (k.map D.int) Q ρ' r (oE k) e c⟩
@[simp] noncomputable def qS (i:Nat):XA:=fun ρ=>match ρ[i]? with | some (.sh (.dif ks))=>some (ks.map fun k=>.tup (k.map .int)) | _=>none
theorem II (i:Nat):SIT K (Hr (g6 i)) (qS i):=fun ρ σ S H R l r x c=>by
 unfold qS at x
 split at x
 ·rename_i ks q
  cases x
  obtain ⟨v,ev,dv⟩:=r.sh i _ q
  obtain ⟨a,o,rfl,ha⟩:=den_dif.mp dv
  refine ⟨.ref a,ev,a,o,_,rfl,r.sub _ _ ha,c _ S H (Ext.refl r.sub) fun S' H' z=>?_⟩
  have ha':=z.sub a _ (z.sh a _ ha)
  have hl:(bn ks).length = ks.length:=nu ks
  refine ⟨fun j d hd=>⟨⟨ha',?_⟩,fun x H'' hy=>?_⟩,ha',by rw [hl,OJ];exact OH _⟩
  ·have:=(Pg.mp hd).1
   rw [OJ] at this
   rw [hl];exact this
  ·obtain ⟨e,b,k,v,hk,rfl,hb⟩:=hy
   refine ⟨e,b,?_⟩
   rw [O6] at hd
   unfold bn at hk
   rw [O6] at hk
   cases qj:ks[j]? with
   | none=>rw [qj] at hd;cases hd
   | some k0=>
    rw [qj] at hd hk
    cases hd
    cases hk
    exact ⟨k0,rfl,rfl,by rw [JP] at hb;exact hb⟩
 ·cases x
theorem CD {js:List (Option Nat)} {wi:TI} {g:TG} {tt:TIf} {te:TE} {w:XA} {x:XG} {c:XT} {e:XE} (hi:SIT K wi w) (hg:SGT K g x) (hc:ST K tt c) (he:SE K te e):SF K (CH js wi g tt te) (cH js w x c e):=fun ρ σ S H Q l r y k=>by
 unfold cH at y
 cases q:w ρ with
 | none=>rw [q] at y;cases y
 | some ds=>
  rw [q] at y
  dsimp only [Option.bind] at y
  split at y
  ·rename_i hlim
   refine hi ρ σ S H _ ds r q fun J S1 H1 z1 wk D hD=>?_
   have r1:=r.ext z1
   have hD0:H D = none:=(z1.same r.sub).free hD
   refine ⟨fun i n H'=>n = ds.length - i /\ i <= ds.length /\ ∃ S' done ys fj,Ext S1 H1 S' H' /\ Same S1 S' /\ H' D = some (.lst ys) /\ S' D = none /\ Dens K S' done ys /\ done.length <= i /\ bV x c e (qw js ρ) (ds.drop i) = some fj /\ l = done ++ fj,
    ⟨_,rfl,Pl _,S1,[],[],l,Ext.own z1.sub hD,Same.refl _,aB,z1.sub.free hD,.nil,Pl _,y,rfl⟩,?_⟩
   rintro i n H2 ⟨rfl,hil,S2,done,ys,fj,z2,s2,hy,hSD,dy,hdl,y2,rfl⟩
   obtain ⟨w1,w2⟩:=wk S2 H2 z2
   cases qd:ds[i]? with
   | none=>
    have:ds.length = i:=by have:=QE.mp qd;lia
    subst this
    rw [QC (OH _)] at y2
    cases y2
    rw [Pd] at k
    exact .inl ⟨w2,k D ys S2 H2 (z1.trans z2) hD0 hSD hy dy⟩
   | some d=>
    obtain ⟨g1,g2⟩:=w1 i d qd
    have hlt:=(Pg.mp qd).1
    rw [ny qd] at y2
    unfold bV at y2
    cases qx:x d (qw js ρ) with
    | none=>rw [qx] at y2;cases y2
    | some ρ3=>
     rw [qx] at y2
     dsimp only [Option.bind] at y2
     refine .inr ⟨g1,fun xv H3 hyl=>?_⟩
     obtain ⟨rfl,b0,k0,rfl,rfl,hb0⟩:=g2 xv H3 hyl
     have ri:=FT (r1.ext z2) js
     refine hg _ _ _ _ S2 _ b0 k0 _ ρ3 ri hb0 qx fun σ3 r3=>?_
     cases qc:c ρ3 with
     | none=>rw [qc] at y2;cases y2
     | some b=>
      rw [qc] at y2
      dsimp only at y2
      refine hc ρ3 σ3 S2 _ _ b r3.toRl qc fun S4 H4 z4=>?_
      obtain ⟨al1,al2⟩:=z4.al D _ hy hSD
      cases b with
      | false=>
       rw [OB (by decide)] at y2
       exact yD ⟨_,by lia,rfl,hlt,S4,done,ys,fj,z2.trans z4,s2.trans z4.sh,al1,al2,dy.mono z4.sh,by lia,y2,rfl⟩
      | true=>
       rw [OC rfl] at y2
       cases qe:e ρ3 with
       | none=>rw [qe] at y2;cases y2
       | some dv=>
        rw [qe] at y2
        dsimp only at y2
        cases qr:bV x c e (qw js ρ) (ds.drop (i + 1)) with
        | none=>rw [qr] at y2;cases y2
        | some rest2=>
         rw [qr] at y2
         cases y2
         refine yE (he ρ3 σ3 S4 H4 _ dv (r3.toRl.ext z4) qe fun v S5 H5 z5 d5=>?_)
         obtain ⟨b1,b2⟩:=z5.al D _ al1 al2
         refine ⟨ys,b1,?_,_,by lia,rfl,hlt,S5,done ++ [dv],ys ++ [v],rest2,?_,(s2.trans z4.sh).trans z5.sh,aB,b2,((dy.mono z4.sh).mono z5.sh).append (.cons d5 .nil),by rw [OM,PU];lia,qr,by rw [Pb];rfl⟩
         ·rw [<- dy.length]
          exact Pa (Pw hdl hlt) (OW hlim (Pk fg))
         ·have z6:=(z2.trans z4).trans z5
          exact ⟨z6.sh,fun b u hb=>by rw [aD fun z=>by subst z;rw [b2] at hb;cases hb];exact z6.sub b u hb,fun b o hb hn=>by
           obtain ⟨c1,c2⟩:=z6.alw b o hb hn
           exact ⟨by rw [aD fun z=>by subst z;rw [hD] at hb;cases hb];exact c1,c2⟩⟩
  ·cases y
noncomputable abbrev HM:=Addr -> List (List Int) -> List D -> Option (O × List (List Int))
noncomputable def fnH (n:Nat) (x:XS):HM:=fun p ks ds=>match x (.ow (.hd p ks []) :: (ds.map .sh ++ List.replicate (n - 1 - ds.length) .un)) with
 | some (.ro (.hd p' ks' [o]))=>if p' = p then some (o,ks') else none
 | _=>none
noncomputable def spH (K:W.Frag) (n:Nat) (m:HM):Sp:=fun vs H Q _=>vs.length = n /\ ∃ S p ks ds us o ks',vs = .ref p :: us /\ Same S H /\ H p = some (.dT (bn ks)) /\ S p = none /\ Dens K S ds us /\ m p ks ds = some (o,ks') /\
 ∀ v fp S' H',Ext S (upd H p (.dT (bn ks'))) S' H' -> Own K S' H' o v fp -> fp.Nodup -> (∀ b ∈ fp,H b = none /\ S' b = none) -> Q v H'
noncomputable def GZ (S H:Hp) (p:Addr):Hp:=fun b=>if b = p then none else g8 S H b
theorem Ag {p:Addr}:GZ S H p p = none:=OC rfl
theorem wn {p b:Addr} (h:b ≠ p):GZ S H p b = g8 S H b:=OB h
theorem DV {N:List Str} {ds:List D} {us:List V} {p:Addr} {ks:List (List Int)} (s:Same S H) (hp:H p = some (.dT (bn ks))) (sp:S p = none) (h:Dens K S ds us) :
  RlA K (GZ S H p) (fun _=>none) (.ow (.hd p ks []) :: (ds.map .sh ++ List.replicate (N.length - 1 - ds.length) .un)) (L2.bi N (.ref p :: us)) S H:=by
 have hl:=h.length
 have key:∀ (i:Nat) t,(Sl.ow (.hd p ks []) :: (ds.map Sl.sh ++ List.replicate (N.length - 1 - ds.length) .un))[i]? = some t -> t = .un \/ (∃ d v,t = .sh d /\ (L2.bi N (.ref p :: us))[i]? = some (some v) /\ Den K S d v) \/ (i = 0 /\ t = .ow (.hd p ks [])):=fun i t ht=>by
  cases i with
  | zero=>rw [Q5] at ht;cases ht;exact .inr (.inr ⟨rfl,rfl⟩)
  | succ i=>
   rw [P5] at ht
   by_cases hi:i < ds.length
   ·rw [QB (by rw [OJ];exact hi),O6] at ht
    cases q:ds[i]? with
    | none=>rw [q] at ht;cases ht
    | some d=>
     rw [q] at ht
     cases ht
     obtain ⟨v,e1,e2⟩:=h.get q
     refine .inr (.inl ⟨d,v,rfl,?_,e2⟩)
     unfold L2.bi
     rw [QB (by rw [OJ,OL];lia),O6,P5,e1]
     rfl
   ·rw [QA (by rw [OJ];lia),Sa] at ht
    split at ht
    ·cases ht;exact .inl rfl
    ·cases ht
 have e0:(L2.bi N (.ref p :: us))[0]? = some (some (.ref p)):=by unfold L2.bi;rfl
 refine ⟨fun i=>if i = 0 then [p] else [],?_⟩
 exact {
  len:=by
   unfold L2.bi
   simp only [OM,OL,OJ,RI,hl]
   lia
  sub:=s
  sh:=fun i d hi=>by
   rcases key i _ hi with e | ⟨d',v,e,h1,h2⟩ | ⟨_,e⟩
   ·cases e
   ·cases e;exact ⟨v,h1,h2⟩
   ·cases e
  ow:=fun i o hi=>by
   rcases key i _ hi with e | ⟨d',v,e,h1,h2⟩ | ⟨rfl,e⟩
   ·cases e
   ·cases e
   ·cases e
    exact ⟨.ref p,e0,own_hd.mpr ⟨[],[],rfl,rfl,hp,.nil⟩,by simp,fun b hb=>by
     rw [OC rfl] at hb
     rw [OO.mp hb]
     exact ⟨sp,Ag⟩⟩
  dj:=fun i j o o' hij hi hj=>by
   rcases key i _ hi with e | ⟨d',v,e,h1,h2⟩ | ⟨rfl,e⟩
   ·cases e
   ·cases e
   ·rcases key j _ hj with e' | ⟨d',v,e',h1,h2⟩ | ⟨rfl,e'⟩
    ·cases e'
    ·cases e'
    ·exact absurd rfl hij
  lo:=fun i hi=>by
   rcases key i _ hi with e | ⟨d',v,e,h1,h2⟩ | ⟨_,e⟩
   ·cases e
   ·cases e
   ·cases e
  asub:=fun b u e=>by
   by_cases hb:b = p
   ·subst hb;rw [Ag] at e;cases e
   ·rw [wn hb] at e;exact ox b u e
  adis:=fun b=>by
   by_cases hb:b = p
   ·subst hb;exact .inr (.inl Ag)
   ·rw [wn hb];exact oq b }
theorem FR {t:TS} {x:XS} {N:List Str} {n k:Nat} {vs:List V} {H:Hp} {Q:VK} {E:XK} (hs:SS K t x) (hN:N.length = n) (h:spH K k (fnH n x) vs H Q E) :
  t { nx:=fun _ H'=>Q .non H',rt:=Q } (L2.bi N vs) H:=by
 obtain ⟨_,S,p,ks,ds,us,o,ks',rfl,s,hp,sp,dd,y,q⟩:=h
 subst hN
 unfold fnH at y
 have r:=DV (N:=N) s hp sp dd
 split at y
 ·rename_i p' ks2 o' qx
  split at y
  ·rename_i e
   subst e
   cases y
   refine hs _ _ _ _ S H _ _ r qx fun v fp S' H' s1 s2 s3 s4 ow nd n=>?_
   obtain ⟨xs,f,rfl,rfl,h1,h2⟩:=own_hd.mp ow
   obtain ⟨z,zs,f1,f2,rfl,rfl,ho,h3⟩:=h2.cons_of
   obtain ⟨rfl,rfl⟩:=h3.nil_of
   rw [Pd] at nd n
   obtain ⟨n1,n2⟩:=O4.mp nd
   have inA:∀ b u,b ≠ p' -> H b = some u -> S b = none -> GZ S H p' b = some u:=fun b u hb hu hn=>by rw [wn hb];exact rE hu hn
   refine q z f1 S' H' ⟨s1,s2,fun b u hb hn=>?_⟩ ho n2 fun b hb=>⟨?_,(n b (OK _ hb)).1⟩
   ·by_cases e:b = p'
    ·subst e
     rw [aB] at hb
     cases hb
     exact ⟨h1,.inl (n b OI).1⟩
    ·rw [aD e] at hb
     have ha:=inA b u e hb hn
     refine ⟨s3 b u ha,?_⟩
     rcases s4 b with z | z | ⟨_,z,hu⟩
     ·exact .inl z
     ·rw [ha] at z;cases z
     ·rw [ha] at z;cases z;exact .inr hu
   ·cases qb:H b with
    | none=>rfl
    | some u=>
     have nb:=n b (OK _ hb)
     have:=inA b u (fun e=>n1 (by rw [<- e];exact hb)) qb (s1.free nb.1)
     rw [nb.2] at this
     cases this
  ·cases y
 ·cases y
@[simp] noncomputable def CT (j:Nat):XS:=fun ρ=>match ρ[j]?,(ρ[0]?:Option Sl) with
 | some (.ow o),some (.ow (.hd p ks []))=>if j = 0 then none else some (.ro (.hd p ks [o]))
 | _,_=>none
theorem F9 (j:Nat):SS K (D5 (g6 j)) (CT j):=fun A Λ ρ σ S H E out r x k=>by
 unfold CT at x
 split at x
 ·rename_i o p ks q1 q2
  split at x
  ·cases x
  ·rename_i hj
   cases x
   obtain ⟨Φ,f⟩:=r
   obtain ⟨v,e1,o1,nd1,n1⟩:=f.ow j _ q1
   obtain ⟨v0,e0,o0,nd0,n0⟩:=f.ow 0 _ q2
   obtain ⟨xs,f0,rfl,hf,h1,h2⟩:=own_hd.mp o0
   obtain ⟨rfl,rfl⟩:=h2.nil_of
   have np:p ∉ Φ j:=fun z=>f.dj j 0 _ _ hj q1 q2 p z (by rw [hf];exact OI)
   refine ⟨v,e1,k v (p :: (Φ j ++ [])) S H (Same.refl _) f.sub f.asub f.adis (own_hd.mpr ⟨[v],_,rfl,rfl,h1,.cons o1 .nil⟩) (by rw [Pd];exact O4.mpr ⟨np,nd1⟩) fun b hb=>?_⟩
   rw [Pd] at hb
   rcases OP.mp hb with rfl | hb
   ·exact n0 b (by rw [hf];exact OI)
   ·exact n1 b hb
 ·cases x
noncomputable def Dh (m:HM) (ks:List (List Int)) (ds:List D):Option (O × List (List Int)):=by
 classical exact if h:∃ r,∀ p,m p ks ds = some r then some h.choose else none
theorem B5 {m:HM} {ks:List (List Int)} {ds:List D} {r:O × List (List Int)} (h:∀ p,m p ks ds = some r):Dh m ks ds = some r:=by
 unfold Dh
 have he:∃ r,∀ p,m p ks ds = some r:=⟨r,h⟩
 rw [dif_pos he]
 have:=he.choose_spec 0
 rw [h 0] at this
 rw [Pj this]
theorem HF {m:HM} {ks:List (List Int)} {ds:List D} {r:O × List (List Int)} (h:Dh m ks ds = some r) (p:Addr):m p ks ds = some r:=by
 unfold Dh at h
 split at h
 ·rename_i he
  cases h
  exact he.choose_spec p
 ·cases h
@[simp] noncomputable def tW (j i:Nat) (m:HM) (a:XA):XS:=fun ρ=>match ρ[j]? with
 | some (.ow (.lst l))=>(ρ[i]?).bind fun s=>(ksO s).bind fun ks=>(a ρ).bind fun ds=>(Dh m ks ds).bind fun r=>match r with
  | (.lst l',ks')=>(shs l').bind fun ds'=>if l.length + l'.length <= LIM then some (.nx ((ρ.set i (reD ks' s)).set j (.ow (.lst (l ++ ds'.map .sh))))) else none
  | _=>none
 | _=>none
theorem F4 {n:Nat} {m:HM} {E0:XK} {ta:TA} {a:XA} {i j:Nat} (h:SA K ta a) (hn:∀ ρ ds,a ρ = some ds -> ds.length = n):SS K (zO (tBM K "list" rExtM (g6 j) (eW (tP (spH K (n + 1) m) [] E0 (eW (g6 i) ta)) mV))) (tW j i m a):=fun A Λ ρ σ S H E out r y k=>by
 unfold tW at y
 split at y
 ·rename_i l q0
  obtain ⟨s,qs,y⟩:=bind_some y
  obtain ⟨ks,hk,y⟩:=bind_some y
  obtain ⟨ds,qa,y⟩:=bind_some y
  obtain ⟨⟨o,ks'⟩,qm,y⟩:=bind_some y
  split at y
  ·rename_i l' ks2 e1
   cases e1
   obtain ⟨ds',qd,y⟩:=bind_some y
   split at y
   ·rename_i hl
    cases y
    have e:=o8 qd
    subst e
    have hji:j ≠ i:=fun z=>by
     subst z
     rw [q0] at qs
     cases qs
     cases hk
    obtain ⟨Φ,f⟩:=r
    obtain ⟨p,ep,hp,sp,_,_,_⟩:=f.dicO qs hk
    obtain ⟨v0,ev0,ow0,_⟩:=f.ow j _ q0
    obtain ⟨a0,xs,f0,rfl,_,hx,_⟩:=own_lst.mp ow0
    refine ⟨.ref a0,ev0,.inl ⟨rfl,xs,SqL.of hx⟩,.ref p,ep,h ρ σ S H _ ds ⟨A,Λ,Φ,f⟩ qa fun us S1 H1 z1 d1=>?_⟩
    obtain ⟨p',ep',hp1,sp1,_,_,up1⟩:=(f.ext z1).dicO qs hk
    rw [ep] at ep'
    cases ep'
    rw [Pd]
    refine ⟨by rw [OL,<- d1.length,hn ρ ds qa],S1,p,ks,ds,us,_,_,rfl,z1.sub,hp1,sp1,d1,HF qm p,fun v fp S2 H2 z2 ow nd n=>?_⟩
    have f2:=(up1 ks').ext z2
    have q0':(ρ.set i (reD ks' s))[j]? = some (.ow (.lst l)):=by rw [PF (O8 hji)];exact q0
    obtain ⟨a1,xs1,g1,e1,hx1,hw1,nd1,in1,up⟩:=f2.at (is:=[]) q0' (by unfold dD;rfl) ev0 rfl
    cases e1
    obtain ⟨b,zs,f3,rfl,rfl,hb,hz⟩:=own_lst.mp ow
    obtain ⟨dz,rfl⟩:=fh hz
    obtain ⟨na,ng⟩:=O4.mp nd1
    refine ⟨a0,b,xs1,zs,rfl,rfl,hx1,.inl hb,?_,?_⟩
    ·rw [<- hw1.length,<- dz.length]
     rw [OJ] at hl
     exact Pk (Pw hl fg)
    ·have fin:=up (l ++ ds'.map .sh) (xs1 ++ zs) g1 (fun H' ne=>by
      have:=(hw1.mono (H':=H') (Same.refl _) fun b hb=>ne b fun z=>na (z ▸ hb)).append (nN (H:=H') dz)
      rw [Pd] at this
      exact this) nd1 fun b hb=>.inl hb
     exact k σ S2 _ (by unfold iV at fin;exact fin) (z1.sh.trans z2.sh)
   ·cases y
  ·cases y
 ·cases y
end
end M
namespace L2
open PySem
theorem G3:bootBuiltins "dict" = some (.type "dict"):=by decide +kernel
end L2
namespace M
open PySem L2
theorem bI {K:W.Frag} {a:Addr} {o:Obj} {its:Array Value} {n:Nat} {xs:List V} {l:List D} (h:K.lookup a = some o) (hc:o.cls = .type "tuple") (hd:o.data = .seq its n) (hs:its.size <= sizeLine) (hv:Vals xs its.toList) (hD:∀ S,Dens K S l xs) (S:Hp):Den K S (.mtp l) (.ref a):=
 den_mtp.mpr ⟨a,xs,rfl,(show SqT K S a xs from .inr ⟨o,its,n,h,hc,hd,hs,hv⟩),hD S⟩
end M
namespace L2
open PySem PySem.Spec PyProof.Rows
section
variable {X:Cx} {tg:Expr}
end
end L2
namespace M
open PySem L2
section
variable {K:W.Frag} {S S' H H':Hp}
noncomputable def Ly:List D -> Option (List D)
 | [.lst l]=>some l.reverse | _=>none
@[simp] noncomputable def NS (a:XA):XA:=fun ρ=>(a ρ).bind Ly
end
end M
namespace L2
open PySem PySem.Spec PyProof.Rows
section
variable {X:Cx} {CX:CXT} {k:Nat} {f:Addr} {fd:FuncData} {ps:List Str} {sp:Sp} {E:XK} {x y:Str} {p cpos pos pos':Pos} {e:Expr} {es:List Expr} {t:TA}
end
section
variable {X:Cx} {body suite:List Stmt} {b0:Stmt} {x n:Str} {i:Nat} {L:List Str} {tx:XK -> St -> Hp -> Prop} {tu ts:TS} {np hp pos:Pos}
end
end L2
namespace M
open PySem L2
section
variable {K:W.Frag} {S S' H H':Hp}
@[simp] noncomputable def NV (L:List Str) (i:Nat) (n:List D -> Option Str) (a:XA) (m:XS) (l:List (Nat × List (List (Str × Bool)))):XS:=fun ρ=>if i < ρ.length then (match (a ρ).bind n with
 | some N=>if L.contains N then (ES i N l (ρ.set i .un)).map fun ρ'=>.nx (ρ'.set i .un) else none
 | none=>(match m ρ with | some (.nx ρ')=>some (.nx ρ') | _=>none)) else none
end
end M
namespace L2
open PySem PySem.Spec PyProof.Rows
noncomputable def Je (i:Nat) (t:TS):TS:=fun D σ H=>t D σ H \/ ∃ a kvs,σ[i]? = some (some (.ref a)) /\ H a = some (.dT kvs) /\ ∀ o,t D σ (upd H a (.frz o (.dT kvs)))
theorem HR {X:Cx} {st:Stmt} {t:TS} (i:Nat) (h:PS X st t):PS X st (Je i t):=by
 intro pins s σ H D I q
 rcases q with q | ⟨a,kvs,_,ea,q⟩
 ·exact h pins s σ H D I q
 ·obtain ⟨o,ho,I1⟩:=EN I ea
  exact h pins s σ _ D I1 (q o)
end L2
namespace M
open PySem L2
section
variable {K:W.Frag} {S S' H H':Hp}
@[simp] noncomputable def GM (i:Nat) (m:XS):XS:=fun ρ=>match (ρ[i]?).bind ksO with | some ks=>m (ρ.set i (.sh (.dif ks))) | none=>m ρ
theorem Kl {t:TS} {m:XS} (i:Nat) (h:SS K t m):SS K (Je i t) (GM i m):=fun A Λ ρ σ S H D o r x k=>by
 unfold GM at x
 cases q:(ρ[i]?).bind ksO with
 | none=>rw [q] at x;exact .inl (h A Λ ρ σ S H D o r x k)
 | some ks=>
  rw [q] at x
  obtain ⟨s,qs,hk⟩:=bind_some q
  obtain ⟨Φ,f⟩:=r
  obtain ⟨a,ev,ha,sa,up⟩:=f.melt qs hk
  refine .inr ⟨a,_,ev,ha,fun ob=>h A Λ _ σ _ _ D o ⟨Φ,up ob⟩ x (k.mono fun b u e=>?_)⟩
  rw [aD (a7 e sa)]
  exact e
def Jp (J:It) (S:Hp) (l:List D):Prop:=∀ S' H',Same S S' -> Same S' H' ->
 (∀ i d,l[i]? = some d -> J.go i H' /\ ∀ x H'',J.yld i H' x H'' -> H'' = H' /\ ∃ b,∃ k:List Int,d = .tup (k.map .int) /\ x = .ref b /\ H' b = some (.tup (k.map V.int))) /\ J.stop l.length H'
def SIK (K:W.Frag) (wi:TI) (e:XA):Prop:=∀ ρ σ S H (R:It -> Hp -> Prop) l,Rl K ρ σ S H -> e ρ = some l -> (∀ J S' H',Ext S H S' H' -> Jp J S' l -> R J H') -> wi σ H R
theorem JM (i:Nat):SIK K (Hr (g6 i)) (qS i):=fun ρ σ S H R l r x c=>by
 unfold qS at x
 split at x
 ·rename_i ks q
  cases x
  obtain ⟨v,ev,dv⟩:=r.sh i _ q
  obtain ⟨a,o,rfl,ha⟩:=den_dif.mp dv
  refine ⟨.ref a,ev,a,o,_,rfl,r.sub _ _ ha,c _ S H (Ext.refl r.sub) fun S' H' s1 s2=>?_⟩
  have ha':=s2 a _ (s1 a _ ha)
  have hl:(bn ks).length = ks.length:=nu ks
  refine ⟨fun j d hd=>⟨⟨ha',?_⟩,fun x H'' hy=>?_⟩,ha',by rw [hl,OJ];exact OH _⟩
  ·have:=(Pg.mp hd).1
   rw [OJ] at this
   rw [hl];exact this
  ·obtain ⟨e,b,k,v,hk,rfl,hb⟩:=hy
   refine ⟨e,b,?_⟩
   rw [O6] at hd
   unfold bn at hk
   rw [O6] at hk
   cases qj:ks[j]? with
   | none=>rw [qj] at hd;cases hd
   | some k0=>
    rw [qj] at hd hk
    cases hd
    cases hk
    exact ⟨k0,rfl,rfl,by rw [JP] at hb;exact hb⟩
 ·cases x
theorem K2 {wi:TI} {g:TG} {tb:TS} {e:XA} {x:XG} {m:XS} (hi:SIK K wi e) (hg:SGT K g x) (hb:SS K tb m):SS K (Ip wi g tb) (ge e x m):=fun A Λ ρ σ S H E o r y k=>by
 unfold ge at y
 cases q:e ρ with
 | none=>rw [q] at y;cases y
 | some l=>
  rw [q] at y
  dsimp only [Option.bind] at y
  refine hi ρ σ S H _ l r.toRl q fun J S1 H1 z1 wk=>?_
  have r1:=r.ext z1
  refine ⟨fun i n σ' H'=>n = l.length - i /\ i <= l.length /\ ∃ ρ' S',RlA K A Λ ρ' σ' S' H' /\ Same S1 S' /\ c0 x m (l.drop i) ρ' = some o,⟨_,rfl,Pl _,ρ,S1,r1,Same.refl _,y⟩,?_⟩
  rintro i n σ2 H2 ⟨rfl,hil,ρ2,S2,r2,s2,y2⟩
  obtain ⟨w1,w2⟩:=wk S2 H2 s2 r2.sub
  cases qd:l[i]? with
  | none=>
   have:l.length = i:=by have:=QE.mp qd;lia
   subst this
   rw [QC (OH _)] at y2
   cases y2
   exact .inl ⟨w2,k σ2 S2 H2 r2 (z1.sh.trans s2)⟩
  | some d=>
   obtain ⟨g1,g2⟩:=w1 i d qd
   have hlt:=(Pg.mp qd).1
   rw [ny qd] at y2
   unfold c0 at y2
   cases qx:x d ρ2 with
   | none=>rw [qx] at y2;cases y2
   | some ρ3=>
    rw [qx] at y2
    dsimp only [Option.bind] at y2
    refine .inr ⟨g1,fun σ' H'=>∃ ρ' S',RlA K A Λ ρ' σ' S' H' /\ Same S1 S' /\ c0 x m (l.drop (i + 1)) ρ' = some o,fun σ' H' ⟨ρ',S',a1,a2,a3⟩=>⟨_,by lia,rfl,hlt,ρ',S',a1,a2,a3⟩,fun xv H3 hy=>?_⟩
    obtain ⟨rfl,b0,k0,rfl,rfl,hb0⟩:=g2 xv H3 hy
    refine hg A Λ ρ2 σ2 S2 H3 b0 k0 _ ρ3 r2 hb0 qx fun σ3 r3=>?_
    cases qm:m ρ3 with
    | none=>rw [qm] at y2;cases y2
    | some om=>
     rw [qm] at y2
     refine hb A Λ ρ3 σ3 S2 H3 _ om r3 qm ?_
     cases om with
     | nx ρ4=>exact fun σ4 S4 H4 r4 s4=>⟨ρ4,S4,r4,s2.trans s4,y2⟩
     | ct ρ4=>exact fun σ4 S4 H4 r4 s4=>⟨ρ4,S4,r4,s2.trans s4,y2⟩
     | bk ρ4=>cases y2;exact fun σ4 S4 H4 r4 s4=>k σ4 S4 H4 r4 ((z1.sh.trans s2).trans s4)
     | rt d4=>cases y2;exact fun v S4 H4 s4=>k v S4 H4 ((z1.sh.trans s2).trans s4)
     | ro d4=>cases y2;exact fun v fp S4 H4 s4=>k v fp S4 H4 ((z1.sh.trans s2).trans s4)
@[simp] noncomputable def Jk (i:Nat) (x:XG) (m:XS):XS:=ge (qS i) x m
theorem Kk {i:Nat} {g:TG} {tb:TS} {x:XG} {m:XS} (hg:SGT K g x) (hb:SS K tb m):SS K (Ip (Hr (g6 i)) g tb) (Jk i x m):=K2 (JM i) hg hb
end
end M
namespace ST
open PySem PySem.SetTable
def Ris (xs:Array Nat):Prop:=∀ (i j a b:Nat),i < j -> xs[i]? = some a -> xs[j]? = some b -> a < b
theorem se {xs:Array Nat} {j:Nat} (r:Ris xs):∀ (fuel lo hi:Nat),lo <= hi -> hi <= xs.size -> hi - lo <= fuel -> (∀ i a,i < lo -> xs[i]? = some a -> a < j) -> (∀ i a,hi <= i -> xs[i]? = some a -> j <= a) ->
  below.go xs j fuel lo hi <= xs.size /\ (∀ i a,i < below.go xs j fuel lo hi -> xs[i]? = some a -> a < j) /\ (∀ i a,below.go xs j fuel lo hi <= i -> xs[i]? = some a -> j <= a)
 | 0,lo,hi,h1,h2,h3,h4,h5=>by
  have:hi = lo:=by lia
  subst this
  exact ⟨h2,h4,h5⟩
 | fuel + 1,lo,hi,h1,h2,h3,h4,h5=>by
  unfold below.go
  by_cases h:lo < hi
  ·rw [OC h]
   dsimp only
   have hm:(lo + hi) / 2 < xs.size:=by lia
   have em:xs[(lo + hi) / 2]? = some xs[(lo + hi) / 2]:=PQ hm
   have eg:xs.getD ((lo + hi) / 2) j = xs[(lo + hi) / 2]:=by simp [Array.getD,hm]
   rw [eg]
   by_cases hc:xs[(lo + hi) / 2] < j
   ·rw [OC hc]
    refine se r fuel _ hi (by lia) h2 (by lia) (fun i a hi' e=>?_) h5
    by_cases e2:i = (lo + hi) / 2
    ·subst e2
     rw [em] at e
     cases e
     exact hc
    ·exact Rr (r i ((lo + hi) / 2) a _ (by lia) e em) hc
   ·rw [OB hc]
    refine se r fuel lo _ (by lia) (by lia) (by lia) h4 fun i a hi' e=>?_
    by_cases e2:i = (lo + hi) / 2
    ·subst e2
     rw [em] at e
     cases e
     exact Rg hc
    ·exact Pk (Pw (Rg hc) (r ((lo + hi) / 2) i _ a (by lia) em e))
  ·rw [OB h]
   have:hi = lo:=by lia
   subst this
   exact ⟨h2,h4,h5⟩
theorem m7 {xs:Array Nat} (r:Ris xs) (j:Nat):below xs j <= xs.size /\ (∀ i a,i < below xs j -> xs[i]? = some a -> a < j) /\ (∀ i a,below xs j <= i -> xs[i]? = some a -> j <= a):=
 se r xs.size 0 xs.size (Pl _) (OH _) (by lia) (fun i a h=>absurd h (Nat.not_lt_zero _)) fun i a h e=>absurd (Q2.mp e).1 (Nat.not_lt.mpr h)
theorem Ak {xs:Array Nat} (r:Ris xs) {i a:Nat} (h:xs[i]? = some a):below xs (a + 1) = i + 1:=by
 obtain ⟨h1,h2,h3⟩:=m7 r (a + 1)
 have hi:=(Q2.mp h).1
 apply Nat.le_antisymm
 ·apply Rg
  intro hn
  have hs:i + 1 < xs.size:=by lia
  have:=h2 (i + 1) _ hn (PQ hs)
  have:=r i (i + 1) a _ (QD _) h (PQ hs)
  lia
 ·apply Rg
  intro hn
  have:=h3 i a (by lia) h
  lia
theorem Al {xs:Array Nat} (r:Ris xs):below xs 0 = 0:=by
 obtain ⟨h1,h2,h3⟩:=m7 r 0
 apply Nat.eq_zero_of_not_pos
 intro hp
 have:=h2 0 _ hp (PQ (Pa hp h1))
 lia
theorem wP {α:Type} (xs:Array α) (p:Nat) (x:α) (hp:p <= xs.size) (i:Nat):(insertAt xs p x)[i]? = if i < p then xs[i]? else if i = p then some x else xs[i - 1]?:=by
 unfold insertAt
 have hs:((xs.extract 0 p).push x).size = p + 1:=by rw [Array.size_push,Ry];lia
 rw [Array.getElem?_append,hs]
 by_cases h1:i < p
 ·rw [OC (by lia),OC h1,Array.getElem?_push]
  have h3:(xs.extract 0 p).size = p:=by rw [Ry];lia
  rw [h3,OB (by lia),Array.getElem?_extract]
  rw [OC (by lia),Qo]
 ·rw [OB h1]
  by_cases h2:i = p
  ·subst h2
   have h3:(xs.extract 0 i).size = i:=by rw [Ry];lia
   rw [OC (by lia),OC rfl,Array.getElem?_push,h3,OC rfl]
  ·rw [OB (by lia),OB h2,Array.getElem?_extract]
   by_cases h4:i - (p + 1) < xs.size - p
   ·rw [OC (by lia)]
    congr 1
    lia
   ·rw [OB (by lia),R0 (by lia)]
theorem uj {α:Type} (xs:Array α) (p:Nat) (x:α) (hp:p <= xs.size):(insertAt xs p x).toList.Perm (x :: xs.toList):=by
 unfold insertAt
 have e:xs.toList = (xs.extract 0 p).toList ++ (xs.extract p xs.size).toList:=by
  rw [<- Qc,Array.extract_append_extract]
  simp [hp]
 rw [Qc,Qn,e,Pb]
 exact List.perm_middle
theorem Ris.put {xs:Array Nat} (r:Ris xs) {j:Nat} (h:xs[below xs j]? ≠ some j):Ris (insertAt xs (below xs j) j):=by
 obtain ⟨h1,h2,h3⟩:=m7 r j
 have gt:∀ i a,below xs j <= i -> xs[i]? = some a -> j < a:=fun i a hi e=>by
  have:=h3 i a hi e
  by_cases q:a = j
  ·subst q
   refine absurd ?_ h
   by_cases e1:i = below xs a
   ·rw [<- e1];exact e
   ·have hb:below xs a < xs.size:=by have:=(Q2.mp e).1;lia
    have:=r _ _ _ _ (show below xs a < i by lia) (PQ hb) e
    have:=h3 _ _ (OH _) (PQ hb)
    lia
  ·lia
 intro i k a b hik ha hb
 rw [wP _ _ _ h1] at ha hb
 split at ha
 ·rename_i i1
  split at hb
  ·exact r i k a b hik ha hb
  ·split at hb
   ·cases hb
    exact h2 i a i1 ha
   ·exact r i (k - 1) a b (by lia) ha hb
 ·rename_i i1
  split at ha
  ·cases ha
   rw [OB (by lia),OB (by lia)] at hb
   exact gt _ _ (by lia) hb
  ·rw [OB (by lia),OB (by lia)] at hb
   exact r (i - 1) (k - 1) a b (by lia) ha hb
theorem Cn {α:Type} [BEq α] [LawfulBEq α]:∀ {l m:List α},l.Nodup -> (∀ a ∈ l,a ∈ m) -> l.length = m.length -> m.Perm l
 | [],m,_,_,h=>by
  have:m = []:=Q6 h.symm
  subst this
  exact .refl _
 | a :: l,m,nd,hs,h=>by
  have ha:=hs a OI
  have nd':=O4.mp nd
  refine (List.perm_cons_erase ha).trans (.cons a (Cn nd'.2 (fun b hb=>?_) ?_))
  ·exact (Sk (fun z:b = a=>nd'.1 (z ▸ hb))).mpr (hs b (OK _ hb))
  ·rw [Sm ha]
   rw [OL] at h
   lia
theorem Cc {m:Nat} (f:Full m):∀ (hs:List Int) (k:Nat) (owner:Array (Option Nat)),LOk m k owner -> k + hs.length <= m -> (∀ i,i < k -> ∃ j,j <= m /\ owner.getD j none = some i) ->
  ∃ owner',hs.foldl (fun (acc:Option (Array (Option Nat) × Nat)) h=>do
   let (owner,k) ← acc
   let j ← layClean.free m owner (turns m) (bits h % (m + 1)) (bits h)
   pure (owner.setIfInBounds j (some k),k + 1)) (some (owner,k)) = some (owner',k + hs.length) /\ LOk m (k + hs.length) owner' /\ ∀ i,i < k + hs.length -> ∃ j,j <= m /\ owner'.getD j none = some i
 | [],k,owner,o,_,h=>⟨owner,rfl,o,h⟩
 | h :: hs,k,owner,o,hk,hown=>by
  rw [OL] at hk ⊢
  obtain ⟨j0,hj0,e0⟩:=o.empty (by lia)
  obtain ⟨n,hn,e⟩:=uX f (bits h % (m + 1),bits h) (Nat.le_of_lt_succ (Nat.mod_lt _ (QW _))) (G2 h) hj0
  obtain ⟨j,ej,hj⟩:=vf e0 (turns m) n (bits h % (m + 1),bits h) (by unfold turns;lia) e
  have hs':=o.size
  have hjm:j < m + 1:=by
   apply Rx
   intro hn
   simp [Array.getD,hs',hn] at hj
  have hj0:owner.getD j none = none:=by
   simp [Array.getD,hs',hjm] at hj ⊢
   exact hj
  have gd:∀ i,(owner.setIfInBounds j (some k)).getD i none = if i = j then some k else owner.getD i none:=fun i=>by
   by_cases e:i = j
   ·subst e
    simp [Array.getD,hs',hjm]
   ·rw [OB e]
    rw [RV,RV,Array.getElem?_setIfInBounds_ne (O8 e)]
  obtain ⟨ow,h1,h2,h3⟩:=Cc f hs (k + 1) _ (o.set hj) (by lia) fun i hi=>by
   by_cases q:i = k
   ·exact ⟨j,by lia,by rw [gd,OC rfl,q]⟩
   ·obtain ⟨j',hj',e'⟩:=hown i (by lia)
    refine ⟨j',hj',?_⟩
    rw [gd,OB (fun z=>by rw [z,hj0] at e';cases e')]
    exact e'
  refine ⟨ow,?_,by rw [show k + (hs.length + 1) = k + 1 + hs.length by lia];exact h2,by rw [show k + (hs.length + 1) = k + 1 + hs.length by lia];exact h3⟩
  rw [O5,show k + (hs.length + 1) = k + 1 + hs.length by lia,<- h1]
  congr 1
  show ((layClean.free m owner (turns m) (bits h % (m + 1)) (bits h)).bind fun j=>some (owner.setIfInBounds j (some k),k + 1)) = _
  rw [ej]
  rfl
theorem Bl {β:Type} (g:Nat -> Option β):∀ (l:List Nat),l.Pairwise (· < ·) -> ((l.filterMap fun j=>(g j).map (j,·)).map (·.1)).Pairwise (· < ·)
 | [],_=>.nil
 | a :: l,h=>by
  have h':=Qu.mp h
  rw [Pc]
  cases q:g a with
  | none=>exact Bl g l h'.2
  | some b=>
   refine Qu.mpr ⟨fun x hx=>?_,Bl g l h'.2⟩
   obtain ⟨⟨y,z⟩,hy,rfl⟩:=O1.mp hx
   obtain ⟨w,hw,e⟩:=RH.mp hy
   cases q2:g w with
   | none=>rw [q2] at e;cases e
   | some v=>
    rw [q2] at e
    cases e
    exact h'.1 _ hw
theorem Kf {l:List Nat} (h:l.Pairwise (· < ·)):Ris l.toArray:=fun i j a b hij ha hb=>by
 rw [List.getElem?_toArray] at ha hb
 obtain ⟨h1,rfl⟩:=Pg.mp ha
 obtain ⟨h2,rfl⟩:=Pg.mp hb
 exact RL.mp h i j h1 h2 hij
theorem E9 {m finger moves:Nat} {led plain:Bool} (f:Full m) (hs:Array Int) (h:hs.size <= m):∃ t order,laid m finger moves led plain hs = some (t,order) /\ t.mask = m /\ t.dummies = #[] /\ t.place.size = hs.size /\ Ris t.place /\ order.toList.Perm (List.range hs.size) /\ t.led = led /\ t.plain = plain:=by
 have gd:∀ i,(Array.replicate (m + 1) (none:Option Nat)).getD i none = none:=fun i=>by simp [Array.getD]
 have o0:LOk m 0 (Array.replicate (m + 1) none):=by
  refine ⟨Array.size_replicate,?_,fun j v hv=>by rw [gd] at hv;cases hv⟩
  unfold liv
  rw [QF,List.filterMap_eq_nil_iff]
  intro a _
  rw [gd]
  rfl
 obtain ⟨ow,h1,h2,h3⟩:=Cc f hs.toList 0 _ o0 (by rw [Ph];lia) fun i hi=>absurd hi (Nat.not_lt_zero _)
 rw [Qo,Ph] at h2 h3
 have e:layClean m hs = some ow:=by
  unfold layClean
  rw [<- Array.foldl_toList]
  refine (OZ (Option.map (·.1)) h1).trans rfl
 refine ⟨_,_,by unfold laid;rw [e];rfl,rfl,rfl,?_,?_,?_,rfl,rfl⟩
 ·show ((liv m ow).map (·.1)).toArray.size = _
  rw [O0,OJ,h2.len]
 ·exact Kf (Bl (fun j=>ow.getD j none) (List.range (m + 1)) List.pairwise_lt_range)
 ·show ((liv m ow).map (·.2)).Perm _
  refine Cn List.nodup_range (fun i hi=>?_) (by rw [RU,OJ,h2.len])
  obtain ⟨j,hj,e⟩:=h3 i (P8.mp hi)
  refine O1.mpr ⟨(j,i),RH.mpr ⟨j,P8.mpr (by lia),by rw [e];rfl⟩,rfl⟩
theorem De {α:Type} (es:Array α) {order:List Nat} (h:order.Perm (List.range es.size)):(order.filterMap (es[·]?)).Perm es.toList:=by
 refine (h.filterMap _).trans (.of_eq ?_)
 have:∀ l:List α,(List.range l.length).filterMap (l[·]?) = l:=by
  intro l
  induction l with
  | nil=>rfl
  | cons a l ih=>
   rw [OL,List.range_succ_eq_map,Pc]
   show a :: ((List.range l.length).map Nat.succ).filterMap _ = _
   rw [List.filterMap_map]
   exact OZ (a :: ·) ih
 have:=this es.toList
 rw [Ph] at this
 refine Eq.trans ?_ this
 congr 1
 funext i
 exact (PN ..).symm
end ST
namespace ST
open PySem PySem.SetTable PyProof.Rows
theorem Du {t:SetTable} {es:Array (Int × Value)} (h:Int) (x:Value) (ok:TOk es.size t) (room:es.size * 5 < t.mask * 3) (r:Ris t.place) :
  ∃ es' t',layNew t es h x = (es',t',false,false) /\ TOk es'.size t' /\ es'.size = es.size + 1 /\ t'.mask = t.mask /\ Ris t'.place /\ t'.led = t.led /\ t'.plain = t.plain /\ es'.toList.Perm ((h,x) :: es.toList):=by
 have hle:es.size <= t.mask:=by lia
 obtain ⟨j0,hj0,e0⟩:=Bt ok.dm (by rw [ok.pl];exact hle)
 obtain ⟨k,hk,ek⟩:=zt ok.msk.full h hj0
 have fr:∃ j,t.slot j = .empty /\ t.freeSlot h = some (j,false):=by
  unfold SetTable.freeSlot
  rcases B4 ok.dm (fun _=>h + 1) h (10 * turns t.mask) k (t.probeStart h) hk (by rw [ek];exact e0) with ⟨a,_,h2,h3⟩ | ⟨_,_,_,_,h4,_⟩
  ·refine ⟨_,h2,?_⟩
   have:t.probe (fun _=>h + 1) h (t.probeStart h) = some (.empty (adv t a (t.probeStart h)).j (t.probeStart h).dummy):=h3
   rw [this]
   rfl
  ·lia
 obtain ⟨j,hj,ej⟩:=fr
 have hne:t.place[below t.place j]? ≠ some j:=fun z=>by
  unfold slot at hj
  dsimp only at hj
  rw [OC (by rw [z];exact beq_self_eq_true _)] at hj
  cases hj
 have hp:below t.place j <= es.size:=by rw [<- ok.pl];exact (m7 r j).1
 have ep:t.put j = ({ t with place:=insertAt t.place (below t.place j) j },below t.place j):=by
  unfold SetTable.put
  dsimp only
  rw [OB (by rw [ok.dm];unfold has;simp)]
 have hf:SetTable.fits { t with place:=insertAt t.place (below t.place j) j } (insertAt es (below t.place j) (h,x)).size = true:=by
  unfold SetTable.fits SetTable.fill
  dsimp only
  rw [dG,dG,ok.pl,ok.dm]
  simp
  lia
 refine ⟨insertAt es (below t.place j) (h,x),{ t with place:=insertAt t.place (below t.place j) j },?_,⟨ok.msk,?_,ok.dm⟩,dG _ _ _,rfl,r.put hne,rfl,rfl,uj _ _ _ hp⟩
 ·unfold layNew
  rw [ej]
  dsimp only
  rw [ep]
  dsimp only
  unfold SetTable.orStandIn
  rw [OC hf,hf]
  rfl
 ·show (insertAt t.place _ _).size = _
  rw [dG,dG,ok.pl]
theorem zu {t:SetTable} {es:Array (Int × Value)} {wanted:Nat} (hm:Msk (sizeAbove wanted - 1)) (hn:es.size <= sizeAbove wanted - 1) :
  ∃ es' t',relayAll t es wanted = (es',t',false) /\ TOk es'.size t' /\ es'.size = es.size /\ t'.mask = sizeAbove wanted - 1 /\ Ris t'.place /\ t'.led = t.led /\ t'.plain = t.plain /\ es'.toList.Perm es.toList:=by
 obtain ⟨t',order,e1,e2,e3,e4,e5,e6,e7,e8⟩:=E9 (finger:=t.finger) (moves:=t.movedTo (sizeAbove wanted - 1)) (led:=t.led) (plain:=t.plain) hm.full (es.map (·.1)) (by rw [Rp];exact hn)
 rw [Rp] at e4 e6
 have er:t.relaid (es.map (·.1)) wanted = some (t',order):=e1
 have hp:(order.filterMap (es[·]?)).toList.Perm es.toList:=by rw [Array.toList_filterMap];exact De es e6
 have hz:(order.filterMap (es[·]?)).size = es.size:=by rw [<- Ph,hp.length_eq,Ph]
 have ok:TOk (order.filterMap (es[·]?)).size t':=⟨e2 ▸ hm,by rw [hz];exact e4,e3⟩
 have hf:t'.fits (order.filterMap (es[·]?)).size = true:=ok.fits (by rw [hz,e2];exact hn)
 refine ⟨order.filterMap (es[·]?),t',?_,ok,hz,e2,e5,e7,e8,hp⟩
 unfold relayAll
 rw [er]
 dsimp only
 rw [OC]
 rw [hf,Bool.and_true]
 unfold coversAll
 exact List.isPerm_iff.mpr e6
def SetI (prog:Program) (w:World) (h:Heap) (a:Addr) (led:Bool) (ks:List Int):Prop:=∃ o es ep t,h.get? a = some o /\ o.ExactSet /\ o.data = .set es ep t /\ TOk es.size t /\ es.size * 5 < t.mask * 3 /\ Ris t.place /\ t.plain = true /\ t.led = led /\ ElemsOf (intKind prog w) es.toList /\ ∃ ms,IntsAre (es.toList.map (·.2)) ms /\ ms.Perm ks
theorem oP {vs us:List Value} (p:us.Perm vs):∀ {ns:List Int},IntsAre vs ns -> ∃ ms,IntsAre us ms /\ ms.Perm ns:=by
 induction p with
 | nil=>intro ns h;exact ⟨ns,h,.refl _⟩
 | cons x _ ih=>
  intro ns h
  cases h with
  | cons n t h=>
   obtain ⟨ms,h1,h2⟩:=ih h
   exact ⟨n :: ms,.cons n t h1,.cons _ h2⟩
 | swap x y l=>
  intro ns h
  cases h with
  | cons n t h=>
   cases h with
   | cons m t' h=>exact ⟨m :: n :: _,.cons m t' (.cons n t h),.swap _ _ _⟩
 | trans _ _ ih1 ih2=>
  intro ns h
  obtain ⟨ms,h1,h2⟩:=ih2 h
  obtain ⟨ks,h3,h4⟩:=ih1 h1
  exact ⟨ks,h3,h4.trans h2⟩
section
variable {prog:Program} {w:World} {A:Around} {E:Value -> Shared -> Prop} {s:Shared}
theorem wQ {k:Int}:∀ {l:List (Int × Value)} {ms:List Int},IntsAre (l.map (·.2)) ms -> ((∃ e ∈ l,(intKind prog w).is k e.2 = true) ↔ k ∈ ms)
 | [],_,h=>by
  cases h
  simp
 | (h',v) :: l,ms,h=>by
  cases h with
  | cons n t h=>
   have e1:(intKind prog w).is k (.int n t) = decide (k = n):=KeyKind.is_eq_decide (intKind_is _ _ _ _) k
   rw [OP,<- wQ h]
   constructor
   ·rintro ⟨e,he,q⟩
    rcases OP.mp he with rfl | he
    ·rw [e1] at q
     exact .inl (Qp q)
    ·exact .inr ⟨e,he,q⟩
   ·rintro (rfl | ⟨e,he,q⟩)
    ·exact ⟨_,OI,by rw [e1];exact Pr rfl⟩
    ·exact ⟨e,OK _ he,q⟩
theorem Bp {a:Addr} {led:Bool} {ks:List Int} {k:Int} {tk:Tok} {Q:Bool -> Shared -> Prop} (hS:SetI prog w s.heap a led ks) (hn:ks.length < 300)
  (h:∀ h' tk' r,SetI prog w h' a led (if ks.any (· == k) then ks else ks ++ [k]) -> (∀ b,b ≠ a -> h'.get? b = s.heap.get? b) -> Q r { s with heap:=h',toks:=tk' }):wpAny (model prog w) A (setAdd a (.int k tk)) Q E s:=by
 obtain ⟨o,es,ep,t,ho,hex,hd,ok,room,ris,pl,le,hel,ms,hi,hp⟩:=hS
 have hsz:es.size = ks.length:=by
  have:=hi.length
  rw [OJ,Ph] at this
  rw [this,hp.length_eq]
 have hle:es.size <= t.mask:=by lia
 have hf:=ok.fits hle
 have hsc:(Value.int k tk).scannable = true:=rfl
 have hkey:(intKind prog w).is k (.int k tk) = true:=intKind_is _ _ _ _
 have hb:es.size < scanBound:=by rw [hsz];show _ < 4096;lia
 unfold setAdd
 refine Pp ?_
 refine OA ((intKind prog w).pyHash (k:=k) hkey ?_)
 unfold setAddHashed setAddHashedIn
 refine Pp (OA (R5 ho hd hf ?_))
 dsimp only
 rw [byScan_of hsc hb hel]
 simp only [↓reduceIte]
 unfold setAddByScan
 refine OA ?_
 refine OA (PL ?_)
 refine OA (wpAny_setScan_of hkey ho hd hf hel ?_)
 cases hr:List.findIdx? (fun e=>(intKind prog w).is k e.2) es.toList with
 | some j=>
  dsimp only
  obtain ⟨hj,hpj,_⟩:=List.findIdx?_eq_some_iff_getElem.mp hr
  have hm:k ∈ ks:=hp.mem_iff.mp ((wQ hi).mp ⟨es.toList[j],List.getElem_mem hj,hpj⟩)
  refine OE (OE ?_)
  refine h s.heap _ _ ?_ fun _ _=>rfl
  rw [OC (List.any_eq_true.mpr ⟨k,hm,by simp⟩)]
  exact ⟨o,es,ep,t,ho,hex,hd,ok,room,ris,pl,le,hel,ms,hi,hp⟩
 | none=>
  dsimp only
  have hm:k ∉ ks:=fun z=>by
   obtain ⟨e,he,q⟩:=(wQ (prog:=prog) (w:=w) hi).mpr (hp.mem_iff.mpr z)
   have:=List.findIdx?_eq_none_iff.mp hr e he
   rw [q] at this
   exact Bool.noConfusion this
  have hany:¬ ks.any (· == k) = true:=fun z=>by
   obtain ⟨x,hx,e⟩:=List.any_eq_true.mp z
   rw [eq_of_beq e] at hx
   exact hm hx
  obtain ⟨es1,t1,e1,ok1,z1,m1,r1,l1,p1,pm1⟩:=Du ((intKind prog w).hash k) (.int k tk) ok room ris
  rw [e1]
  dsimp only
  refine OA (OE ?_)
  rw [p1,pl]
  rw [OC rfl]
  refine OA ?_
  rw [hashByValue_scannable 8 hsc]
  refine OE ?_
  have hpk:plainKind (Value.int k tk) = true:=rfl
  rw [hpk,OC rfl]
  have hel1:ElemsOf (intKind prog w) es1.toList:=(hel.push hkey hsc).perm (pm1.trans (List.perm_append_singleton _ _).symm)
  have hi1:IntsAre (((intKind prog w).hash k,Value.int k tk) :: es.toList |>.map (·.2)) (k :: ms):=.cons k tk hi
  obtain ⟨ms1,hi1',hp1⟩:=oP (pm1.map (·.2)) hi1
  have hpk1:ms1.Perm (ks ++ [k]):=hp1.trans ((hp.cons k).trans (List.perm_append_singleton _ _).symm)
  have fits1:es1.size <= sizeLine:=by rw [z1,O2];lia
  refine OA (wpAny_storeSet_of ho hd ?_ fits1)
  have hg1:(s.heap.update a (Obj.putSet es1 t1)).get? a = some { o with data:=.set es1 (ep + 1) t1 }:=by
   have:=Pt (Obj.putSet es1 t1) ho (by rw [putSet_of es1 t1 hd];rfl)
   rw [putSet_of es1 t1 hd] at this
   exact this
  have hz1:t1.fill = es.size + 1:=by
   unfold SetTable.fill
   rw [ok1.dm,ok1.pl,z1]
   rfl
  by_cases htf:t1.tooFull = true
  ·rw [OC (by rw [htf];rfl)]
   have hfu:t.mask * 3 <= (es.size + 1) * 5:=by
    unfold SetTable.tooFull at htf
    have:=Qp htf
    rw [hz1,m1] at this
    exact this
   obtain ⟨g1,g2,g3⟩:=Mt ok.msk room hfu (by lia)
   obtain ⟨es2,t2,e2,ok2,z2,m2,r2,l2,p2,pm2⟩:=zu (t:=t1) (es:=es1) (wanted:=grown es1.size) (by rw [z1];exact g1) (by rw [z1];lia)
   rw [e2]
   dsimp only
   refine OA (OE ?_)
   refine OA (wpAny_storeSet_of hg1 rfl ?_ (by rw [z2];exact fits1))
   refine OE (OE ?_)
   have hg2:((s.heap.update a (Obj.putSet es1 t1)).update a (Obj.putSet es2 t2)).get? a = some { o with data:=.set es2 (ep + 1 + 1) t2 }:=by
    have:=Pt (Obj.putSet es2 t2) hg1 (by rw [putSet_of es2 t2 rfl];rfl)
    rw [putSet_of es2 t2 rfl] at this
    exact this
   obtain ⟨ms2,hi2,hp2⟩:=oP (pm2.map (·.2)) hi1'
   refine h _ _ _ ?_ fun b hb=>?_
   ·rw [OB hany]
    refine ⟨_,es2,_,t2,hg2,hex,rfl,ok2,?_,r2,by rw [p2,p1,pl],by rw [l2,l1,le],hel1.perm pm2,ms2,hi2,hp2.trans hpk1⟩
    rw [z2,m2,z1]
    exact g2
   ·rw [PV _ _ _ _ hb,PV _ _ _ _ hb]
  ·rw [OB (by simpa using htf)]
   refine OE (OE ?_)
   refine h _ _ _ ?_ fun b hb=>PV _ _ _ _ hb
   rw [OB hany]
   refine ⟨_,es1,_,t1,hg1,hex,rfl,ok1,?_,r1,by rw [p1,pl],by rw [l1,le],hel1,ms1,hi1',hpk1⟩
   unfold SetTable.tooFull at htf
   have:¬ t1.fill * 5 ≥ t1.mask * 3:=fun z=>htf (Pr z)
   rw [hz1] at this
   rw [z1]
   lia
theorem Ge {h:Heap} {led:Bool}:SetI prog w (h.push { cls:=.type "set",dict:=none,data:=.set #[] 0 (.fresh 0 0 led) }) h.objs.size led []:=
 ⟨_,#[],0,.fresh 0 0 led,O3 _ rfl,⟨rfl,rfl,rfl⟩,rfl,⟨.inl rfl,rfl,rfl⟩,show 0 * 5 < 7 * 3 by decide,fun i j a b _ e=>by simp [SetTable.fresh] at e,rfl,rfl,fun e he=>by simp at he,[],.nil,.nil⟩
end
section
variable {prog:Program} {w:World} {A:Around} {R:Result -> Shared -> Prop} {I:Addr} {fp wr:List Addr} {n:Nat} {P:Nat -> Value -> Prop} {St:Nat -> Heap -> Prop} {led:Bool}
theorem SetI.kept {h h':Heap} {a:Addr} {ks:List Int} (x:SetI prog w h a led ks) (k:∀ o,h.get? a = some o -> h'.get? a = some o):SetI prog w h' a led ks:=by
 obtain ⟨o,es,ep,t,ho,r⟩:=x
 exact ⟨o,es,ep,t,k o ho,r⟩
theorem wH (l:List Int):(M.eR l).length <= l.length:=by
 have key:∀ (l a:List Int),(l.foldl M.hG a).length <= a.length + l.length:=by
  intro l
  induction l with
  | nil=>intro a;exact OH _
  | cons x l ih=>
   intro a
   refine OW (ih _) ?_
   unfold M.hG
   rw [OL]
   split
   ·lia
   ·rw [OM,PU];lia
 have:=key l []
 rw [RQ,Qo] at this
 exact this
theorem Dd (ns:List Int) {i:Nat} (hi:i < ns.length):M.eR (ns.take (i + 1)) = M.hG (M.eR (ns.take i)) ns[i]:=by
 have:ns.take (i + 1) = ns.take i ++ [ns[i]]:=by simp
 rw [this]
 unfold M.eR
 rw [Q7]
 rfl
theorem Ea (W:Walks prog w A.in1 I fp wr n P St) (S:Addr) (hSf:S ∉ fp) (ns:List Int) (hns:ns.length = n) (hn:n <= 300) (hP:∀ i v,P i v -> ∃ t,v = .int (ns.getD i 0) t) :
  ∀ (k i:Nat) (s:Shared),n - i = k -> i <= n -> St i s.heap -> SetI prog w s.heap S led (M.eR (ns.take i)) ->
   (∀ h' tk,(∀ b o,b ≠ S -> b ∉ wr -> s.heap.get? b = some o -> h'.get? b = some o) -> SetI prog w h' S led (M.eR ns) -> R (.ok (.ret .none)) { s with heap:=h',toks:=tk }) ->
   codeAny (model prog w) A (.builtin "set.update.loop" ⟨[.ref S,.ref I],[]⟩) R s:=by
 have hSw:S ∉ wr:=fun h=>hSf (W.sub _ h)
 intro k
 induction k with
 | zero=>
  intro i s hk hi hst hS hR
  have hin:i = n:=by lia
  subst hin
  refine Qs PyProof.Rows.F.entry_set_update_loop ?_
  rw [QI Sr _]
  refine OA (W.done s _ _ hst fun h' tk hk'=>?_)
  refine OE (hR h' tk (fun b o _ hb e=>hk' b o hb e) ?_)
  have:=hS.kept fun o e=>hk' S o hSw e
  rw [QU (by lia)] at this
  exact this
 | succ k ih=>
  intro i s hk hi hst hS hR
  have hlt:i < n:=by lia
  refine Qs PyProof.Rows.F.entry_set_update_loop ?_
  rw [QI Sr _]
  refine OA (W.item i s _ _ hlt hst fun v h' tk hv hst' hk'=>?_)
  obtain ⟨t,rfl⟩:=hP i v hv
  have hil:i < ns.length:=by lia
  have eg:ns.getD i 0 = ns[i]:=by simp [hil]
  rw [eg]
  refine OA (Pp (Bp (hS.kept fun o e=>hk' S o hSw e) (by have:=wH (ns.take i);rw [Qi] at this;lia) fun h2 tk2 r q1 q2=>?_))
  have q1':SetI prog w h2 S led (M.eR (ns.take (i + 1))):=by rw [Dd ns hil];exact q1
  refine OE ⟨QJ Sr _,ih (i + 1) _ (by lia) hlt (W.frame _ _ _ hst' fun b hb o e=>?_) q1' fun h3 tk3 z1 z2=>hR h3 tk3 (fun b o hb hw e=>z1 b o hb hw ?_) z2⟩
  ·show h2.get? b = some o
   rw [q2 b fun z=>hSf (z ▸ hb)]
   exact e
  ·show h2.get? b = some o
   rw [q2 b hb]
   exact hk' b o hw e
end
section
variable {prog:Program} {w:World} {A:Around} {E:Value -> Shared -> Prop} {s:Shared}
theorem Gg (a:Value) {Q₁:Value -> Shared -> Prop}
  (h:Q₁ (.ref s.heap.objs.size) { s with heap:=s.heap.push { cls:=.type "set",dict:=none,data:=.set #[] 0 (.fresh 0 0 (!w.params.followText "set-order")) } }) :
  codeAny (model prog w) A (.call (.builtin "set.__new__") ⟨[.type "set",a],[]⟩) (wants Q₁ E) s:=by
 refine codeAny_of_tree ?_
 show wpAny _ A.in1 (do checkBuiltinCall "set.__new__" ⟨[.type "set",a],[]⟩;again (.builtin "set.__new__" ⟨[.type "set",a],[]⟩)) _ _ s
 refine OA (Qq (F.newCall_set_1 a) (OE ⟨QJ F.plain_set_new _,Qs F.entry_set_new ?_⟩))
 rw [QI F.plain_set_new _]
 unfold Builtin.«set.__new__» Builtin.Frozenset.newClass
 have hsub:=sub_set_self
 obtain ⟨hp,g,d,tk,os⟩:=s
 dsimp only
 wp_walk
 refine RD (OE ?_)
 dsimp only
 simp only [newObj]
 refine OA (wpAny_alloc (OE ?_))
 exact OE h
theorem rM {l:Addr} {items:Array Value} {ns:List Int} {Q:Value -> Shared -> Prop}
  (hh:A.handled = none) (hl:s.heap.IsList l items) (hns:ns.length = items.size) (hn:items.size <= 300) (hi:IntsAre items.toList ns)
  (h:∀ (h':Heap) (tk:Nat),SetI prog w h' s.heap.objs.size (!w.params.followText "set-order") (M.eR ns) -> (∀ b o,s.heap.get? b = some o -> h'.get? b = some o) -> Q (.ref s.heap.objs.size) { s with heap:=h',toks:=tk }) :
  wpAny (model prog w) A (call (.type "set") [.ref l]) Q E s:=by
 obtain ⟨c,tl,hmro⟩:=Qv.mro
 have hmade:=Qv.made
 have hsub:=Qv.sub
 generalize eled:(!w.params.followText "set-order") = led at h
 refine wpAny_call (codeAny_of_tree ?_)
 show wpAny _ _ (callAny (.type "set") _) _ _ _
 refine OE ⟨Code.quiet_builtin _ (by decide +kernel),Qs F.entry_type_call ?_⟩
 rw [Around.under_plain (weight_type_call_type "set" [.ref l] []) rfl]
 have h1:=Qv.notType
 have h2:=Qv.canCreate
 have hct:=F.typeCall_set_1 (.ref l)
 repeat (any_goals (first | assumption | wp_step))
 refine Rb (Gg (.ref l) (E:=E) (Q₁:=fun obj s₁=>obj = .ref s.heap.objs.size /\ s₁ = { s with heap:=s.heap.push { cls:=.type "set",dict:=none,data:=.set #[] 0 (.fresh 0 0 led) } }) ⟨rfl,by rw [eled]⟩) fun r s₁ hr=>?_
 cases r with
 | error e=>exact hr
 | ok fl=>
  cases fl with
  | ret obj=>
   obtain ⟨rfl,rfl⟩:=hr
   have hS:(s.heap.push { cls:=.type "set",dict:=none,data:=.set #[] 0 (.fresh 0 0 led) }).get? s.heap.objs.size = some { cls:=.type "set",dict:=none,data:=.set #[] 0 (.fresh 0 0 led) }:=O3 _ rfl
   have hT:Shared.TypeIs { s with heap:=s.heap.push { cls:=.type "set",dict:=none,data:=.set #[] 0 (.fresh 0 0 led) } } (.ref s.heap.objs.size) "set" := ⟨_,hS,rfl⟩
   have hli:=Qv.init.lookup
   have hbi:=Qv.init.bind (.ref s.heap.objs.size)
   repeat (any_goals (first | assumption | wp_step))
   refine Rb (Si (R:=wants (fun r s₂=>r = .none /\ ∃ h' tk,s₂ = { s with heap:=h',toks:=tk } /\ SetI prog w h' s.heap.objs.size led (M.eR ns) /\ (∀ b o,s.heap.get? b = some o -> h'.get? b = some o)) E) Qv.init.plain F.entry_set_init (check_set_init_1 hT ?_)) fun r₂ s₂ hr₂=>?_
   ·obtain ⟨ol,hol,hcl,nl,hdl⟩:=hl
    obtain ⟨ocls,odict,odata,oslots⟩:=ol
    simp only at hcl hdl
    subst hcl;subst hdl
    have hol':(s.heap.push { cls:=.type "set",dict:=none,data:=.set #[] 0 (.fresh 0 0 led) }).get? l = some { cls:=.type "list",dict:=odict,data:=.seq items nl,slots:=oslots }:=OT _ hol
    have hsls:=F.sub_list_set
    have hslf:=F.sub_list_frozenset
    have hne:(Value.type "list" == Value.type "dict") = false:=by decide
    have hl1:(s.heap.push { cls:=.type "set",dict:=none,data:=.set #[] 0 (.fresh 0 0 led) }).IsList l items:=⟨_,hol',rfl,nl,rfl⟩
    unfold Builtin.«set.__init__» noKeywords Builtin.Frozenset.updateFrom
    generalize hPI:pyIter = PI
    wp_walk
    subst hPI
    refine wpAny_pyIter_list hl1 ?_
    refine OA (wpAny_runValue ?_)
    have hlS:l < s.heap.objs.size:=OS hol
    have hh3:A.in1.in1.in1.handled = none:=by simp [hh]
    have hneI:l ≠ (s.heap.push { cls:=.type "set",dict:=none,data:=.set #[] 0 (.fresh 0 0 led) }).objs.size:=by
     rw [Rh];exact OX (QR hlS)
    have hSf:s.heap.objs.size ∉ [(s.heap.push { cls:=.type "set",dict:=none,data:=.set #[] 0 (.fresh 0 0 led) }).objs.size,l]:=by
     rw [Rh];simp only [OP,OO,Rs,or_false,not_or]
     exact ⟨OX (QD _),Qh hlS⟩
    refine Ea (led:=led) (Walks.list hh3 _ l hneI items) s.heap.objs.size hSf ns hns hn (fun i v hv=>IntsAre.int_at hi i v (by rw [PN];exact hv)) (items.size - 0) 0 _ (by lia) (Pl _)
     ⟨⟨_,O3 _ rfl,rfl,rfl⟩,(hl1.push _)⟩ ?hS0 ?hR
    case hS0=>
     rw [List.take_zero]
     exact (Ge (h:=s.heap) (led:=led)).kept fun o e=>OT _ e
    case hR=>
     intro h' tk' hk' hS'
     show wpAny _ _ _ _ _ _
     refine OE ?_
     show wpAny _ _ (ret Value.none) _ _ _
     refine OE ⟨rfl,h',tk',rfl,hS',fun b o e=>hk' b o (OX (OS e)) (fun z=>?_) (OT _ (OT _ e))⟩
     rw [OO.mp z,Rh] at e
     exact absurd (OS e) (Nat.not_lt.mpr (Nat.le_succ _))
   ·cases r₂ with
    | error e=>exact hr₂
    | ok fl₂=>
     cases fl₂ with
     | ret r=>
      obtain ⟨rfl,h',tk,rfl,hS',hk'⟩:=hr₂
      repeat (any_goals (first | assumption | wp_step))
      exact h _ _ hS' hk'
     | _=>exact hr₂.elim
  | _=>exact hr.elim
end
theorem Cp {α:Type} (next:Nat -> Nat):∀ (fuel k:Nat) (left:List α) (out:Array α),left.length = fuel -> (pickOrder.go next fuel k left out).toList.Perm (out.toList ++ left)
 | 0,k,left,out,h=>by
  have:left = []:=Q6 h
  subst this
  rw [Pd]
  exact .refl _
 | fuel + 1,k,left,out,h=>by
  unfold pickOrder.go
  have hm:next k % left.length < left.length:=Nat.mod_lt _ (by lia)
  rw [P0 hm]
  dsimp only
  refine (Cp next fuel (k + 1) _ _ (by rw [List.length_eraseIdx,OC hm];lia)).trans ?_
  rw [Qn,Pb]
  refine Se _ ?_
  show (left[next k % left.length] :: left.eraseIdx (next k % left.length)).Perm left
  rw [List.eraseIdx_eq_take_drop_succ]
  refine List.perm_middle.symm.trans (.of_eq ?_)
  rw [<- Rj hm,RM]
theorem vJ {α:Type} (next:Nat -> Nat) (xs:Array α):(pickOrder next xs).toList.Perm xs.toList:=by
 have:=Cp next xs.size 0 xs.toList #[] (Ph ..)
 exact this
theorem slot_next:Slot "set_iterator" "__next__" "set_iterator.__next__" := .of (owner := "set_iterator") (n := "__next__") (by rw [QG,QH];kernel_rfl) (by decide +kernel) (by decide +kernel) (by decide +kernel) (by first | exact .inl (by decide +kernel) | exact .inr (by decide +kernel)) (by rw [QY];kernel_rfl)
theorem rZ:entryFor table "set_iterator.__next__" = some Builtin.«set_iterator.__next__»:=entryFor_of_tree (by kernel_rfl)
theorem uR (a:Value):argsOk "set_iterator.__next__" ⟨[a],[]⟩:=by unfold argsOk;kernel_rfl
theorem vW:Slot "set" "__iter__" "set.__iter__" := .of (owner := "set") (n := "__iter__") (by rw [QG,QH];kernel_rfl) (by decide +kernel) (by decide +kernel) (by decide +kernel) (by first | exact .inl (by decide +kernel) | exact .inr (by decide +kernel)) (by rw [QY];kernel_rfl)
theorem AD:entryFor table "set.__iter__" = some Builtin.«frozenset.__iter__»:=entryFor_alias (id' := "frozenset.__iter__") (by kernel_rfl) (by first | rfl | decide +kernel | (unfold String.splitOn;simp +decide [String.splitOnAux])) (by decide +kernel) (by kernel_rfl)
theorem C2 (a:Value):argsOk "set.__iter__" ⟨[a],[]⟩:=by unfold argsOk;kernel_rfl
noncomputable def lI (w:World) (S:Addr) (ep:Nat) (es:Array (Int × Value)):Array (Int × Value):=if w.params.followText "set-order" = true then pickOrder (w.params.setOrder S ep) es else es
def IsSetIt (w:World) (h:Heap) (I S:Addr) (t:SetTable) (n ep i:Nat):Prop:=∃ o slot,h.get? I = some o /\ o.cls = .type "set_iterator" /\ o.data = .fields #[rawInt ((slot:Nat):Int),rawInt ((i:Nat):Int),.ref S,rawInt ((n:Nat):Int),rawInt ((ep:Nat):Int)] /\ (w.params.followText "set-order" = false -> below t.place slot = i)
section
variable {prog:Program} {w:World} {A:Around} {E:Value -> Shared -> Prop} {s:Shared} {I S:Addr} {oS:Obj} {es:Array (Int × Value)} {ep:Nat} {t:SetTable} {i:Nat}
theorem IsSetIt.typeIs {n:Nat} (x:IsSetIt w s.heap I S t n ep i):s.TypeIs (.ref I) "set_iterator" := let ⟨o,_,ho,hc,_⟩:=x;⟨o,ho,hc⟩
theorem Iv {Q:Array (Int × Value) -> Shared -> Prop} (hb:w.params.followText "set-order" = true) (ho:s.heap.get? S = some oS) (hd:oS.data = .set es ep t) (hf:t.fits es.size = true) (h:Q (lI w S ep es) s):wpAny (model prog w) A (setWalk S) Q E s:=by
 unfold setWalk
 refine OA (R5 ho hd hf ?_)
 dsimp only
 unfold setsByText
 refine OA (OA (RD (OE ?_)))
 show wpAny _ _ (if w.params.followText "set-order" = true then _ else _) _ _ _
 rw [OC hb]
 refine OA (RD (OE ?_))
 unfold lI at h
 rw [OC hb] at h
 exact h
theorem Cf {slot:Nat} {Q:Option (Value × Nat) -> Shared -> Prop} (ho:s.heap.get? S = some oS) (hd:oS.data = .set es ep t) (hf:t.fits es.size = true) (hr:Ris t.place) (hl:t.led = !w.params.followText "set-order") (hp:t.plain = true) (hs:w.params.followText "set-order" = false -> below t.place slot = i)
  (h1:∀ e slot',(lI w S ep es)[i]? = some e -> (w.params.followText "set-order" = false -> below t.place slot' = i + 1) -> Q (some (e.2,slot')) s) (h2:(lI w S ep es)[i]? = none -> Q none s):wpAny (model prog w) A (setNext S slot i ep) Q E s:=by
 unfold setNext
 refine OA (R5 ho hd hf ?_)
 dsimp only
 unfold setsByText
 refine OA (OA (RD (OE ?_)))
 show wpAny _ _ (if w.params.followText "set-order" = true then _ else _) _ _ _
 by_cases hb:w.params.followText "set-order" = true
 ·rw [OC hb,OB (by simp)]
  refine OA (Iv hb ho hd hf (OE ?_))
  cases q:(lI w S ep es)[i]? with
  | none=>exact h2 q
  | some e=>exact h1 e slot q fun z=>by rw [hb] at z;cases z
 ·have hb':w.params.followText "set-order" = false:=by simpa using hb
  rw [OB hb]
  have eo:lI w S ep es = es:=by unfold lI;rw [OB hb]
  rw [eo] at h1 h2
  rw [hb'] at hl
  show wpAny _ _ (if (!t.plain && decide (es.size > 1)) = true then _ else _) _ _ _
  rw [OB (by rw [hp];simp)]
  show wpAny _ _ ((if (!t.led && !es.isEmpty) = true then _ else _) >>= _) _ _ _
  rw [OB (by rw [hl];simp)]
  refine OA (OE (OE ?_))
  rw [hs hb']
  have hz:t.place.size = es.size:=by
   unfold SetTable.fits at hf
   simp only [PH,Qk] at hf
   exact hf.1
  cases q:es[i]? with
  | none=>exact h2 q
  | some e=>
   have hi:=(Q2.mp q).1
   have q2:t.place[i]? = some (t.place[i]'(by lia)):=PQ (by lia)
   rw [q2]
   exact h1 e _ q fun _=>Ak hr q2
end
theorem vX:Slot "set_iterator" "__iter__" "set_iterator.__iter__" := .of (owner := "set_iterator") (n := "__iter__") (by rw [QG,QH];kernel_rfl) (by decide +kernel) (by decide +kernel) (by decide +kernel) (by first | exact .inl (by decide +kernel) | exact .inr (by decide +kernel)) (by rw [QY];kernel_rfl)
theorem C3 (a:Value):argsOk "set_iterator.__iter__" ⟨[a],[]⟩:=by unfold argsOk;kernel_rfl
theorem AE:entryFor table "set_iterator.__iter__" = some Builtin.«dict_keyiterator.__iter__»:=entryFor_alias (id' := "dict_keyiterator.__iter__") (by kernel_rfl) (by first | rfl | decide +kernel | (unfold String.splitOn;simp +decide [String.splitOnAux])) (by decide +kernel) (by kernel_rfl)
theorem HA:typeLookup (.type "set") "__len__" = pure (some (.builtin "set.__len__")):=by rw [QG,QH];kernel_rfl
theorem Im:isSubtype (.type "set") (.type "set") = pure true:=by rw [QY];kernel_rfl
structure WSet (w:World) (h:Heap) (S:Addr) (es:Array (Int × Value)) (ep:Nat) (t:SetTable):Prop where
 at':∃ o,h.get? S = some o /\ o.ExactSet /\ o.data = .set es ep t
 fits:t.fits es.size = true
 ris:Ris t.place
 led:t.led = !w.params.followText "set-order"
 plain:t.plain = true
section
variable {prog:Program} {w:World} {A:Around} {E:Value -> Shared -> Prop} {s:Shared} {I S:Addr} {es:Array (Int × Value)} {ep:Nat} {t:SetTable} {i:Nat}
theorem WSet.kept {h h':Heap} (x:WSet w h S es ep t) (k:∀ o,h.get? S = some o -> h'.get? S = some o):WSet w h' S es ep t:=by
 obtain ⟨⟨o,ho,r⟩,f,a,b,c⟩:=x
 exact ⟨⟨o,k o ho,r⟩,f,a,b,c⟩
theorem sU:(lI w S ep es).size = es.size:=by
 unfold lI
 split
 ·rw [<- Ph,(vJ _ es).length_eq,Ph]
 ·rfl
theorem Gf {Q:Option Value -> Shared -> Prop} (hit:IsSetIt w s.heap I S t es.size ep i) (hS:WSet w s.heap S es ep t) (hi:i < es.size)
  (hQ:∀ e h',(lI w S ep es)[i]? = some e -> IsSetIt w h' I S t es.size ep (i + 1) -> (∀ b,b ≠ I -> h'.get? b = s.heap.get? b) -> Q (some e.2) { s with heap:=h' }):wpAny (model prog w) A (pyNext (.ref I)) Q E s:=by
 obtain ⟨o,slot,ho,hc,hd,hb⟩:=id hit
 obtain ⟨⟨oS,hoS,hex,hdS⟩,hf,hr,hl,hp⟩:=hS
 unfold pyNext
 refine OA (Ri (QN (name:=Str.ofString "__next__") hit.typeIs slot_next (PR slot_next hit.typeIs rZ ?_ (uR _))))
 unfold Builtin.«set_iterator.__next__»
 refine OA (Qq (a:=(Value.ref I,[])) rfl ?_)
 refine OA (Q4 ho hd ?_)
 show wpAny _ _ (setEntries S >>= _) _ _ s
 refine OA (wpAny_setEntries_of hoS hdS hf ?_)
 rw [OB (by simp [rawInt])]
 show wpAny _ _ (setNext S ((slot:Nat):Int).toNat ((i:Nat):Int).toNat ((ep:Nat):Int).toNat >>= _) _ _ s
 rw [Qe,Qe,Qe]
 refine OA (Cf hoS hdS hf hr hl hp hb (fun e slot' q hb'=>?_) fun q=>?_)
 ·dsimp only
  refine OA (RC ho hd (by simp) ?_)
  have ho1:=Pt (h:=s.heap) (Obj.mapFields (·.setIfInBounds 0 (rawInt slot'))) ho (Rv (Qr hd _))
  have hd1:=Qr hd (·.setIfInBounds 0 (rawInt slot'))
  refine OA (RC (s:={ s with heap:=s.heap.update I (Obj.mapFields (·.setIfInBounds 0 (rawInt slot'))) }) ho1 hd1 (by simp) ?_)
  refine OE ⟨e.2,rfl,OE (hQ e _ q ?_ fun b hb2=>?_)⟩
  ·exact ⟨_,slot',Pt _ ho1 (Rv (Qr hd1 _)),(RS ..).trans ((RS ..).trans hc),by rw [Qr hd1];simp [rawInt],hb'⟩
  ·show ((s.heap.update I _).update I _).get? b = _
   rw [PV _ _ _ _ hb2,PV _ _ _ _ hb2]
 ·rw [Array.getElem?_eq_none_iff,sU] at q
  lia
theorem Ig {Q:Option Value -> Shared -> Prop} (hh:A.handled = none) (hit:IsSetIt w s.heap I S t es.size ep es.size) (hS:WSet w s.heap S es ep t)
  (hQ:∀ h',Heap.ExtBut I s.heap h' -> Q none { s with heap:=h' }):wpAny (model prog w) A (pyNext (.ref I)) Q E s:=by
 obtain ⟨o,slot,ho,hc,hd,hb⟩:=id hit
 obtain ⟨⟨oS,hoS,hex,hdS⟩,hf,hr,hl,hp⟩:=hS
 unfold pyNext
 refine OA (Ri (QN (name:=Str.ofString "__next__") hit.typeIs slot_next (PR slot_next hit.typeIs rZ ?_ (uR _))))
 unfold Builtin.«set_iterator.__next__»
 refine OA (Qq (a:=(Value.ref I,[])) rfl ?_)
 refine OA (Q4 ho hd ?_)
 show wpAny _ _ (setEntries S >>= _) _ _ s
 refine OA (wpAny_setEntries_of hoS hdS hf ?_)
 rw [OB (by simp [rawInt])]
 show wpAny _ _ (setNext S ((slot:Nat):Int).toNat ((es.size:Nat):Int).toNat ((ep:Nat):Int).toNat >>= _) _ _ s
 rw [Qe,Qe,Qe]
 refine OA (Cf hoS hdS hf hr hl hp hb (fun e slot' q hb'=>?_) fun q=>?_)
 ·have:=(Q2.mp q).1
  rw [sU] at this
  lia
 ·dsimp only
  refine OA (RC ho hd (by simp) ?_)
  show wpAny _ _ (newExc (.type "StopIteration") [] >>= _) _ _ _
  refine OA ?_
  simp only [newExc,newTuple]
  refine OA (Ps ?_ (by size_fits))
  refine OA (m:=firstArgMember _ _) (Qq (a:=Value.none) (by first | rfl | (simp only [firstArgMember];rfl)) ?_)
  refine Ps ?_ (by size_fits)
  simp only [raiseNew]
  refine OA (wpAny_handled ?_)
  first | rw [show A.in1.handled = none from hh] | rw [hh]
  refine OA (OE (QZ ?_))
  refine OA (Q0 (T := "StopIteration") (b:=true) ⟨_,O3 _ rfl,rfl⟩ isSubtype_stop ?_)
  exact OE (hQ _ (((RA ..).extBut.push _).push _))
theorem GI (hh:A.handled = none) (hne:S ≠ I) (es:Array (Int × Value)) (ep:Nat) (t:SetTable) :
  Walks prog w A I [I,S] [I] es.size (fun i v=>∃ e,(lI w S ep es)[i]? = some e /\ v = e.2) (fun i h=>IsSetIt w h I S t es.size ep i /\ WSet w h S es ep t) where
 sub:=fun b hb=>by simp at hb;simp [hb]
 frame:=fun i h h' st hk=>by
  obtain ⟨⟨o,slot,ho,r⟩,st2⟩:=st
  exact ⟨⟨o,slot,hk I (by simp) o ho,r⟩,st2.kept fun o e=>hk S (by simp) o e⟩
 item:=fun i s Q E hi st hQ=>Gf st.1 st.2 hi fun e h' q it' oth=>by
  have:=hQ e.2 h' s.toks ⟨e,q,rfl⟩ ⟨it',st.2.kept fun o z=>by rw [oth S hne];exact z⟩ (fun b o hb z=>by rw [oth b fun y=>hb (by simp [y])];exact z)
  exact this
 done:=fun s Q E st hQ=>Ig hh st.1 st.2 fun h' x=>hQ h' s.toks fun b o hb z=>x b o (fun y=>hb (by simp [y])) z
 self:=fun i s Q E st h=>by
  refine wpAny_pyIter_slot st.1.typeIs vX (PR vX st.1.typeIs AE ?_ (C3 _))
  show wpAny _ _ (ret (.ref I)) _ _ s
  exact OE ⟨_,rfl, "set_iterator",_,st.1.typeIs,slot_next.lookup,h⟩
theorem EZ {Q:Value -> Shared -> Prop} (hS:WSet w s.heap S es ep t)
  (hQ:Q (.ref s.heap.objs.size) { s with heap:=s.heap.push { cls:=.type "set_iterator",data:=.fields #[rawInt 0,rawInt 0,.ref S,rawInt es.size,rawInt ep] } }):wpAny (model prog w) A (pyIter (.ref S)) Q E s:=by
 obtain ⟨⟨oS,hoS,hex,hdS⟩,hf,hr,hl,hp⟩:=hS
 have hT:s.TypeIs (.ref S) "set" := ⟨oS,hoS,hex.1⟩
 refine wpAny_pyIter_slot hT vW (PR vW hT AD ?_ (C2 _))
 unfold Builtin.«frozenset.__iter__»
 refine OA (Qq (a:=S) rfl ?_)
 refine OA (m:=Builtin.Frozenset.sizeOf S) ?_
 unfold Builtin.Frozenset.sizeOf
 refine OA (wpAny_setEntries_of hoS hdS hf (OE ?_))
 refine OA ?_
 unfold setDrawn
 refine OA (R5 hoS hdS hf ?_)
 dsimp only
 unfold setsByText
 refine OA (OA (RD (OE (OE ?_))))
 show wpAny _ _ (if (!w.params.followText "set-order" && (!t.plain && decide (es.size > 1))) = true then _ else _) _ _ _
 rw [OB (by rw [hp];simp)]
 refine OA (OE ?_)
 refine OA (wpAny_setEpoch_of hoS hdS hf ?_)
 refine OA (Ps (OE ⟨_,rfl, "set_iterator",_,⟨_,O3 _ rfl,rfl⟩,slot_next.lookup,hQ⟩))
end
section
variable {prog:Program} {w:World} {A:Around} {E:Value -> Shared -> Prop} {s:Shared} {S:Addr} {es:Array (Int × Value)} {ep:Nat} {t:SetTable}
theorem x8 {Q:List Value -> Shared -> Prop} (hh:A.handled = none) (hS:WSet w s.heap S es ep t) (hn:es.size <= 300)
  (hQ:∀ h' tk (vs:List Value),vs.length = es.size -> (∀ (i:Nat) v,vs[i]? = some v -> ∃ e,(lI w S ep es)[i]? = some e /\ v = e.2) -> (∀ b o,s.heap.get? b = some o -> h'.get? b = some o) -> s.heap.objs.size <= h'.objs.size -> Q vs { s with heap:=h',toks:=tk }):wpAny (model prog w) A (collect (.ref S)) Q E s:=by
 obtain ⟨oS,hoS,hex,hdS⟩:=hS.at'
 have hSl:S < s.heap.objs.size:=OS hoS
 unfold collect
 refine OA (wpAny_runValue (Qs PySem.F.entry_proto_collect ?_))
 rw [QI PySem.F.plain_proto_collect _]
 show wpAny _ A.in1 (newList [] >>= fun l=>again (.builtin "list.__iadd__" ⟨[l,.ref S],[]⟩)) _ _ s
 refine OA (Ps ?_)
 refine OE ⟨QJ PySem.F.plain_list_iadd _,Qs PySem.F.entry_list_iadd ?_⟩
 rw [QI PySem.F.plain_list_iadd _]
 have hL:(s.heap.push { cls:=.type "list",data:=.seq ([]:List Value).toArray }).get? s.heap.objs.size = some { cls:=.type "list",data:=.seq ([]:List Value).toArray }:=O3 _ rfl
 have hS1:WSet w (s.heap.push { cls:=.type "list",data:=.seq ([]:List Value).toArray }) S es ep t:=hS.kept fun o e=>OT _ e
 have h1:Builtin.List.listSameRef (.ref s.heap.objs.size) (.ref S) = false:=by simp [Builtin.List.listSameRef];exact Qh hSl
 show wpAny _ A.in1 (Builtin.List.listExtendWith (.ref s.heap.objs.size) (.ref S) (.ref s.heap.objs.size)) _ _ _
 unfold Builtin.List.listExtendWith
 refine OA (P9 (T := "set") ⟨oS,OT _ hoS,hex.1⟩ ?_)
 rw [OB (by rw [h1];decide)]
 refine OA (EZ (s:={ s with heap:=s.heap.push { cls:=.type "list",data:=.seq ([]:List Value).toArray } }) hS1 ?_)
 refine OA (Pp ?_)
 unfold Builtin.List.listLengthHint
 have hT2:Shared.TypeIs { s with heap:=(s.heap.push { cls:=.type "list",data:=.seq ([]:List Value).toArray }).push { cls:=.type "set_iterator",data:=.fields #[rawInt 0,rawInt 0,.ref S,rawInt es.size,rawInt ep] } } (.ref S) "set" := ⟨oS,OT _ (OT _ hoS),hex.1⟩
 refine OA (wpAny_specialOf hT2 HA ?_)
 (generalize hid:("set.__len__" : String) = id0;wp_delta;rw [show splitId id0 = some ("set", "__len__") from by subst hid;decide +kernel];subst hid)
 refine OA (Q0 (b:=true) hT2 Im ?_)
 rw [OB (by decide)]
 dsimp only
 rw [OC (by decide +kernel)]
 refine OA (P9 hT2 ?_)
 dsimp only
 refine OE ?_
 rw [OC (by decide +kernel)]
 refine OA (PL ?_)
 have eI:(s.heap.push { cls:=.type "list",data:=.seq ([]:List Value).toArray }).objs.size = s.heap.objs.size + 1:=Rh ..
 have hL2:((s.heap.push { cls:=.type "list",data:=.seq ([]:List Value).toArray }).push { cls:=.type "set_iterator",data:=.fields #[rawInt 0,rawInt 0,.ref S,rawInt es.size,rawInt ep] }).get? s.heap.objs.size = some { cls:=.type "list",data:=.seq ([]:List Value).toArray }:=OT _ hL
 refine OA (m:=Builtin.List.listTouch (.ref s.heap.objs.size)) ?_
 show wpAny _ _ (updateSeq s.heap.objs.size (·.push .none) >>= fun _=>updateSeq s.heap.objs.size (·.pop)) _ _ _
 refine OA (RE hL2 rfl ?_)
 have hL3:=Pt (Obj.mapSeq (·.push Value.none)) hL2 rfl
 refine RE hL3 rfl ?_
 have hL4:=Pt (Obj.mapSeq (·.pop)) hL3 rfl
 have hoth:∀ b o,b ≠ s.heap.objs.size -> ((s.heap.push { cls:=.type "list",data:=.seq ([]:List Value).toArray }).push { cls:=.type "set_iterator",data:=.fields #[rawInt 0,rawInt 0,.ref S,rawInt es.size,rawInt ep] }).get? b = some o ->
   ((((s.heap.push { cls:=.type "list",data:=.seq ([]:List Value).toArray }).push { cls:=.type "set_iterator",data:=.fields #[rawInt 0,rawInt 0,.ref S,rawInt es.size,rawInt ep] }).update s.heap.objs.size (Obj.mapSeq (·.push Value.none))).update s.heap.objs.size (Obj.mapSeq (·.pop))).get? b = some o:=fun b o hb e=>by
  rw [PV _ _ _ _ hb,PV _ _ _ _ hb]
  exact e
 have hI:s.heap.objs.size + 1 ≠ s.heap.objs.size:=Nat.succ_ne_self _
 have hit:IsSetIt w ((((s.heap.push { cls:=.type "list",data:=.seq ([]:List Value).toArray }).push { cls:=.type "set_iterator",data:=.fields #[rawInt 0,rawInt 0,.ref S,rawInt es.size,rawInt ep] }).update s.heap.objs.size (Obj.mapSeq (·.push Value.none))).update s.heap.objs.size (Obj.mapSeq (·.pop))) (s.heap.objs.size + 1) S t es.size ep 0:=
  ⟨_,0,hoth _ _ hI (by rw [<- eI];exact O3 _ rfl),rfl,rfl,fun _=>Al hS.ris⟩
 have hS4:=hS1.kept (h':=((((s.heap.push { cls:=.type "list",data:=.seq ([]:List Value).toArray }).push { cls:=.type "set_iterator",data:=.fields #[rawInt 0,rawInt 0,.ref S,rawInt es.size,rawInt ep] }).update s.heap.objs.size (Obj.mapSeq (·.push Value.none))).update s.heap.objs.size (Obj.mapSeq (·.pop)))) fun o e=>hoth S o (OX hSl) (OT _ e)
 rw [eI]
 have hne:S ≠ s.heap.objs.size + 1:=OX (QR hSl)
 have hSf:s.heap.objs.size ∉ [s.heap.objs.size + 1,S]:=by
  simp only [OP,Rs,or_false,not_or]
  exact ⟨OX (QD _),Qh hSl⟩
 refine OE ⟨QJ PySem.F.plain_extend_loop _,codeAny_extend_loopS (GI (A:=A.in1) (prog:=prog) (w:=w) hh hne es ep t).toS (by rw [O2];lia) _ hSf _ es.size 0 _ _ _ (Nat.sub_zero _) (Pl _) ⟨hit,hS4⟩ hL4 (ItemsOf.nil _) fun s' acc c hm hL' hacc=>?_⟩
 show wpAny _ A (load s.heap.objs.size >>= _) _ _ s'
 refine OA (wpAny_load hL' ?_)
 have es':s' = { s with heap:=s'.heap,toks:=s'.toks }:=by
  obtain ⟨h',g',d',tk',os'⟩:=s'
  have e1:=hm.gens
  have e2:=hm.drawn
  have e3:=hm.os
  dsimp only at e1 e2 e3
  rw [e1,e2,e3]
 rw [es']
 refine OE (hQ s'.heap s'.toks acc.toList (by rw [Ph];exact hacc.1) (fun i v q=>hacc.2 i v (by rw [<- PN];exact q)) (fun b o e=>?_) (Pk (OS hL')))
 have hb:=OS e
 refine hm.heap b o (fun z=>?_) (hoth b o (OX hb) (OT _ (OT _ e)))
 rcases OP.mp z with z | z
 ·exact absurd z (OX hb)
 ·rw [OO] at z
  rw [z] at hb
  exact absurd hb (Nat.not_lt.mpr (Nat.le_succ _))
theorem Bv {ks:List Int} {Q:Value -> Shared -> Prop} (hh:A.handled = none) (hS:SetI prog w s.heap S (!w.params.followText "set-order") ks) (hn:ks.length <= 300)
  (h:∀ h' tk l c (out:Array Value) (ms:List Int),s.heap.objs.size <= l -> h'.get? l = some (seqObj "list" out c) -> IntsAre out.toList ms -> ms.Perm ks -> ms.Pairwise (· <= ·) -> (∀ b o,s.heap.get? b = some o -> h'.get? b = some o) -> Q (.ref l) { s with heap:=h',toks:=tk }) :
  wpAny (model prog w) A (call (.builtin "sorted") [.ref S]) Q E s:=by
 obtain ⟨o,es,ep,t,ho,hex,hd,ok,room,ris,pl,le,hel,ms,hi,hp⟩:=hS
 have hsz:es.size = ks.length:=by
  have:=hi.length
  rw [OJ,Ph] at this
  rw [this,hp.length_eq]
 have hW:WSet w s.heap S es ep t:=⟨⟨o,ho,hex,hd⟩,ok.fits (by lia),ris,le,pl⟩
 refine Calls.call_function_entry kind_sorted plain_sorted entry_sorted (args_sorted1 (.ref S)) ?_
 unfold Builtin.«sorted»
 refine OA (m:=checkCount "sorted" 1 1 _) (OE (OA (x8 hh hW (by lia) fun h1 tk1 vs hl hv old1 hge=>?_)))
 have evs:vs = (lI w S ep es).toList.map (·.2):=by
  apply QV
  intro i
  rw [O6,PN (xs:=lI w S ep es)]
  cases q:vs[i]? with
  | none=>
   rw [QE,hl] at q
   rw [R0 (by rw [sU];exact q)]
   rfl
  | some v=>
   obtain ⟨e,e1,e2⟩:=hv i v q
   rw [e1,e2]
   rfl
 have po:(lI w S ep es).toList.Perm es.toList:=by
  unfold lI
  split
  ·exact vJ _ es
  ·exact .refl _
 obtain ⟨ks1,hi1,hp1⟩:=oP (us:=vs) (by rw [evs];exact po.map (·.2)) hi
 have hz:vs.length <= sizeLine:=by rw [hl,O2];lia
 refine OA (wpAny_newList ?_ hz)
 have at1:(h1.push (seqObj "list" vs.toArray 0)).get? h1.objs.size = some (seqObj "list" vs.toArray 0):=O3 _ rfl
 refine OA (Pp (PR slot_list_sort ⟨_,at1,rfl⟩ entry_list_sort (Srt.yM (κ:=oneType') (le:=fun i j=>ks1.getD i 0 <= ks1.getD j 0) (Srt.y8 fun i=>ks1.getD i 0) at1 hz (fun h' kp=>Srt.su hi1) fun p hp2 ha=>⟨_,rfl,OE ⟨_,rfl,?_⟩⟩) (args_list_sort _)))
 obtain ⟨c,at2⟩:=sortedHeap_at (out:=Srt.gL vs p) at1
 have e:=Srt.sj hi1
 have hb:∀ i ∈ p.toList,i < vs.length:=fun i hi=>by simpa using (QS.mp hp2).mem_iff.mp hi
 rw [e] at hp2 ha
 obtain ⟨p1,p2⟩:=Srt.xj (vs:=ks1) (d:=0) hp2 ha
 refine h _ tk1 h1.objs.size c (Srt.gL vs p) _ hge at2 (by simpa [Srt.gL] using Srt.fR hi1 p.toList hb) (p1.trans (hp1.trans hp)) (p2 _ fun i j _ _ h=>h) fun b o e=>?_
 have hlt:=OS (old1 b o e)
 rw [sortedHeap_old (OX hlt) (by rw [size_push'];exact QR hlt)]
 exact OT _ (old1 b o e)
end
end ST
namespace L2
open PySem
noncomputable def zP (K:W.Frag) (ta:TE):TE:=fun σ H Q=>ta σ H fun x H1=>∃ p,∃ ns:List Int,x = .ref p /\ SqL K H1 p (ns.map V.int) /\ ns.length <= 300 /\ ∀ (ms:List Int) l,ms.Perm (M.eR ns) -> ms.Pairwise (· <= ·) -> H1 l = none -> Q (.ref l) (upd H1 l (.lst (ms.map V.int)))
noncomputable def ssQ (K:W.Frag) (Q:VK):List V -> Hp -> Prop:=fun vs H1=>match vs with | [x]=>∃ p,∃ ns:List Int,x = .ref p /\ SqL K H1 p (ns.map V.int) /\ ns.length <= 300 /\ ∀ (ms:List Int) l,ms.Perm (M.eR ns) -> ms.Pairwise (· <= ·) -> H1 l = none -> Q (.ref l) (upd H1 l (.lst (ms.map V.int))) | _=>False
section
variable {X:Cx}
theorem sW {a:Expr} {ta:TE} {pl pr pos pos':Pos} (hl:X.mg "sorted" = none) (hs:X.mg "set" = none) (ha:PE X a ta) (gl:Gl X "sorted" := by rfl) (gs:Gl X "set" := by rfl) (hc:X.calm = true:=by rfl)
  (he:starEach [.Call (.Name "set" pr) [a] [] pos'] X.env = (false,eval (.Call (.Name "set" pr) [a] [] pos') X.env) :: starEach [] X.env:=by rfl) (he1:starEach [a] X.env = (false,eval a X.env) :: starEach [] X.env:=by rfl)
  (hp0:(backTo pos (starEach [] X.env)).any (·.1) = false:=by rfl) (hp1:(backTo pos' (starEach [] X.env)).any (·.1) = false:=by rfl) :
  PE X (.Call (.Name "sorted" pl) [.Call (.Name "set" pr) [a] [] pos'] [] pos) (zP X.K ta):=by
 intro pins s σ H Q I h
 have h':eW ta mV σ H (ssQ X.K Q):=h
 refine Rc (mL I gl hl oB (PyProof.Rows.callWith_builtin1 ?_ he hp0))
 rw [he]
 show wpAny (model X.prog X.w) X.A (spliced ((false,eval (.Call (.Name "set" pr) [a] [] pos') X.env) :: backTo pos (starEach [] X.env))) _ _ s
 refine Calls.spliced_cons (Rc (mL I gs hs JC (RG (thn (ab ha ah he1 pos' pins s σ H _ I h') fun us s1 h1=>?_) he1 hp1)))
 obtain ⟨vs,H1,I1,r1,q⟩:=h1
 match vs,r1,q with
 | [x],.cons rx .nil,⟨p,ns,e,hS,hlen,q⟩=>
  subst e
  cases rx
  obtain ⟨its,rv,lp,hz⟩:=I1.list hS
  have hi:PyProof.Rows.IntsAre its.toArray.toList ns:=by simpa using yC rv
  have hn:its.toArray.size = ns.length:=by
   have:=rv.length
   rw [OJ] at this
   simpa using this.symm
  refine ST.rM (I.ok.hd hc) lp.isList hn.symm (by rw [hn];exact hlen) hi fun h2 tk hS2 old=>Calls.spliced_nil ?_
  refine ST.Bv (s:={ s1 with heap:=h2,toks:=tk }) (I.ok.hd hc) hS2 (OW (ST.wH ns) hlen) fun h3 tk3 l c out ms hl3 at3 ho pm pw old3=>?_
  have hnl:s1.heap.objs.size <= l:=by
   obtain ⟨o2,_,_,_,ho2,_⟩:=hS2
   exact OW (Pk (OS ho2)) hl3
  refine ⟨.ref l,upd H1 l (.lst (ms.map V.int)),I1.laid (a:=l) (o:=.lst (ms.map V.int)) (h':=h3) (t':=tk3) (fun b o e=>old3 b o (old b o e)) hnl ?_,rfl,q ms l pm pw (I1.hok.fresh hnl)⟩
  exact ⟨by rw [OJ,pm.length_eq,O2];have:=ST.wH ns;lia,out.toList,c,oQ ho,by simpa using at3⟩
end
end L2
namespace M
open PySem L2
section
variable {K:W.Frag}
noncomputable def gY (a:XE):XA:=fun ρ=>(a ρ).bind fun d=>match d with | .lst l=>(aJ l).bind fun ns=>if ns.length <= 300 then some ((dA (eR ns)).map D.int) else none | _=>none
theorem vT {ta:TE} {a:XE} (h:SPk K ta a):SF K (zP K ta) (gY a):=fun ρ σ S H Q e r x k=>by
 unfold gY at x
 cases q:a ρ with
 | none=>rw [q] at x;cases x
 | some d=>
  rw [q] at x
  dsimp only [Option.bind] at x
  cases d <;> try (cases x;done)
  rename_i l
  dsimp only at x
  cases qi:aJ l with
  | none=>rw [qi] at x;cases x
  | some ns=>
   rw [qi] at x
   dsimp only at x
   split at x
   ·rename_i hc
    cases x
    refine h ρ σ S H _ _ r q fun v S1 H1 z1 d1=>?_
    obtain ⟨p,xs,rfl,h1,h2⟩:=d1.lst z1.sub
    obtain ⟨e1,e2⟩:=et h2 qi
    subst e1 e2
    refine ⟨p,ns,rfl,.inl h1,hc,fun ms b pm pw hb=>?_⟩
    rw [tJ pm pw]
    have hH:H b = none:=by
     cases qh:H b with
     | none=>rfl
     | some o=>
      have:=z1.same r.sub b o qh
      rw [hb] at this
      cases this
    have hS:S1 b = none:=by
     cases qh:S1 b with
     | none=>rfl
     | some o=>
      have:=z1.sub b o qh
      rw [hb] at this
      cases this
    have z2:=Ext.own z1.sub hb (S:=S1) (H:=H1) (o:=.lst ((dA (eR ns)).map V.int))
    refine k b _ S1 _ (z1.trans z2) hH hS aB ?_
    have key:∀ ns:List Int,Dens K S1 (ns.map D.int) (ns.map V.int):=by
     intro ns
     induction ns with
     | nil=>exact .nil
     | cons n ns ih=>exact .cons (den_int.mpr rfl) ih
    exact key _
   ·cases x
end
end M
namespace DY
open PySem
theorem Fb:typeLookup (.type "dict") "__len__" = pure (some (.builtin "dict.__len__")):=by rw [QG,QH];kernel_rfl
theorem Gs:isSubtype (.type "dict") (.type "dict") = pure true:=by rw [QY];kernel_rfl
section
variable {prog:Program} {w:World} {A:Around} {E:Value -> Shared -> Prop} {s:Shared} {d I:Addr} {es:Array DictEntry} {ep:Nat}
theorem DAt.kept {h h':Heap} (x:DAt h d es ep) (k:∀ o,h.get? d = some o -> h'.get? d = some o):DAt h' d es ep:=let ⟨o,ho,r⟩:=x;⟨o,k o ho,r⟩
theorem GH (hh:A.handled = none) (hne:d ≠ I) (es:Array DictEntry) (ep:Nat) :
  Walks prog w A I [I,d] [I] es.size (fun i v=>∃ e,es[i]? = some e /\ v = e.key) (fun i h=>h.IsKeyIter I d i es.size ep /\ DAt h d es ep) where
 sub:=fun b hb=>by simp at hb;simp [hb]
 frame:=fun i h h' st hk=>⟨st.1.at fun o e=>hk I (by simp) o e,st.2.kept fun o e=>hk d (by simp) o e⟩
 item:=fun i s Q E hi st hQ=>yS st.1 st.2 hi fun h' it' sb=>hQ es[i].key h' s.toks ⟨es[i],PQ hi,rfl⟩ ⟨it',st.2.kept fun o z=>by rw [sb.2 d hne];exact z⟩ (fun b o hb z=>by rw [sb.2 b fun y=>hb (by simp [y])];exact z)
 done:=fun s Q E st hQ=>yR hh st.1 st.2 (OH _) fun h' x=>hQ h' s.toks fun b o hb z=>x b o (fun y=>hb (by simp [y])) z
 self:=fun i s Q E st h=>wpAny_pyIter_keyiter st.1 h
end
section
variable {prog:Program} {w:World} {A:Around} {s:Shared} {R:Result -> Shared -> Prop} {d:Addr} {es:Array DictEntry} {ep:Nat}
theorem Hh (hh:A.handled = none) (hd:(d == sysModules) = false) (hm:DAt s.heap d es ep) (S:Addr) (res:Value) (c₀:Nat) (hSd:S ≠ d) (hS:s.heap.get? S = some { cls:=.type "list",data:=.seq #[] c₀ }) (hn:es.size <= sizeLine)
  (hR:∀ h' tk acc c,(∀ b o,b ≠ S -> s.heap.get? b = some o -> h'.get? b = some o) -> h'.get? S = some { cls:=.type "list",dict:=none,data:=.seq acc c,slots:=#[] } -> ItemsOf (fun i v=>∃ e,es[i]? = some e /\ v = e.key) acc es.size -> R (.ok (.ret res)) { s with heap:=h',toks:=tk }) :
  wpAny (model prog w) A.in1 (Builtin.List.listExtendWith (.ref S) (.ref d) res) (fun fin s'=>match fin with | .done f=>R (.ok f) s' | .again c'=>c'.quiet = true /\ codeAny (model prog w) A c' R s') (fun e s'=>R (.error e) s') s:=by
 obtain ⟨o,ho,hex,hdat⟩:=id hm
 have hT:s.TypeIs (.ref d) "dict" := ⟨o,ho,hex.1⟩
 have h1:Builtin.List.listSameRef (.ref S) (.ref d) = false:=by simp [Builtin.List.listSameRef,hSd]
 unfold Builtin.List.listExtendWith
 refine OA (P9 hT ?_)
 rw [OB (by rw [h1];decide)]
 refine OA (vm hd hm ?_)
 refine OA (Pp ?_)
 unfold Builtin.List.listLengthHint
 have hT2:Shared.TypeIs { s with heap:=s.heap.push { cls:=.type "dict_keyiterator",data:=.fields #[.ref d,.int 0 0,.int es.size 0,.int ep 0] } } (.ref d) "dict" := ⟨o,OT _ ho,hex.1⟩
 refine OA (wpAny_specialOf hT2 Fb ?_)
 (generalize hid:("dict.__len__" : String) = id0;wp_delta;rw [show splitId id0 = some ("dict", "__len__") from by subst hid;decide +kernel];subst hid)
 refine OA (Q0 (b:=true) hT2 Gs ?_)
 rw [OB (by decide)]
 dsimp only
 rw [OC (by decide +kernel)]
 refine OA (P9 hT2 ?_)
 dsimp only
 refine OE ?_
 rw [OC (by decide +kernel)]
 refine OA (PL ?_)
 have hSl:S < s.heap.objs.size:=OS hS
 have hdl:d < s.heap.objs.size:=OS ho
 have hL2:(s.heap.push { cls:=.type "dict_keyiterator",data:=.fields #[.ref d,.int 0 0,.int es.size 0,.int ep 0] }).get? S = some { cls:=.type "list",data:=.seq #[] c₀ }:=OT _ hS
 refine OA (m:=Builtin.List.listTouch (.ref S)) ?_
 show wpAny _ _ (updateSeq S (·.push .none) >>= fun _=>updateSeq S (·.pop)) _ _ _
 refine OA (RE hL2 rfl ?_)
 have hL3:=Pt (Obj.mapSeq (·.push Value.none)) hL2 rfl
 refine RE hL3 rfl ?_
 have hL4:=Pt (Obj.mapSeq (·.pop)) hL3 rfl
 have hoth:∀ b o,b ≠ S -> (s.heap.push { cls:=.type "dict_keyiterator",data:=.fields #[.ref d,.int 0 0,.int es.size 0,.int ep 0] }).get? b = some o ->
   (((s.heap.push { cls:=.type "dict_keyiterator",data:=.fields #[.ref d,.int 0 0,.int es.size 0,.int ep 0] }).update S (Obj.mapSeq (·.push Value.none))).update S (Obj.mapSeq (·.pop))).get? b = some o:=fun b o hb e=>by
  rw [PV _ _ _ _ hb,PV _ _ _ _ hb]
  exact e
 have hI:s.heap.objs.size ≠ S:=Qh hSl
 have hit:Heap.IsKeyIter (((s.heap.push { cls:=.type "dict_keyiterator",data:=.fields #[.ref d,.int 0 0,.int es.size 0,.int ep 0] }).update S (Obj.mapSeq (·.push Value.none))).update S (Obj.mapSeq (·.pop))) s.heap.objs.size d 0 es.size ep:=
  ⟨_,hoth _ _ hI (O3 _ rfl),rfl,rfl⟩
 have hm4:DAt (((s.heap.push { cls:=.type "dict_keyiterator",data:=.fields #[.ref d,.int 0 0,.int es.size 0,.int ep 0] }).update S (Obj.mapSeq (·.push Value.none))).update S (Obj.mapSeq (·.pop))) d es ep:=hm.kept fun o e=>hoth d o (O8 hSd) (OT _ e)
 have hSf:S ∉ [s.heap.objs.size,d]:=by
  simp only [OP,Rs,or_false,not_or]
  exact ⟨OX hSl,hSd⟩
 refine OE ⟨QJ F.plain_extend_loop _,codeAny_extend_loopS (GH (A:=A.in1) (prog:=prog) (w:=w) hh (OX hdl) es ep).toS hn _ hSf _ es.size 0 _ _ _ (Nat.sub_zero _) (Pl _) ⟨hit,hm4⟩ hL4 (ItemsOf.nil _) fun s' acc c hmv hL' hacc=>?_⟩
 have es':s' = { s with heap:=s'.heap,toks:=s'.toks }:=by
  obtain ⟨h',g',d',tk',os'⟩:=s'
  have e1:=hmv.gens
  have e2:=hmv.drawn
  have e3:=hmv.os
  dsimp only at e1 e2 e3
  rw [e1,e2,e3]
 rw [es']
 refine hR s'.heap s'.toks acc c (fun b o hb e=>?_) hL' hacc
 have hlt:=OS e
 refine hmv.heap b o (fun z=>?_) (hoth b o hb (OT _ e))
 rcases OP.mp z with z | z
 ·exact hb z
 ·rw [OO] at z
  exact absurd hlt (by rw [z];exact Qy _)
theorem EV (hh:A.handled = none) (hd:(d == sysModules) = false) (hm:DAt s.heap d es ep) (S:Addr) (hSd:S ≠ d) (hS:s.heap.get? S = some { cls:=.type "list",data:=.seq #[] }) (hn:es.size <= sizeLine)
  (hR:∀ h' tk acc c,(∀ b o,b ≠ S -> s.heap.get? b = some o -> h'.get? b = some o) -> h'.get? S = some { cls:=.type "list",dict:=none,data:=.seq acc c,slots:=#[] } -> ItemsOf (fun i v=>∃ e,es[i]? = some e /\ v = e.key) acc es.size -> R (.ok (.ret .none)) { s with heap:=h',toks:=tk }) :
  wpAny (model prog w) A.in1 (Builtin.«list.__init__» ⟨[.ref S,.ref d],[]⟩) (fun fin s'=>match fin with | .done f=>R (.ok f) s' | .again c'=>c'.quiet = true /\ codeAny (model prog w) A c' R s') (fun e s'=>R (.error e) s') s:=by
 have oth:∀ b o,b ≠ S -> s.heap.get? b = some o -> (s.heap.update S (Obj.mapSeq (fun _=>(#[]:Array Value)))).get? b = some o:=fun b o hb e=>by rw [RK _ _ (O8 hb),e]
 have at2:=Pt (Obj.mapSeq (fun _=>(#[]:Array Value))) hS rfl
 show wpAny (model prog w) A.in1 (do let old ← Builtin.List.listItems (.ref S);Builtin.List.listUpdate (.ref S) (fun _=>#[]);letGo old.toList.reverse;Builtin.List.listExtendWith (.ref S) (.ref d) .none) _ _ s
 refine OA ?_;unfold Builtin.List.listItems;refine OA (wpAny_seqItems hS rfl (OE ?_))
 show wpAny (model prog w) A.in1 (updateSeq S (fun _=>#[]) >>= fun _=>letGo (#[]:Array Value).toList.reverse >>= fun _=>Builtin.List.listExtendWith (.ref S) (.ref d) .none) _ _ s
 refine OA (RE hS rfl (OA (wpAny_letGo ?_)))
 refine Hh (s:={ s with heap:=s.heap.update S (Obj.mapSeq (fun _=>(#[]:Array Value))) }) hh hd (hm.kept fun o e=>oth d o (O8 hSd) e) S .none _ hSd at2 hn fun h' tk acc c hk hS' hacc=>?_
 exact hR h' tk acc c (fun b o hb e=>hk b o hb (oth b o hb e)) hS' hacc
end
section
variable {prog:Program} {w:World} {A:Around} {E:Value -> Shared -> Prop} {s:Shared} {d:Addr} {es:Array DictEntry} {ep:Nat}
theorem ua {Q:Value -> Shared -> Prop} (hh:A.handled = none) (hd:(d == sysModules) = false) (hm:DAt s.heap d es ep) (hn:es.size <= sizeLine)
  (hQ:∀ h' tk acc c,(∀ b o,s.heap.get? b = some o -> h'.get? b = some o) -> h'.get? s.heap.objs.size = some { cls:=.type "list",dict:=none,data:=.seq acc c,slots:=#[] } -> ItemsOf (fun i v=>∃ e,es[i]? = some e /\ v = e.key) acc es.size -> Q (.ref s.heap.objs.size) { s with heap:=h',toks:=tk }) :
  wpAny (model prog w) A (call (.type "list") [.ref d]) Q E s:=by
 have hdl:d < s.heap.objs.size:=let ⟨_,ho,_⟩:=hm;OS ho
 refine callType_codes (Q₁:=fun obj s₁=>obj = .ref s.heap.objs.size /\ s₁ = { s with heap:=s.heap.push { cls:=.type "list",data:=.seq #[] } }) F.called_list (F.typeCall_list_1 (.ref d)) F.entry_list_init (code_list_new _ ⟨rfl,rfl⟩) (fun obj s₁ h₁=>?_)
 obtain ⟨rfl,rfl⟩:=h₁
 have at1:(s.heap.push { cls:=.type "list",data:=.seq #[] }).get? s.heap.objs.size = some { cls:=.type "list",data:=.seq #[] }:=O3 _ rfl
 refine ⟨⟨_,at1,rfl⟩,F.args_list_init_2 _ _,EV (A:=A.in1) (s:={ s with heap:=s.heap.push { cls:=.type "list",data:=.seq #[] } }) hh hd (hm.kept fun o e=>OT _ e) _ (Qh hdl) at1 hn fun h' tk acc c hk hS' hacc=>⟨rfl,hQ h' tk acc c (fun b o e=>hk b o (OX (OS e)) (OT _ e)) hS' hacc⟩⟩
end
end DY
namespace L2
open PySem PySem.Spec PyProof.Rows
noncomputable def FM:List V -> Hp -> VK -> Prop:=fun xs H Q=>∃ a kvs,xs = [V.ref a] /\ Rd H a (.dT kvs) /\ ∀ l (bs:List Addr),bs.length = kvs.length -> (∀ (i:Nat) b k v,bs[i]? = some b -> kvs[i]? = some (k,v) -> H b = some (.tup (k.map kV))) -> H l = none -> Q (.ref l) (upd H l (.lst (bs.map V.ref)))
section
variable {X:Cx}
theorem vO:∀ (bs:List Addr),Vals (bs.map V.ref) (bs.map Value.ref)
 | []=>.nil
 | _ :: bs=>.cons rfl (vO bs)
theorem An (hc:X.calm = true):CallR X (.type "list") FM:=by
 intro pins s σ H xs us Q I r h
 obtain ⟨a,kvs,rfl,ha,q⟩:=h
 obtain ⟨u,rfl,ru⟩:=r.one
 cases ru
 obtain ⟨z,hd,ys,rel,o,es,ep,h1,h2,h3,h4,h5⟩:=B1 I.hok ha
 have hl:es.size = kvs.length:=by
  have:=OZ List.length h4
  rw [OJ,Ph] at this
  rw [this,P7 rel]
 have hly:ys.length = kvs.length:=(P7 rel).symm
 refine DY.ua (I.ok.hd hc) hd ⟨o,h1,h2,h3⟩ (by rw [hl];exact z) fun h' tk acc c old at1 hit=>?_
 have hn:=I.hok.fresh (OH s.heap.objs.size)
 have ea:acc.toList = (ys.map (·.2.1)).map Value.ref:=by
  apply QV
  intro i
  rw [PN,O6,O6]
  cases qy:ys[i]? with
  | none=>
   rw [R0 (by rw [hit.1,hl,<- hly];exact QE.mp qy)]
   rfl
  | some y=>
   have hi:i < acc.size:=by rw [hit.1,hl,<- hly];exact (Pg.mp qy).1
   obtain ⟨e,e1,e2⟩:=hit.2 i _ (PQ hi)
   rw [PQ hi,e2]
   have hx:=entry_at h4 i
   rw [e1,qy] at hx
   cases hx
   rfl
 refine ⟨.ref s.heap.objs.size,upd H s.heap.objs.size (.lst ((ys.map (·.2.1)).map V.ref)),I.laid (a:=s.heap.objs.size) (t':=tk) (fun b o e=>old b o e) (OH _) ?_,rfl,q _ (ys.map (·.2.1)) (by rw [OJ];exact hly) (fun i b k v e1 e2=>?_) hn⟩
 ·refine ⟨by rw [OJ,OJ,hly];exact z,acc.toList,c,?_,by simpa [seqObj] using at1⟩
  rw [ea]
  exact vO _
 ·rw [O6] at e1
  cases qy:ys[i]? with
  | none=>rw [qy] at e1;cases e1
  | some y=>
   rw [qy] at e1
   cases e1
   obtain ⟨p,qp,r1,r2,r3⟩:=pb rel qy
   rw [e2] at qp
   cases qp
   exact r2
end
end L2
namespace M
open PySem L2
section
variable {K:W.Frag} {S H:Hp}
theorem vo:∀ {ks:List (List Int)} {bs:List Addr},bs.length = ks.length -> (∀ (i:Nat) b k,bs[i]? = some b -> ks[i]? = some k -> S b = some (.tup (k.map V.int))) -> Dens K S (ks.map nZ) (bs.map V.ref)
 | [],bs,hl,_=>by
  have:bs = []:=Q6 hl
  subst this
  exact .nil
 | k :: ks,[],hl,_=>by cases hl
 | k :: ks,b :: bs,hl,h=>by
  refine .cons (den_tup.mpr ⟨b,_,rfl,TpA.of (h 0 b k rfl rfl),?_⟩) (vo (by simpa using hl) fun i b k e1 e2=>h (i + 1) b k (by simpa using e1) (by simpa using e2))
  have key:∀ ns:List Int,Dens K S (ns.map D.int) (ns.map V.int):=by
   intro ns
   induction ns with
   | nil=>exact .nil
   | cons n ns ih=>exact .cons (den_int.mpr rfl) ih
  exact key k
theorem KQ {bs:List Addr} {H':Hp} (s:Same S H) (z:Ext S H S H') (h:∀ b ∈ bs,∃ ks:List Int,H b = some (.tup (ks.map V.int))):Ext S H (nD S H bs) H' where
 sh:=fun b o e=>by
  by_cases hb:b ∈ bs
  ·rw [eJ hb];exact s b o e
  ·rw [cU hb];exact e
 sub:=fun b o e=>by
  by_cases hb:b ∈ bs
  ·rw [eJ hb] at e;exact z.same s b o e
  ·rw [cU hb] at e;exact z.sub b o e
 alw:=fun b o e n=>by
  refine ⟨(z.alw b o e n).1,?_⟩
  by_cases hb:b ∈ bs
  ·obtain ⟨ks,ek⟩:=h b hb
   rw [e] at ek
   cases ek
   exact .inr ⟨ks,rfl⟩
  ·rw [cU hb];exact .inl n
noncomputable def xM (i:Nat):XA:=fun ρ=>(gB ρ i).map fun ks=>ks.map nZ
theorem H9 (i:Nat):SF K (tCB FM (eW (g6 i) mV)) (xM i):=fun ρ σ S H Q g r x c=>by
 unfold xM at x
 cases qi:gB ρ i with
 | none=>rw [qi] at x;cases x
 | some ks=>
  rw [qi] at x
  cases x
  obtain ⟨a,e1,ha⟩:=Az r qi
  refine ⟨.ref a,e1,a,_,rfl,ha,fun l bs hl hb hn=>?_⟩
  rw [nu] at hl
  have hk:∀ (i:Nat) b k,bs[i]? = some b -> ks[i]? = some k -> H b = some (.tup (k.map V.int)):=fun i b k e2 e3=>by
   have:=hb i b (k.map Sum.inl) (V.bl true) e2 (by unfold bn;rw [O6,e3];rfl)
   rw [O7] at this
   exact this
  have hIT:∀ b ∈ bs,∃ ks:List Int,H b = some (.tup (ks.map V.int)):=fun b hb2=>by
   obtain ⟨j,hj,e⟩:=List.getElem_of_mem hb2
   exact ⟨ks[j]'(by lia),hk j b _ (by rw [P0 hj,e]) (P0 (by lia))⟩
  have hS:nD S H bs l = none:=by
   rw [cU fun z=>by obtain ⟨ks',e⟩:=hIT l z;rw [hn] at e;cases e]
   exact r.sub.free hn
  refine c l _ (nD S H bs) _ (KQ r.sub (Ext.own r.sub hn) hIT) hn hS aB (vo hl fun i b k e2 e3=>?_)
  rw [eJ (Rf e2)]
  exact hk i b k e2 e3
end
section
variable {K:W.Frag} {S S' H H':Hp}
end
section
variable {K:W.Frag} {S S' H H':Hp}
@[simp] noncomputable def CU (e:XE) (j:Nat):XS:=fun ρ=>match ρ[j]? with
 | some (.ow (.lst l))=>(e ρ).bind fun d=>some (.ro (.tup [.sh d,.lst l]))
 | _=>none
theorem Kp {te:TE} {e:XE} (j:Nat) (h:SE K te e):SS K (D5 (Iq (eW te (eW (g6 j) mV)))) (CU e j):=fun A Λ ρ σ S H E o r x k=>by
 unfold CU at x
 split at x
 ·rename_i l q
  cases qe:e ρ with
  | none=>rw [qe] at x;cases x
  | some d=>
   rw [qe] at x
   cases x
   refine h ρ σ S H _ d r.toRl qe fun v S1 H1 z1 d1=>?_
   obtain ⟨Φ,f⟩:=r.ext z1
   obtain ⟨vj,e1,ow,nd,n⟩:=f.ow j _ q
   obtain ⟨a,xs,g,rfl,efp,hx,hw⟩:=own_lst.mp ow
   refine ⟨.ref a,e1,?_,fun p hp=>?_⟩
   ·exact OW (show 2 <= 1000 by decide) (by rw [O2];decide)
   ·obtain ⟨k1,k2⟩:=pz (o:=.tup [v,.ref a]) hp ow.there
    have nit:¬ IT (.tup [v,.ref a]):=fun hpt0=>by
     obtain ⟨ks,e⟩:=hpt0
     cases ks with
     | nil=>cases e
     | cons _ ks=>
      cases ks with
      | nil=>cases e
      | cons _ _=>cases e
    have z2:Ext S1 H1 S1 (upd H1 p (.tup [v,.ref a])):=Ext.own f.sub hp
    have f2:=f.ext z2
    refine k (.ref p) (p :: Φ j) S1 _ z1.sh z2.sub f2.asub f2.adis (own_tup.mpr ⟨p,[v,.ref a],Φ j,rfl,rfl,⟨aB,nit⟩,?_⟩) (O4.mpr ⟨k2,nd⟩) fun b hb=>?_
    ·have o1:Own K S1 (upd H1 p (.tup [v,.ref a])) (.sh d) v []:=own_sh.mpr ⟨rfl,d1⟩
     have o2:=ow.mono (Same.refl _) k1
     have:=Owns.cons o1 (Owns.cons o2 Owns.nil)
     simpa using this
    ·rcases OP.mp hb with rfl | hb
     ·exact ⟨f.sub.free hp,f.asub.free hp⟩
     ·exact n b hb
 ·cases x
@[simp] noncomputable def xI (m:List D -> Option O) (e:D) (a:XA):Env -> Option O:=fun ρ=>(a ρ).bind fun ds=>m (ds ++ [e])
theorem F2 {n:Nat} {m:List D -> Option O} {E:XK} {t:TA} {a:XA} {e:D} {v:V} (hv:mE e = some v) (h:SA K t a) (hn:∀ ρ ds,a ρ = some ds -> ds.length = n):STr K (tP (fX K (n + 1) m) [v] E t) (xI m e a):=fun ρ σ S H Q o r x k=>by
 unfold xI at x
 cases q:a ρ with
 | none=>rw [q] at x;cases x
 | some ds=>
  rw [q] at x
  dsimp only [Option.bind] at x
  refine h ρ σ S H _ ds r q fun vs S1 H1 z1 d1=>?_
  exact ⟨by rw [OM,<- d1.length,hn ρ ds q];rfl,S1,ds ++ [e],o,z1.sub,d1.append (.cons (iH hv) .nil),x,fun v fp S2 H2 z2 ow nd n=>k v fp S2 H2 (z1.trans z2) ow nd fun b hb=>⟨(z1.same r.sub).free (n b hb).1,(n b hb).2⟩⟩
end
section
variable {K:W.Frag} {S H:Hp}
@[simp] noncomputable def BF (i:Nat) (k:Int):XE:=fun ρ=>match ρ[i]? with
 | some (.ow (.tup os))=>match atI os k with
  | some (.sh d)=>some d
  | some (.lst l)=>(shs l).map D.lst
  | _=>none
 | _=>none
@[simp] noncomputable def GN (i:Nat) (k:Int):XE:=fun ρ=>match ρ[i]? with
 | some (.ow (.tup os))=>match atI os k with
  | some (.sh d)=>some d
  | _=>none
 | _=>none
theorem IJ {ρ:Env} {σ:St} {i:Nat} {k:Int} {os:List O} {o:O} (r:Rl K ρ σ S H) (q:ρ[i]? = some (.ow (.tup os))) (q2:atI os k = some o):∃ a xs v f,σ[i]? = some (some (.ref a)) /\ H a = some (.tup xs) /\ atI xs k = some v /\ Own K S H o v f:=by
 obtain ⟨v,fp,h1,h2,h3,h4⟩:=r.ow i _ q
 obtain ⟨a,xs,f,rfl,rfl,h5,h6⟩:=own_tup.mp h2
 obtain ⟨j,hj,hx⟩:=wu q2
 obtain ⟨y,fn,e1,e2,_⟩:=Cj h6 hx
 refine ⟨a,xs,y,fn,h1,h5.1,?_,e2⟩
 rw [za h6] at hj
 unfold atI
 rw [hj]
 exact e1
theorem zA (i:Nat) (k:Int):SPk K (tOp (rIx K) (g6 i) (tC (.int k))) (BF i k):=fun ρ σ S H Q d r x c=>by
 unfold BF at x
 split at x
 ·rename_i os q
  cases q2:atI os k with
  | none=>rw [q2] at x;cases x
  | some o=>
   rw [q2] at x
   obtain ⟨a,xs,v,f,h1,h2,h3,h4⟩:=IJ r q q2
   have fin:DenP K S H d v -> (tOp (rIx K) (g6 i) (tC (.int k)):TE) σ H Q:=fun dv=>⟨.ref a,h1,.inr (.inl ⟨a,xs,k,v,rfl,rfl,SqT.of h2,h3,c v S H (Ext.refl r.sub) dv⟩)⟩
   cases o with
   | sh d'=>
    cases x
    exact fin (.inl (own_sh.mp h4).2)
   | lst l=>
    have x':(shs l).map D.lst = some d:=x
    cases qs:shs l with
    | none=>rw [qs] at x';cases x'
    | some l'=>
     rw [qs] at x'
     cases x'
     have e:=o8 qs
     subst e
     obtain ⟨p,ys,g,rfl,rfl,h5,h6⟩:=own_lst.mp h4
     exact fin (.inr ⟨l',p,ys,rfl,rfl,h5,(fh h6).1⟩)
   | tup l=>cases x
   | dic ks=>cases x
   | hd _ _ _=>cases x
 ·cases x
theorem F6 (i:Nat) (k:Int):SE K (tOp (rIx K) (g6 i) (tC (.int k))) (GN i k):=fun ρ σ S H Q d r x c=>by
 unfold GN at x
 split at x
 ·rename_i os q
  cases q2:atI os k with
  | none=>rw [q2] at x;cases x
  | some o=>
   rw [q2] at x
   cases o with
   | sh d'=>
    cases x
    obtain ⟨a,xs,v,f,h1,h2,h3,h4⟩:=IJ r q q2
    exact ⟨.ref a,h1,.inr (.inl ⟨a,xs,k,v,rfl,rfl,SqT.of h2,h3,c v S H (Ext.refl r.sub) (own_sh.mp h4).2⟩)⟩
   | lst l=>cases x
   | tup l=>cases x
   | dic ks=>cases x
   | hd _ _ _=>cases x
 ·cases x
noncomputable def Dm:List D -> Bool
 | []=>true
 | .tup l :: r=>(aJ l).isSome && Dm r
 | _ :: _=>false
theorem E1 {S:Hp}:∀ {l:List D} {xs:List V},Dm l = true -> Dens K S l xs -> ∃ bs:List Addr,(∀ b ∈ bs,∃ ks:List Int,S b = some (.tup (ks.map V.int))) /\ ∀ S':Hp,(∀ b ∈ bs,S' b = S b) -> Dens K S' l xs
 | [],xs,_,h=>⟨[],fun _ h=>(by cases h),fun S' _=>by rw [h.nil_of];exact .nil⟩
 | d :: l,xs,e,h=>by
  cases d <;> try (cases e;done)
  rename_i ds
  have e':((aJ ds).isSome && Dm l) = true:=e
  rw [PH] at e'
  obtain ⟨ks,hk⟩:=Re.mp e'.1
  obtain ⟨y,ys,rfl,h1,h2⟩:=h.cons_of
  obtain ⟨b,zs,rfl,h3,h4⟩:=BA h1
  obtain ⟨rfl,rfl⟩:=et h4 hk
  obtain ⟨bs,k1,k2⟩:=E1 e'.2 h2
  refine ⟨b :: bs,fun c hc=>?_,fun S' hs=>.cons (den_tup.mpr ⟨b,_,rfl,TpA.of (by rw [hs b OI];exact h3),?_⟩) (k2 S' fun c hc=>hs c (OK _ hc))⟩
  ·rcases OP.mp hc with rfl | hc
   ·exact ⟨ks,h3⟩
   ·exact k1 c hc
  ·have key:∀ ns:List Int,Dens K S' (ns.map D.int) (ns.map V.int):=by
    intro ns
    induction ns with
    | nil=>exact .nil
    | cons n ns ih=>exact .cons (den_int.mpr rfl) ih
   exact key ks
theorem Jr {bs:List Addr} {H':Hp} (z:Ext S H S H') (h:∀ b ∈ bs,(∃ ks:List Int,H' b = some (.tup (ks.map V.int))) \/ H b = none):Ext S H (nD S H' bs) H' where
 sh:=fun b o e=>by
  by_cases hb:b ∈ bs
  ·rw [eJ hb];exact z.sub b o e
  ·rw [cU hb];exact e
 sub:=fun b o e=>by
  by_cases hb:b ∈ bs
  ·rw [eJ hb] at e;exact e
  ·rw [cU hb] at e;exact z.sub b o e
 alw:=fun b o e n=>by
  have h1:=(z.alw b o e n).1
  refine ⟨h1,?_⟩
  by_cases hb:b ∈ bs
  ·rcases h b hb with ⟨ks,ek⟩ | en
   ·rw [h1] at ek
    cases ek
    exact .inr ⟨ks,rfl⟩
   ·rw [en] at e;cases e
  ·rw [cU hb];exact .inl n
@[simp] noncomputable def BE (m:List D -> Option O) (a:XA):XE:=fun ρ=>((a ρ).bind m).bind fun o=>match o with
 | .lst os=>(shs os).bind fun l=>if Dm l then some (.lst l) else none
 | _=>none
theorem HY {n:Nat} {m:List D -> Option O} {E:XK} {t:TA} {a:XA} (h:SAQ K t a) (hn:∀ ρ ds,a ρ = some ds -> ds.length = n):SE K (tP (fX K n m) [] E t) (BE m a):=fun ρ σ S H Q d rl x k=>by
 unfold BE at x
 cases q:a ρ with
 | none=>rw [q] at x;cases x
 | some ds=>
  rw [q] at x
  dsimp only [Option.bind] at x
  cases q2:m ds with
  | none=>rw [q2] at x;cases x
  | some o=>
   rw [q2] at x
   dsimp only at x
   cases o with
   | lst os=>
    dsimp only at x
    cases qs:shs os with
    | none=>rw [qs] at x;cases x
    | some l=>
     rw [qs] at x
     dsimp only at x
     split at x
     ·rename_i hi
      cases x
      have e:=o8 qs
      subst e
      refine h ρ σ S H _ ds rl q fun vs S1 H1 z1 d1=>?_
      rw [Pd]
      refine ⟨by rw [<- d1.length];exact hn ρ ds q,H1,ds,_,Same.refl _,d1,q2,fun v fp S2 H2 z2 ow nd nw=>?_⟩
      obtain ⟨p,xs,f,rfl,rfl,h5,h6⟩:=own_lst.mp ow
      obtain ⟨bs,b1,b2⟩:=E1 hi (fh h6).1
      have hp:=nw p OI
      have z3:Ext S1 H1 S1 H2:=wL (S2:=S1) z1.sub z2
      refine k (.ref p) (nD S1 H2 (p :: bs)) H2 (z1.trans (Jr z3 fun b hb=>?_)) (den_lst.mpr ⟨p,xs,rfl,.inl ?_,b2 _ fun b hb=>?_⟩)
      ·rcases OP.mp hb with rfl | hb
       ·exact .inr hp.1
       ·obtain ⟨ks,e⟩:=b1 b hb
        exact .inl ⟨ks,z2.sub b _ e⟩
      ·rw [eJ OI];exact h5
      ·obtain ⟨ks,e⟩:=b1 b hb
       rw [eJ (OK _ hb),e]
       exact z2.sub b _ e
     ·cases x
   | _=>cases x
end
section
variable {K:W.Frag} {S H:Hp}
@[simp] noncomputable def ND (j i:Nat) (m:HM) (a:XA):XS:=fun ρ=>match ρ[j]? with
 | some (.ow (.lst l))=>(shs l).bind fun ls=>(ρ[i]?).bind fun s=>(ksO s).bind fun ks=>(a ρ).bind fun ds=>(Dh m ks ds).bind fun r=>match r with
  | (.lst l',ks')=>(shs l').bind fun ds'=>if ls.length + ds'.length <= LIM then some (.nx ((ρ.set i (reD ks' s)).set j (.ow (.lst ((ls ++ ds').map .sh))))) else none
  | _=>none
 | _=>none
end
end M
namespace Rw
noncomputable abbrev R:=List (Int × Int)
def Mem (r:R) (x:Int):Prop:=∃ p ∈ r,p.1 <= x /\ x <= p.2
def Ok (r:R):Prop:=∀ p ∈ r,p.1 <= p.2
def eE (r:R):Prop:=Ok r /\ r.Pairwise fun p q=>p.2 + 2 <= q.1
theorem c5 (x:Int):¬ Mem [] x:=by rintro ⟨p,h,_⟩;cases h
theorem mem_cons (p:Int × Int) (r:R) (x:Int):Mem (p :: r) x ↔ (p.1 <= x /\ x <= p.2) \/ Mem r x:=by
 constructor
 ·rintro ⟨q,h,e⟩
  rcases OP.mp h with rfl | h
  ·exact .inl e
  ·exact .inr ⟨q,h,e⟩
 ·rintro (e | ⟨q,h,e⟩)
  ·exact ⟨p,OI,e⟩
  ·exact ⟨q,OK _ h,e⟩
theorem mem_append (r t:R) (x:Int):Mem (r ++ t) x ↔ Mem r x \/ Mem t x:=by
 constructor
 ·rintro ⟨q,h,e⟩
  rcases OV.mp h with h | h
  ·exact .inl ⟨q,h,e⟩
  ·exact .inr ⟨q,h,e⟩
 ·rintro (⟨q,h,e⟩ | ⟨q,h,e⟩)
  ·exact ⟨q,OY _ h,e⟩
  ·exact ⟨q,OU _ h,e⟩
theorem Fe {r t:R} (h:r.Perm t) (x:Int):Mem r x ↔ Mem t x:=
 ⟨fun ⟨q,m,e⟩=>⟨q,h.mem_iff.mp m,e⟩,fun ⟨q,m,e⟩=>⟨q,h.mem_iff.mpr m,e⟩⟩
theorem mem_filter (r:R) (x:Int):Mem (r.filter fun p=>decide (p.1 <= p.2)) x ↔ Mem r x:=by
 constructor
 ·rintro ⟨q,m,e⟩
  exact ⟨q,(Po.mp m).1,e⟩
 ·rintro ⟨q,m,e⟩
  exact ⟨q,Po.mpr ⟨m,by simp;lia⟩,e⟩
theorem lg:eE []:=⟨fun _ h=>(by cases h),.nil⟩
theorem canon_cons {p:Int × Int} {r:R}:eE (p :: r) ↔ p.1 <= p.2 /\ (∀ q ∈ r,p.2 + 2 <= q.1) /\ eE r:=by
 constructor
 ·rintro ⟨h1,h2⟩
  have h3:=Qu.mp h2
  exact ⟨h1 p OI,h3.1,fun q hq=>h1 q (OK _ hq),h3.2⟩
 ·rintro ⟨h1,h2,h3,h4⟩
  refine ⟨fun q hq=>?_,Qu.mpr ⟨h2,h4⟩⟩
  rcases OP.mp hq with rfl | hq
  ·exact h1
  ·exact h3 q hq
theorem fK {p:Int × Int} {r:R} (c:eE (p :: r)) {x:Int} (h:Mem r x):p.2 + 2 <= x:=by
 obtain ⟨q,m,e,_⟩:=h
 have:=(canon_cons.mp c).2.1 q m
 lia
theorem uY {p:Int × Int} {r:R} (c:eE (p :: r)) {x:Int} (h:Mem (p :: r) x):p.1 <= x:=by
 rcases (mem_cons p r x).mp h with h | h
 ·exact h.1
 ·have:=fK c h
  have:=(canon_cons.mp c).1
  lia
theorem GE:∀ {r t:R},eE r -> eE t -> (∀ x,Mem r x ↔ Mem t x) -> r = t
 | [],[],_,_,_=>rfl
 | [],q :: t,_,ct,h=>by
  have:=(h q.1).mpr ((mem_cons ..).mpr (.inl ⟨Pi _,(canon_cons.mp ct).1⟩))
  exact (c5 _ this).elim
 | p :: r,[],cr,_,h=>by
  have:=(h p.1).mp ((mem_cons ..).mpr (.inl ⟨Pi _,(canon_cons.mp cr).1⟩))
  exact (c5 _ this).elim
 | p :: r,q :: t,cr,ct,h=>by
  have hp:=(canon_cons.mp cr).1
  have hq:=(canon_cons.mp ct).1
  have a1:q.1 <= p.1:=uY ct ((h p.1).mp ((mem_cons ..).mpr (.inl ⟨Pi _,hp⟩)))
  have a2:p.1 <= q.1:=uY cr ((h q.1).mpr ((mem_cons ..).mpr (.inl ⟨Pi _,hq⟩)))
  have e1:p.1 = q.1:=by lia
  have n1:¬ Mem (p :: r) (p.2 + 1):=fun m=>by
   rcases (mem_cons ..).mp m with m | m
   ·lia
   ·have:=fK cr m;lia
  have n2:¬ Mem (q :: t) (q.2 + 1):=fun m=>by
   rcases (mem_cons ..).mp m with m | m
   ·lia
   ·have:=fK ct m;lia
  have e2:p.2 = q.2:=by
   by_cases l1:p.2 < q.2
   ·exact (n1 ((h _).mpr ((mem_cons ..).mpr (.inl ⟨by lia,by lia⟩)))).elim
   ·by_cases l2:q.2 < p.2
    ·exact (n2 ((h _).mp ((mem_cons ..).mpr (.inl ⟨by lia,by lia⟩)))).elim
    ·lia
  have e:p = q:=by
   obtain ⟨a,b⟩:=p
   obtain ⟨c,d⟩:=q
   simp only at e1 e2
   rw [e1,e2]
  subst e
  have ih:r = t:=GE (canon_cons.mp cr).2.2 (canon_cons.mp ct).2.2 fun x=>by
   constructor
   ·intro m
    rcases (mem_cons ..).mp ((h x).mp ((mem_cons ..).mpr (.inr m))) with k | k
    ·have:=fK cr m;lia
    ·exact k
   ·intro m
    rcases (mem_cons ..).mp ((h x).mpr ((mem_cons ..).mpr (.inr m))) with k | k
    ·have:=fK ct m;lia
    ·exact k
  rw [ih]
noncomputable def step (acc:R) (p:Int × Int):R:=
 match acc.getLast? with
 | none=>[p]
 | some q=>if p.1 <= q.2 + 1 then acc.dropLast ++ [(q.1,if p.2 > q.2 then p.2 else q.2)] else acc ++ [p]
noncomputable def nL (l:R):R:=l.foldl step []
theorem Gp (p:Int × Int):step [] p = [p]:=rfl
theorem pk (t:R) (q p:Int × Int):step (t ++ [q]) p = if p.1 <= q.2 + 1 then t ++ [(q.1,if p.2 > q.2 then p.2 else q.2)] else t ++ [q] ++ [p]:=by
 unfold step
 simp
theorem canon_snoc {t:R} {q:Int × Int}:eE (t ++ [q]) ↔ eE t /\ q.1 <= q.2 /\ ∀ p ∈ t,p.2 + 2 <= q.1:=by
 constructor
 ·rintro ⟨h1,h2⟩
  have h3:=Pe.mp h2
  exact ⟨⟨fun p hp=>h1 p (OY _ hp),h3.1⟩,h1 q (OU _ OI),fun p hp=>h3.2.2 p hp q OI⟩
 ·rintro ⟨⟨h1,h2⟩,h3,h4⟩
  refine ⟨fun p hp=>?_,Pe.mpr ⟨h2,.cons (fun _ h=>(by cases h)) .nil,fun p hp x hx=>?_⟩⟩
  ·rcases OV.mp hp with hp | hp
   ·exact h1 p hp
   ·rw [OO.mp hp];exact h3
  ·rw [OO.mp hx];exact h4 p hp
theorem Ik {acc:R} {p:Int × Int} (c:eE acc) (hp:p.1 <= p.2) (lo:∀ q ∈ acc,q.1 <= p.1) :
  eE (step acc p) /\ (∀ x,Mem (step acc p) x ↔ Mem acc x \/ (p.1 <= x /\ x <= p.2)) /\ (∀ q ∈ step acc p,q.1 <= p.1):=by
 rcases Qw acc with rfl | ⟨t,q,rfl⟩
 ·rw [Gp]
  refine ⟨canon_cons.mpr ⟨hp,fun _ h=>(by cases h),lg⟩,fun x=>?_,fun q hq=>?_⟩
  ·rw [mem_cons]
   constructor
   ·rintro (h | h)
    ·exact .inr h
    ·exact .inl h
   ·rintro (h | h)
    ·exact .inr h
    ·exact .inl h
  ·rw [OO.mp hq];exact Pi _
 ·rw [Qx] at *
  obtain ⟨ct,hq,ht⟩:=canon_snoc.mp c
  have lq:q.1 <= p.1:=lo q (OU _ OI)
  rw [pk]
  by_cases h:p.1 <= q.2 + 1
  ·rw [OC h]
   have m:∀ z,(if p.2 > q.2 then p.2 else q.2) = z -> q.2 <= z /\ p.2 <= z /\ (z = p.2 \/ z = q.2):=fun z e=>by
    split at e <;> lia
   obtain ⟨m1,m2,m3⟩:=m _ rfl
   generalize (if p.2 > q.2 then p.2 else q.2) = z at *
   refine ⟨canon_snoc.mpr ⟨ct,by dsimp only;lia,ht⟩,fun x=>?_,fun s hs=>?_⟩
   ·rw [mem_append,mem_append,mem_cons,mem_cons]
    dsimp only
    constructor
    ·rintro (k | k | k)
     ·exact .inl (.inl k)
     ·by_cases hx:x <= q.2
      ·exact .inl (.inr (.inl ⟨k.1,hx⟩))
      ·right;lia
     ·exact (c5 _ k).elim
    ·rintro ((k | k | k) | k)
     ·exact .inl k
     ·right;left;lia
     ·exact (c5 _ k).elim
     ·right;left;lia
   ·rcases OV.mp hs with hs | hs
    ·exact lo s (OY _ hs)
    ·rw [OO.mp hs];exact lq
  ·rw [OB h]
   refine ⟨canon_snoc.mpr ⟨c,hp,fun s hs=>?_⟩,fun x=>?_,fun s hs=>?_⟩
   ·rcases OV.mp hs with hs | hs
    ·have:=ht s hs;lia
    ·rw [OO.mp hs];lia
   ·rw [mem_append,mem_cons]
    constructor
    ·rintro (k | k | k)
     ·exact .inl k
     ·exact .inr k
     ·exact (c5 _ k).elim
    ·rintro (k | k)
     ·exact .inl k
     ·exact .inr (.inl k)
   ·rcases OV.mp hs with hs | hs
    ·exact lo s hs
    ·rw [OO.mp hs];exact Pi _
theorem B3:∀ (l:R) (acc:R),eE acc -> Ok l -> l.Pairwise (fun p q=>p.1 <= q.1) -> (∀ q ∈ acc,∀ p ∈ l,q.1 <= p.1) ->
  eE (l.foldl step acc) /\ ∀ x,Mem (l.foldl step acc) x ↔ Mem acc x \/ Mem l x
 | [],acc,c,_,_,_=>⟨c,fun x=>⟨fun h=>.inl h,fun h=>h.elim id fun k=>(c5 _ k).elim⟩⟩
 | p :: l,acc,c,o,w,lo=>by
  obtain ⟨w1,w2⟩:=Qu.mp w
  obtain ⟨c1,m1,l1⟩:=Ik c (o p OI) fun q hq=>lo q hq p OI
  obtain ⟨c2,m2⟩:=B3 l (step acc p) c1 (fun q hq=>o q (OK _ hq)) w2 fun q hq s hs=>by
   have:=l1 q hq
   have:=w1 s hs
   lia
  refine ⟨c2,fun x=>?_⟩
  show Mem (l.foldl step (step acc p)) x ↔ _
  rw [m2,m1,mem_cons,or_assoc]
def Iy (ps r:R):Prop:=eE r /\ ∀ x,Mem r x ↔ Mem ps x
theorem Fi {l ps:R} (o:Ok l) (w:l.Pairwise fun p q=>p.1 <= q.1) (h:∀ x,Mem l x ↔ Mem ps x):Iy ps (nL l):=by
 obtain ⟨c,m⟩:=B3 l [] lg o w fun _ h=>(by cases h)
 exact ⟨c,fun x=>by
  show Mem (l.foldl step []) x ↔ _
  rw [m x,<- h x]
  exact ⟨fun k=>k.elim (fun z=>(c5 _ z).elim) id,.inr⟩⟩
end Rw
namespace Rw
noncomputable def J6:List Int -> R
 | a :: b :: t=>(a,b - 1) :: J6 t
 | _=>[]
noncomputable def pJ (r:R):Int:=(r.map fun p=>p.2 - p.1 + 1).sum
noncomputable def Mw (P:Int -> Prop) (L:Int):Nat -> Int
 | 0=>0
 | n + 1=>Mw P L n + (by classical exact if P (L + n) then 1 else 0)
end Rw
namespace P
open PySem L2 M
noncomputable def ja:XS:=bh (xIf (xB (xOp dLt (aj 1) (xCB oz (ad (aj 0) av)))) (i4 (xOp dIx (aj 0) (aj 1))) im) (i4 (xC (.int 0)))
noncomputable def h9:List D -> Option O:=fnO 2 ja
noncomputable def aN:List D -> Option D:=fun ds=>(h9 ds).map O.d
noncomputable def d9:XS:=xIf (xH (xB (xOp (dEq false) (xOp dIx (aj 5) (aj 7)) (xC (.int 0)))) (xB (xOp dGt (xOp dF (xOp dIx (aj 5) (xOp dF (aj 7) (xC (.int 1)))) (xOp dIx (aj 5) (xOp nq (xOp dF (aj 7) (xC (.int 2))) (xC (.int 8))))) (xC (.int 0))))) (gW (xOp dF (aj 6) (xC (.int 1))) (ag 6)) im
noncomputable def kZ:XS:=bh (gW (xL (j7 (ad (bq (ad (xC (.int 0)) (ad (xUn j6 (xC (.int 1))) av))) (ad (bq (ad (xUn j6 (xC (.int 1))) (ad (xUn j6 (xC (.int 1))) av))) (ad (bq (ad (xUn j6 (xC (.int 1))) (ad (xC (.int 0)) av))) (ad (bq (ad (xUn j6 (xC (.int 1))) (ad (xC (.int 1)) av))) (ad (bq (ad (xC (.int 0)) (ad (xC (.int 1)) av))) (ad (bq (ad (xC (.int 1)) (ad (xC (.int 1)) av))) (ad (bq (ad (xC (.int 1)) (ad (xC (.int 0)) av))) (ad (bq (ad (xC (.int 1)) (ad (xUn j6 (xC (.int 1))) av))) av)))))))))) (ag 4)) (bh (gW (xL (cH [none,none,some 0,some 1,some 2] (xIt (aj 4)) (a8 (ao (ag 0) (ao (ag 1) bd))) eT (xCB xV (ad (tX false (bq (ad (xOp dF (aj 3) (aj 0)) (ad (xOp dF (aj 4) (aj 1)) av))) 2) av)))) (ag 5)) (bh (xIf (xH (lK (aj 3)) (xB (xOp dLt (xCB t9 (ad (aj 5) av)) (xC (.int 2))))) (i4 (xC (.bl false))) im) (bh (gW (xC (.int 0)) (ag 6)) (bh (ge (xIt (xL (j7 (ad (xC (.int 0)) (ad (xC (.int 2)) (ad (xC (.int 4)) (ad (xC (.int 6)) av))))))) (ag 7) (d9)) (i4 (xOp (dEq false) (aj 6) (xC (.int 1))))))))
noncomputable def mN:List D -> Option O:=fnO 8 kZ
noncomputable def dq:List D -> Option D:=fun ds=>(mN ds).map O.d
noncomputable def cM:XS:=xIf (xH (xB (xOp dGt (xCB oz (ad (aj 3) av)) (xC (.int 0)))) (xB (xOp (dEq false) (xOp dF (xOp dIx (xOp dIx (aj 3) (xUn j6 (xC (.int 1)))) (xC (.int 1))) (xC (.int 1))) (aj 4)))) (CV 3 xPv (xUn j6 (xC (.int 1))) (bq (ad (xOp dIx (xOp dIx (aj 3) (xUn j6 (xC (.int 1)))) (xC (.int 0))) (ad (aA 4) av)))) (j4 3 xPv (xSh (bq (ad (aA 4) (ad (aA 4) av)))))
noncomputable def f9:XS:=bh (kX (j7 av) 3) (bh (ge (xIt (xL (gY (xL (cH [none,some 2] (xIt (aj 0)) (ag 0) (xB (xOp (dEq false) (xOp dIx (aj 0) (xC (.int 1))) (aj 1))) (xOp dIx (aj 0) (xC (.int 0)))))))) (ag 4) (cM)) (j4 1 xPv (xSh (bq (ad (aA 2) (ad (xCB kn (ad (aj 3) av)) av))))))
noncomputable def jb:XS:=bh (kX (j7 av) 1) (bh (ge (xIt (xL (gY (xL (cH [none] (xIt (aj 0)) (ag 0) eT (xOp dIx (aj 0) (xC (.int 1)))))))) (ag 2) (f9)) (i4 (xCB kn (ad (aj 1) av))))
noncomputable def pO:List D -> Option O:=fnO 5 jb
noncomputable def ci:List D -> Option D:=fun ds=>(pO ds).map O.d
noncomputable def gn:XS:=i4 (xCB oz (ad (xL (cH [none,none,none,some 0] (xIt (xC (.mtp [.mtp [.int (0),.int (-1),.int (1)],.mtp [.int (-1),.int (-1),.int (2)],.mtp [.int (-1),.int (0),.int (4)],.mtp [.int (-1),.int (1),.int (8)],.mtp [.int (0),.int (1),.int (16)],.mtp [.int (1),.int (1),.int (32)],.mtp [.int (1),.int (0),.int (64)],.mtp [.int (1),.int (-1),.int (128)]]))) (a8 (ao (ag 0) (ao (ag 1) (ao (ag 2) bd)))) (xB (xOp (dEq true) (xOp (yc) (aj 3) (aj 2)) (xC (.int 0)))) (aA 2))) av))
noncomputable def fV:List D -> Option O:=fnO 1 gn
noncomputable def bL:List D -> Option D:=fun ds=>(fV ds).map O.d
noncomputable def jc:XS:=tZ (xLT (cH [none,none,some 0,some 1,some 2] (qS 0) (a8 (ao (ag 0) (ao (ag 1) bd))) (xB (tX true (bq (ad (xOp dF (aj 0) (aj 3)) (ad (xOp dF (aj 1) (aj 4)) av))) 2)) (bq (ad (aA 0) (ad (aA 1) av)))))
noncomputable def iA:List D -> Option O:=fnO 3 jc
noncomputable def bj:List D -> Option D:=fun ds=>(iA ds).map O.d
noncomputable def ki:XS:=i4 (xCB t9 (ad (xL (cH [none,none] (xIt (aj 0)) (a8 (ao (ag 0) (ao (ag 1) bd))) eT (xOp dF (xOp yd (aj 1) (aj 0)) (xC (.int 1))))) av))
noncomputable def jD:List D -> Option O:=fnO 1 ki
noncomputable def cK:List D -> Option D:=fun ds=>(jD ds).map O.d
noncomputable def eX:XS:=xIf (xH (lK (aj 1)) (xB (xOp dLe (aj 2) (xOp dF (xOp dIx (xOp dIx (aj 1) (xUn j6 (xC (.int 1)))) (xC (.int 1))) (xC (.int 1)))))) (CV 1 xPv (xUn j6 (xC (.int 1))) (bq (ad (xOp dIx (xOp dIx (aj 1) (xUn j6 (xC (.int 1)))) (xC (.int 0))) (ad (xCB BP (ad (xOp dIx (xOp dIx (aj 1) (xUn j6 (xC (.int 1)))) (xC (.int 1))) (ad (aj 3) av))) av)))) (j4 1 xPv (xSh (bq (ad (aA 2) (ad (aA 3) av)))))
noncomputable def rB:XS:=bh (kX (j7 av) 1) (bh (ge (xIt (xL (GK k8 (ad (xL (cH [none,none] (xIt (aj 0)) (a8 (ao (ag 0) (ao (ag 1) bd))) (xB (xOp dLe (aj 0) (aj 1))) (bq (ad (aA 0) (ad (aA 1) av))))) av)))) (a8 (ao (ag 2) (ao (ag 3) bd))) (eX)) (i4 (xCB kn (ad (aj 1) av))))
noncomputable def o7:List D -> Option O:=fnO 4 rB
noncomputable def fS:List D -> Option D:=fun ds=>(o7 ds).map O.d
noncomputable def eY:XS:=CS 1 xPv (xL (cH [none,none,some 2] (xIt (aj 3)) (a8 (ao (ag 0) (ao (ag 1) bd))) eT (bq (ad (aA 2) (ad (aA 0) (ad (aA 1) av))))))
noncomputable def gq:XS:=bh (kX (j7 av) 1) (bh (ge (xIt (aA 0)) (a8 (ao (ag 2) (ao (ag 3) bd))) (eY)) (z9 1))
noncomputable def dS:List D -> Option O:=fnO 4 gq
noncomputable def bM:List D -> Option D:=fun ds=>(dS ds).map O.d
noncomputable def wj:XS:=bh (gW (xOp dF (aj 0) (xOp jo (xC (.int 256)) (aj 0))) (ag 1)) (i4 (xCB oz (ad (xL (cH [none,some 0,some 1] (xIt (xC (.mtp [.int (1),.int (4),.int (16),.int (64)]))) (ag 0) (xH (xB (xOp (dEq false) (xOp (yc) (aj 1) (aj 0)) (xC (.int 0)))) (xB (xOp (dEq true) (xOp (yc) (aj 2) (xOp dF (xOp jo (xC (.int 2)) (aj 0)) (xOp jo (xC (.int 4)) (aj 0)))) (xC (.int 0))))) (aA 0))) av)))
noncomputable def sN:List D -> Option O:=fnO 2 wj
noncomputable def jB:List D -> Option D:=fun ds=>(sN ds).map O.d
noncomputable def gi:XS:=bh (gW (xOp nq (aj 6) (aj 3)) (ag 7)) (bh (gW (xOp ue (aj 6) (aj 3)) (ag 8)) (xIf (xOr (xB (xOp (dEq false) (aj 5) (xC (.int 0)))) (xH (xB (xOp (dEq false) (aj 5) (xC (.int 1)))) (xOr (xB (xOp (dIn false) (aj 7) (bq (ad (xC (.int 0)) (ad (xOp yd (aj 3) (xC (.int 1))) av))))) (xB (xOp (dIn false) (aj 8) (bq (ad (xC (.int 0)) (ad (xOp yd (aj 4) (xC (.int 1))) av)))))))) (j4 2 xPv (xSh (bq (ad (aA 7) (ad (aA 8) av))))) im))
noncomputable def ma:XS:=j4 2 xPv (xSh (bq (ad (xOp dF (xOp nq (aj 10) (xC (.int 7))) (aj 6)) (ad (xOp nq (xOp ue (aj 10) (xC (.int 7))) (xC (.int 7))) av))))
noncomputable def md:XS:=bh (gW (xOp ue (xOp nq (xOp jo (aj 9) (xC (.int 48271))) (xC (.int 2147483647))) (xC (.int 37))) (ag 10)) (ge (Ee (ad (xOp dF (xC (.int 1)) (xOp nq (xOp ue (aj 10) (xC (.int 49))) (xC (.int 2)))) av)) (ag 6) (ma))
noncomputable def kh:XS:=bh (gW (bt aN (ad (aA 0) (ad (xC (.int 0)) av))) (ag 1)) (bh (kX (j7 av) 2) (bh (gW (xOp dF (xC (.int 2)) (xOp nq (xOp ue (aj 1) (xC (.int 6))) (xC (.int 3)))) (ag 3)) (bh (gW (xOp dF (xC (.int 2)) (xOp nq (xOp ue (aj 1) (xC (.int 18))) (xC (.int 3)))) (ag 4)) (bh (gW (xOp nq (aj 1) (xC (.int 3))) (ag 5)) (bh (ge (Ee (ad (xOp jo (aj 3) (aj 4)) av)) (ag 6) (gi)) (bh (ge (xIt (xSl (aj 0) (wb (xC (.int 1))) (wb (xC (.int 10))))) (ag 9) (md)) (z9 2)))))))
noncomputable def vz:List D -> Option O:=fnO 11 kh
noncomputable def iP:List D -> Option D:=fun ds=>(vz ds).map O.d
noncomputable def j8:XS:=GS 3 (aA 4)
noncomputable def j9:XS:=bh (xIf (xOr (z7 (lK (xCB rJ (ad (aj 4) (ad (xC (.ty "tuple")) av))))) (xOr (xB (xOp (dEq true) (xCB oz (ad (aj 4) av)) (xC (.int 2)))) (xB (tX true (aA 4) 3)))) (i4 (xC .non)) im) (bh (xIf (z7 (lK (n8 3 (bt dq (ad (aA 3) (ad (xOp dIx (aj 4) (xC (.int 0))) (ad (xOp dIx (aj 4) (xC (.int 1))) (ad (aA 2) av)))))))) (i4 (xC .non)) im) (z8 3 (aA 4)))
noncomputable def g7:XS:=xIf (lK (bt dq (ad (aA 3) (ad (aA 5) (ad (aA 6) (ad (aA 2) av)))))) (i4 (xC .non)) im
noncomputable def k6:XS:=bh (tU GL 3) (bh (ge (xIt (aA 0)) (ag 4) (j8)) (bh (ge (xIt (aA 1)) (ag 4) (j9)) (bh (GM 3 (Jk 3 (a8 (ao (ag 5) (ao (ag 6) bd))) (g7))) (tZ (xLT (xM 3))))))
noncomputable def jC:List D -> Option O:=fnO 7 k6
noncomputable def lu:List D -> Option D:=fun ds=>(jC ds).map O.d
noncomputable def ir:XS:=i4 (xCB t9 (ad (xL (cH [none,none] (xIt (aj 0)) (a8 (ao (ag 0) (ao (ag 1) bd))) eT (bt cK (ad (aA 1) av)))) av))
noncomputable def gJ:List D -> Option O:=fnO 1 ir
noncomputable def cm:List D -> Option D:=fun ds=>(gJ ds).map O.d
noncomputable def wg:XS:=bh (gW (xCB t9 (ad (xL (cH [none,none,none,some 0,some 1,some 2] (xIt (xC (.mtp [.mtp [.int (0),.int (-1),.int (1)],.mtp [.int (-1),.int (-1),.int (2)],.mtp [.int (-1),.int (0),.int (4)],.mtp [.int (-1),.int (1),.int (8)],.mtp [.int (0),.int (1),.int (16)],.mtp [.int (1),.int (1),.int (32)],.mtp [.int (1),.int (0),.int (64)],.mtp [.int (1),.int (-1),.int (128)]]))) (a8 (ao (ag 0) (ao (ag 1) (ao (ag 2) bd)))) (xB (tX false (bq (ad (xOp dF (aj 4) (aj 0)) (ad (xOp dF (aj 5) (aj 1)) av))) 3)) (aA 2))) av)) (ag 4)) (i4 (zZ (xOp (dEq false) (bt jB (ad (aA 4) av)) (xC (.int 1))) (KF (GR (aj 3)) (xOp dGe (bt bL (ad (aA 4) av)) (xC (.int 2))))))
noncomputable def qW:List D -> Option O:=fnO 5 wg
noncomputable def jz:List D -> Option D:=fun ds=>(qW ds).map O.d
noncomputable def cB:XS:=bh (xIf (xOr (z7 (lK (wc 1))) (xB (xOp (dEq true) (xFl (xOp dIx (xOp dIx (wc 1) (xUn j6 (xC (.int 1)))) (xC (.int 0)))) (aj 2)))) (j4 1 xPv (GU (xJ (xSh (aA 2)) (xJ (GO GQ) GQ)))) im) (j4 1 (xPi (xPi xPv (xUn j6 (xC (.int 1)))) (xC (.int 1))) (xSh (bq (ad (aA 3) (ad (aA 4) av)))))
noncomputable def jd:XS:=bh (kX (j7 av) 1) (bh (ge (xIt (xL (GK k8 (ad (xL (cH [none,none,none] (xIt (aj 0)) (a8 (ao (ag 0) (ao (ag 1) (ao (ag 2) bd)))) (xB (xOp dLe (aj 1) (aj 2))) (bq (ad (aA 0) (ad (aA 1) (ad (aA 2) av)))))) av)))) (a8 (ao (ag 2) (ao (ag 3) (ao (ag 4) bd)))) (cB)) (L5 1 (i4 (xCB kn (ad (xL (cH [none,none] (xIt (aA 1)) (a8 (ao (ag 0) (ao (ag 1) bd))) eT (bq (ad (aA 0) (ad (bt fS (ad (aA 1) av)) av))))) av)))))
noncomputable def iB:List D -> Option O:=fnO 5 jd
noncomputable def cc:List D -> Option D:=fun ds=>(iB ds).map O.d
noncomputable def i6:XS:=CS 1 xPv (xL (cH [none,some 2] (GT (ad (aj 3) (ad (xOp dF (aj 4) (xC (.int 1))) av))) (ag 0) eT (bq (ad (aA 0) (ad (aA 1) av)))))
noncomputable def mh:XS:=bh (xIf (xB (xOp dGt (bt cm (ad (aA 0) av)) (xC (.int (1000))))) (GP) im) (bh (kX (j7 av) 1) (bh (ge (xIt (bt bM (ad (aA 0) av))) (a8 (ao (ag 2) (ao (ag 3) (ao (ag 4) bd)))) (i6)) (z9 1)))
noncomputable def ic:List D -> Option O:=fnO 5 mh
noncomputable def cj:List D -> Option D:=fun ds=>(ic ds).map O.d
noncomputable def ip:XS:=xIf (lK (n8 0 (bt jz (ad (aA 0) (ad (xOp dIx (aj 4) (xC (.int 0))) (ad (xOp dIx (aj 4) (xC (.int 1))) (ad (aA 2) av))))))) (bh (z8 0 (aA 4)) (j4 3 xPv (xSh (aA 4)))) im
noncomputable def kj:XS:=bh (kX (j7 av) 3) (bh (ge (xIt (aA 1)) (ag 4) (ip)) (CT 3))
noncomputable def eM:HM:=fnH 5 kj
noncomputable def ka:XS:=tW 2 0 eM (ad (n8 0 (bt bj (ad (aA 0) (ad (aA 3) (ad (aA 4) av))))) (ad (aA 1) av))
noncomputable def je:XS:=bh (kX (j7 av) 2) (bh (ge (xIt (xC (.mtp [.mtp [.int (0),.int (-1)],.mtp [.int (-1),.int (0)],.mtp [.int (0),.int (1)],.mtp [.int (1),.int (0)]]))) (a8 (ao (ag 3) (ao (ag 4) bd))) (ka)) (CT 2))
noncomputable def fE:HM:=fnH 5 je
noncomputable def c6:XT:=xB (xOp dGt (xCB oz (ad (aj 3) av)) (aj 4))
noncomputable def fJ:XS:=bh (gW (xCB oz (ad (aj 3) av)) (ag 4)) (tW 3 2 fE (ad (aA 1) av))
noncomputable def k7:XS:=bh (tU (xK (cH [none] (xIt (bt cj (ad (aA 0) av))) (ag 0) eT (bq (ad (aA 0) (ad (xC (.bl true)) av))))) 2) (bh (kX (j7 av) 3) (bh (gW (xUn j6 (xC (.int 1))) (ag 4)) (bh (gZ (c6) (fJ)) (CU (bt cc (ad (xL (tY 2 (cH [none,none] (qS 2) (a8 (ao (ag 0) (ao (ag 1) bd))) eT (bq (ad (aA 1) (ad (aA 0) (ad (aA 0) av))))))) av)) 3))))
noncomputable def cO:List D -> Option O:=fnO 5 k7
noncomputable def cF:List D -> Option D:=fun ds=>(cO ds).map O.d
noncomputable def wf:XS:=bh (xIf (xB (xOp (dEq false) (aj 1) (xC (.int 0)))) (tZ (xI cO (.bl true) (ad (aA 0) av))) im) (tZ (tV cO (ad (aA 0) (ad (xOp (dEq false) (aj 1) (xC (.int 1))) av))))
noncomputable def kH:List D -> Option O:=fnO 2 wf
noncomputable def dQ:List D -> Option D:=fun ds=>(kH ds).map O.d
noncomputable def BL:XS:=bh (gW (xOp nq (xOp ue (bt aN (ad (aA 0) (ad (xC (.int 2)) av))) (xC (.int 5))) (xC (.int 3))) (ag 1)) (bh (gW (xOp jo (xOp nq (xOp ue (bt aN (ad (aA 0) (ad (xC (.int 0)) av))) (xC (.int 3))) (xC (.int 2))) (xOp nq (bt aN (ad (aA 0) (ad (xC (.int 1)) av))) (xOp Ha (xC (.int 10)) (xC (.int 50))))) (ag 2)) (bh (gW (xL (cH [none,none,some 2] (xIt (bt iP (ad (aA 0) av))) (a8 (ao (ag 0) (ao (ag 1) bd))) eT (bq (ad (xOp dF (aj 0) (aj 2)) (ad (xOp yd (aj 1) (aj 2)) av))))) (ag 3)) (bh (tU (tV kH (ad (bt ci (ad (aA 3) av)) (ad (aA 1) av))) 4) (bh (xIf (xOr (z7 (lK (xCB rJ (ad (wc 4) (ad (xC (.ty "tuple")) av))))) (xOr (xB (xOp (dEq true) (xFl (xCB oz (ad (wc 4) av))) (xC (.int 2)))) (z7 (lK (xCB rJ (ad (BF 4 (1)) (ad (xC (.ty "list")) av))))))) (i4 (xC (.bl false))) im) (bh (gW (BE jC (ad (aj 3) (ad (BF 4 (1)) (ad (xOp (dEq true) (aj 1) (xC (.int 2))) av)))) (ag 5)) (bh (xIf (xOr (xB (xOp (JE false) (aj 5) (xC .non))) (xOr (xB (xOp (dEq true) (BF 4 (0)) (bt ci (ad (aA 5) av)))) (z7 (lK (xCB rJ (ad (BF 4 (0)) (ad (xC (.ty "tuple")) av))))))) (i4 (xC (.bl false))) im) (bh (gW (xL (GK uS (ad (BF 4 (1)) av))) (ag 6)) (bh (j4 4 (xPi xPv (xC (.int 1))) (xSh (bq (ad (xC (.int 0)) (ad (xC (.int 0)) av))))) (bh (gW (bt dQ (ad (bt ci (ad (aA 3) av)) (ad (aA 1) av))) (ag 7)) (i4 (zZ (xOp (dEq false) (aj 7) (bq (ad (GN 4 (0)) (ad (aA 6) av)))) (zZ (xOp (dEq false) (bt dQ (ad (GN 4 (0)) (ad (aA 1) av))) (bq (ad (GN 4 (0)) (ad (xL (j7 av)) av)))) (xOp (dEq false) (BD cF (.bl true) (ad (bq av) av)) (bq (ad (bq av) (ad (xL (j7 av)) av))))))))))))))))
noncomputable def Fj:List D -> Option O:=fnO 8 BL
noncomputable def K8:List D -> Option D:=fun ds=>(Fj ds).map O.d
noncomputable abbrev fU (K:W.Frag):Sp:=fX K 2 h9
noncomputable def pP (K:W.Frag):{ t:TS // SS K t ja }:=⟨_,aK (mU (bE (SE.p (aG Lv (ak 1) ((iY pE (a6 (ak 0) bP)).p)))) (eV (aG gO (ak 0) (ak 1))) ft) (eV (s_c rfl))⟩
theorem zp {K:W.Frag} {vs:List V} {H:Hp} {Q:VK} {E:XK} (h:fU K vs H Q E):(pP K).1 { nx:=fun _ H'=>Q .non H',rt:=Q } (bi ["_law_script", "_law_k"] vs) H:=dM (pP K).2 rfl h
noncomputable abbrev jK (K:W.Frag):Sp:=fX K 4 mN
noncomputable def sX (K:W.Frag):{ t:TS // SS K t kZ }:=⟨_,aK (dN ((ij (af (br (af (s_c rfl) (af (lJ f8 ((s_c rfl).p)) aq))) (af (br (af (lJ f8 ((s_c rfl).p)) (af (lJ f8 ((s_c rfl).p)) aq))) (af (br (af (lJ f8 ((s_c rfl).p)) (af (s_c rfl) aq))) (af (br (af (lJ f8 ((s_c rfl).p)) (af (s_c rfl) aq))) (af (br (af (s_c rfl) (af (s_c rfl) aq))) (af (br (af (s_c rfl) (af (s_c rfl) aq))) (af (br (af (s_c rfl) (af (s_c rfl) aq))) (af (br (af (s_c rfl) (af (lJ f8 ((s_c rfl).p)) aq))) aq))))))))).e) (au 4)) (aK (dN ((d8 (eL (ak 4)) (gE (aM (au 0) (aM (au 1) eU)) (aH (aH cY))) l5 (iY KS (a6 ((Ja (i:=2) (br (af (aG dL (ak 3) (ak 0)) (af (aG dL (ak 4) (ak 1)) aq)))).p) bP))).e) (au 5)) (aK (mU (vR (kP (ak 3)) (bE (SE.p (aG Lv ((iY BR (a6 (ak 5) bP)).p) ((s_c rfl).p))))) (eV (s_c rfl)) ft) (aK (dN (s_c rfl) (au 6)) (aK (ii (jT ((ij (af (s_c rfl) (af (s_c rfl) (af (s_c rfl) (af (s_c rfl) aq))))).e)) (au 7) (mU (vR (bE (SE.p (aG (iW false) ((aG gO (ak 5) (ak 7)).p) ((s_c rfl).p)))) (bE (SE.p (aG HS ((aG dL ((aG gO (ak 5) ((aG dL (ak 7) ((s_c rfl).p)).p)).p) ((aG gO (ak 5) ((aG jX ((aG dL (ak 7) ((s_c rfl).p)).p) ((s_c rfl).p)).p)).p)).p) ((s_c rfl).p))))) (dN (aG dL (ak 6) ((s_c rfl).p)) (au 6)) ft)) (eV (aG (iW false) (ak 6) ((s_c rfl).p)))))))⟩
theorem Bi {K:W.Frag} {vs:List V} {H:Hp} {Q:VK} {E:XK} (h:jK K vs H Q E):(sX K).1 { nx:=fun _ H'=>Q .non H',rt:=Q } (bi ["_law_there", "_law_x", "_law_y", "_law_ends", "_law_steps", "_law_bits", "_law_total", "_law_k"] vs) H:=dM (sX K).2 rfl h
noncomputable abbrev ik (K:W.Frag):Sp:=fX K 1 pO
noncomputable def pQ (K:W.Frag):{ t:TS // SS K t jb }:=⟨_,aK (iE (ij aq)) (aK (ii (jT ((vT (((d8 (eL (ak 0)) (au 0) l5 (aG gO (ak 0) ((s_c rfl).p))).e).p)).e)) (au 2) (aK (iE (ij aq)) (aK (ii (jT ((vT (((d8 (eL (ak 0)) (au 0) (bE (SE.p (aG (iW false) ((aG gO (ak 0) ((s_c rfl).p)).p) (ak 1)))) (aG gO (ak 0) ((s_c rfl).p))).e).p)).e)) (au 4) (mU (vR (bE (SE.p (aG HS ((iY pE (a6 (ak 3) bP)).p) ((s_c rfl).p)))) (bE (SE.p (aG (iW false) ((aG dL ((aG gO ((aG gO (ak 3) ((lJ f8 ((s_c rfl).p)).p)).p) ((s_c rfl).p)).p) ((s_c rfl).p)).p) (ak 4))))) (Ga (br (af (aG gO ((aG gO (ak 3) ((lJ f8 ((s_c rfl).p)).p)).p) ((s_c rfl).p)) (af (aE 4) aq))) (iT 3) ((lJ f8 ((s_c rfl).p)).p)) (jH (iT 3) ((br (af (aE 4) (af (aE 4) aq))).t)))) (jH (iT 1) ((br (af (aE 2) (af (iY qT (a6 (ak 3) bP)) aq))).t))))) (eV (iY qT (a6 (ak 1) bP))))⟩
theorem zq {K:W.Frag} {vs:List V} {H:Hp} {Q:VK} {E:XK} (h:ik K vs H Q E):(pQ K).1 { nx:=fun _ H'=>Q .non H',rt:=Q } (bi ["_law_spots_here", "_law_rows", "_law_y", "_law_row", "_law_x"] vs) H:=dM (pQ K).2 rfl h
noncomputable abbrev dU (K:W.Frag):Sp:=fX K 1 fV
noncomputable def jV (K:W.Frag):{ t:TS // SS K t gn }:=⟨_,eV (iY pE (a6 (((d8 (eL ((s_g).p)) (gE (aM (au 0) (aM (au 1) (aM (au 2) eU))) (aH (aH (aH cY)))) (bE (SE.p (aG (iW true) ((aG FO (ak 3) (ak 2)).p) ((s_c rfl).p)))) (aE 2)).e).p) bP))⟩
theorem qO {K:W.Frag} {vs:List V} {H:Hp} {Q:VK} {E:XK} (h:dU K vs H Q E):(jV K).1 { nx:=fun _ H'=>Q .non H',rt:=Q } (bi ["number"] vs) H:=dM (jV K).2 rfl h
noncomputable abbrev fG (K:W.Frag):Sp:=fX K 3 iA
noncomputable def lX (K:W.Frag):{ t:TS // SS K t jc }:=⟨_,xw (SF.t (CD (II 0) (AI (aM (au 0) (aM (au 1) eU)) (aH (aH cY))) (Kq (zB (i:=2) (br (af (aG dL (ak 0) (ak 3)) (af (aG dL (ak 1) (ak 4)) aq))))) (br (af (aE 0) (af (aE 1) aq)))))⟩
theorem uG {K:W.Frag} {vs:List V} {H:Hp} {Q:VK} {E:XK} (h:fG K vs H Q E):(lX K).1 { nx:=fun _ H'=>Q .non H',rt:=Q } (bi ["kept", "dx", "dy"] vs) H:=dM (lX K).2 rfl h
noncomputable abbrev gb (K:W.Frag):Sp:=fX K 1 jD
noncomputable def nP (K:W.Frag):{ t:TS // SS K t ki }:=⟨_,eV (iY BR (a6 (((d8 (eL (ak 0)) (gE (aM (au 0) (aM (au 1) eU)) (aH (aH cY))) l5 (aG dL ((aG Cw (ak 1) (ak 0)).p) ((s_c rfl).p))).e).p) bP))⟩
theorem xo {K:W.Frag} {vs:List V} {H:Hp} {Q:VK} {E:XK} (h:gb K vs H Q E):(nP K).1 { nx:=fun _ H'=>Q .non H',rt:=Q } (bi ["row"] vs) H:=dM (nP K).2 rfl h
noncomputable abbrev lA (K:W.Frag):Sp:=fX K 1 o7
noncomputable def vL (K:W.Frag):{ t:TS // SS K t rB }:=⟨_,aK (iE (ij aq)) (aK (ii (jT ((F3 xX (a6 (((d8 (eL (ak 0)) (gE (aM (au 0) (aM (au 1) eU)) (aH (aH cY))) (bE (SE.p (aG Kd (ak 0) (ak 1)))) (br (af (aE 0) (af (aE 1) aq)))).e).p) bP)).e)) (gE (aM (au 2) (aM (au 3) eU)) (aH (aH cY))) (mU (vR (kP (ak 1)) (bE (SE.p (aG Kd (ak 2) ((aG dL ((aG gO ((aG gO (ak 1) ((lJ f8 ((s_c rfl).p)).p)).p) ((s_c rfl).p)).p) ((s_c rfl).p)).p))))) (Ga (br (af (aG gO ((aG gO (ak 1) ((lJ f8 ((s_c rfl).p)).p)).p) ((s_c rfl).p)) (af (iY Jx (a6 ((aG gO ((aG gO (ak 1) ((lJ f8 ((s_c rfl).p)).p)).p) ((s_c rfl).p)).p) (a6 (ak 3) bP))) aq))) (iT 1) ((lJ f8 ((s_c rfl).p)).p)) (jH (iT 1) ((br (af (aE 2) (af (aE 3) aq))).t)))) (eV (iY qT (a6 (ak 1) bP))))⟩
theorem DT {K:W.Frag} {vs:List V} {H:Hp} {Q:VK} {E:XK} (h:lA K vs H Q E):(vL K).1 { nx:=fun _ H'=>Q .non H',rt:=Q } (bi ["pairs", "stretches", "a", "b"] vs) H:=dM (vL K).2 rfl h
noncomputable abbrev dW (K:W.Frag):Sp:=fX K 1 dS
noncomputable def jW (K:W.Frag):{ t:TS // SS K t gq }:=⟨_,aK (iE (ij aq)) (aK (ii (jT (aE 0)) (gE (aM (au 2) (aM (au 3) eU)) (aH (aH cY))) (F5 (iT 1) ((d8 (eL (ak 3)) (gE (aM (au 0) (aM (au 1) eU)) (aH (aH cY))) l5 (br (af (aE 2) (af (aE 0) (af (aE 1) aq))))).e))) (Bo 1))⟩
theorem qP {K:W.Frag} {vs:List V} {H:Hp} {Q:VK} {E:XK} (h:dW K vs H Q E):(jW K).1 { nx:=fun _ H'=>Q .non H',rt:=Q } (bi ["picture", "stretches", "y", "row"] vs) H:=dM (jW K).2 rfl h
noncomputable abbrev nW (K:W.Frag):Sp:=fX K 1 sN
noncomputable def zj (K:W.Frag):{ t:TS // SS K t wj }:=⟨_,aK (dN (aG dL (ak 0) ((aG vN ((s_c rfl).p) (ak 0)).p)) (au 1)) (eV (iY pE (a6 (((d8 (eL ((s_g).p)) (au 0) (vR (bE (SE.p (aG (iW false) ((aG FO (ak 1) (ak 0)).p) ((s_c rfl).p)))) (bE (SE.p (aG (iW true) ((aG FO (ak 2) ((aG dL ((aG vN ((s_c rfl).p) (ak 0)).p) ((aG vN ((s_c rfl).p) (ak 0)).p)).p)).p) ((s_c rfl).p))))) (aE 0)).e).p) bP)))⟩
theorem FS {K:W.Frag} {vs:List V} {H:Hp} {Q:VK} {E:XK} (h:nW K vs H Q E):(zj K).1 { nx:=fun _ H'=>Q .non H',rt:=Q } (bi ["number", "twice"] vs) H:=dM (zj K).2 rfl h
noncomputable abbrev lz (K:W.Frag):Sp:=fX K 1 vz
noncomputable def vK (K:W.Frag):{ t:TS // SS K t kh }:=⟨_,aK (dN (bS (E:=E0) (af (aE 0) (af (s_c rfl) aq)) (ar (ar (fun _ _ h=>aW h)))) (au 1)) (aK (iE (ij aq)) (aK (dN (aG dL ((s_c rfl).p) ((aG jX ((aG pS (ak 1) ((s_c rfl).p)).p) ((s_c rfl).p)).p)) (au 3)) (aK (dN (aG dL ((s_c rfl).p) ((aG jX ((aG pS (ak 1) ((s_c rfl).p)).p) ((s_c rfl).p)).p)) (au 4)) (aK (dN (aG jX (ak 1) ((s_c rfl).p)) (au 5)) (aK (ii (EU ((aG vN (ak 3) (ak 4)).p)) (au 6) (aK (dN (aG jX (ak 6) (ak 3)) (au 7)) (aK (dN (aG pS (ak 6) (ak 3)) (au 8)) (mU (xu (bE (SE.p (aG (iW false) (ak 5) ((s_c rfl).p)))) (vR (bE (SE.p (aG (iW false) (ak 5) ((s_c rfl).p)))) (xu (bE (SE.p (aG (Ls false) (ak 7) ((br (af (s_c rfl) (af (aG Cw (ak 3) ((s_c rfl).p)) aq))).p)))) (bE (SE.p (aG (Ls false) (ak 8) ((br (af (s_c rfl) (af (aG Cw (ak 4) ((s_c rfl).p)) aq))).p))))))) (jH (iT 2) ((br (af (aE 7) (af (aE 8) aq))).t)) ft)))) (aK (ii (jT (MD (ak 0) (F7 ((s_c rfl).p)) (F7 ((s_c rfl).p)))) (au 9) (aK (dN (aG pS ((aG jX ((aG vN (ak 9) ((s_c rfl).p)).p) ((s_c rfl).p)).p) ((s_c rfl).p)) (au 10)) (ii (EU ((aG dL ((s_c rfl).p) ((aG jX ((aG pS (ak 10) ((s_c rfl).p)).p) ((s_c rfl).p)).p)).p)) (au 6) (jH (iT 2) ((br (af (aG dL ((aG jX (ak 10) ((s_c rfl).p)).p) (ak 6)) (af (aG jX ((aG pS (ak 10) ((s_c rfl).p)).p) ((s_c rfl).p)) aq))).t))))) (Bo 2)))))))⟩
theorem DS {K:W.Frag} {vs:List V} {H:Hp} {Q:VK} {E:XK} (h:lz K vs H Q E):(vK K).1 { nx:=fun _ H'=>Q .non H',rt:=Q } (bi ["_law_script", "_law_first", "_law_spots_here", "_law_wide", "_law_high", "_law_kind", "_law_k", "_law_x", "_law_y", "_law_cell", "_law_mixed"] vs) H:=dM (vK K).2 rfl h
noncomputable abbrev jL (K:W.Frag):Sp:=fX K 3 jC
noncomputable def sY (K:W.Frag):{ t:TS // SS K t k6 }:=⟨_,aK (xr Kj) (aK (ii (jT (aE 0)) (au 4) (Ko (i:=3) (aE 4))) (aK (ii (jT (aE 1)) (au 4) (aK (mU (xu (vS (kP ((iY BQ (a6 (ak 4) (a6 (SE.p (s_c rfl)) bP))).p))) (xu (bE (SE.p (aG (iW true) ((iY pE (a6 (ak 4) bP)).p) ((s_c rfl).p)))) (Kq (zB (i:=3) (aE 4))))) (eV (s_c rfl)) ft) (aK (mU (vS (kP ((Bn 3 (bS (E:=E0) (af (aE 3) (af (aG gO (ak 4) ((s_c rfl).p)) (af (aG gO (ak 4) ((s_c rfl).p)) (af (aE 2) aq)))) (ar (ar (ar (ar (fun _ _ h=>aW h))))))).p))) (eV (s_c rfl)) ft) (F8 (i:=3) (aE 4))))) (aK (Kl 3 (Kk (AI (aM (au 5) (aM (au 6) eU)) (aH (aH cY))) (mU (kP ((bS (E:=E0) (af (aE 3) (af (aE 5) (af (aE 6) (af (aE 2) aq)))) (ar (ar (ar (ar (fun _ _ h=>aW h)))))).p)) (eV (s_c rfl)) ft))) (xw (SF.t (H9 3))))))⟩
theorem Bj {K:W.Frag} {vs:List V} {H:Hp} {Q:VK} {E:XK} (h:jL K vs H Q E):(sY K).1 { nx:=fun _ H'=>Q .non H',rt:=Q } (bi ["_law_spots_here", "_law_taken", "_law_ends", "_law_there", "_law_spot", "_law_x", "_law_y"] vs) H:=dM (sY K).2 rfl h
noncomputable abbrev eP (K:W.Frag):Sp:=fX K 1 gJ
noncomputable def kM (K:W.Frag):{ t:TS // SS K t ir }:=⟨_,eV (iY BR (a6 (((d8 (eL (ak 0)) (gE (aM (au 0) (aM (au 1) eU)) (aH (aH cY))) l5 (bS (E:=E0) (af (aE 1) aq) (ar (fun _ _ h=>aW h)))).e).p) bP))⟩
theorem tq {K:W.Frag} {vs:List V} {H:Hp} {Q:VK} {E:XK} (h:eP K vs H Q E):(kM K).1 { nx:=fun _ H'=>Q .non H',rt:=Q } (bi ["picture"] vs) H:=dM (kM K).2 rfl h
noncomputable abbrev re (K:W.Frag):Sp:=fX K 4 qW
noncomputable def Cq (K:W.Frag):{ t:TS // SS K t wg }:=⟨_,aK (dN (iY BR (a6 (((d8 (eL ((s_g).p)) (gE (aM (au 0) (aM (au 1) (aM (au 2) eU))) (aH (aH (aH cY)))) (Kq (Ja (i:=3) (br (af (aG dL (ak 4) (ak 0)) (af (aG dL (ak 5) (ak 1)) aq))))) (aE 2)).e).p) bP)) (au 4)) (eV (Bm ((aG (iW false) ((bS (E:=E0) (af (aE 4) aq) (ar (fun _ _ h=>aW h))).p) ((s_c rfl).p)).p) (LF ((Kn (ak 3)).p) (aG MA ((bS (E:=E0) (af (aE 4) aq) (ar (fun _ _ h=>aW h))).p) ((s_c rfl).p)))))⟩
theorem HU {K:W.Frag} {vs:List V} {H:Hp} {Q:VK} {E:XK} (h:re K vs H Q E):(Cq K).1 { nx:=fun _ H'=>Q .non H',rt:=Q } (bi ["kept", "x", "y", "ends", "number"] vs) H:=dM (Cq K).2 rfl h
noncomputable abbrev fH (K:W.Frag):Sp:=fX K 1 iB
noncomputable def lY (K:W.Frag):{ t:TS // SS K t jd }:=⟨_,aK (iE (ij aq)) (aK (ii (jT ((F3 xX (a6 (((d8 (eL (ak 0)) (gE (aM (au 0) (aM (au 1) (aM (au 2) eU))) (aH (aH (aH cY)))) (bE (SE.p (aG Kd (ak 1) (ak 2)))) (br (af (aE 0) (af (aE 1) (af (aE 2) aq))))).e).p) bP)).e)) (gE (aM (au 2) (aM (au 3) (aM (au 4) eU))) (aH (aH (aH cY)))) (aK (mU (xu (vS (Gb (xx 1))) (bE (SE.p (aG (iW true) ((SQ.fl (Jb gO (Jb gO (xx 1) (((lJ f8 ((s_c rfl).p)).p).q)) (((s_c rfl).p).q))).p) (ak 2))))) (jH (iT 1) (Kr (CG ((aE 2).t) (CG (Km Gn) Gn)))) ft) (jH (J5 (J5 (iT 1) ((lJ f8 ((s_c rfl).p)).p)) ((s_c rfl).p)) ((br (af (aE 3) (af (aE 4) aq))).t)))) (LD 1 (eV (iY qT (a6 (((d8 (eL ((aE 1).p)) (gE (aM (au 0) (aM (au 1) eU)) (aH (aH cY))) l5 (br (af (aE 0) (af (bS (E:=E0) (af (aE 1) aq) (ar (fun _ _ h=>aW h))) aq)))).e).p) bP)))))⟩
theorem uH {K:W.Frag} {vs:List V} {H:Hp} {Q:VK} {E:XK} (h:fH K vs H Q E):(lY K).1 { nx:=fun _ H'=>Q .non H',rt:=Q } (bi ["stretches", "pairs_by_row", "y", "a", "b"] vs) H:=dM (lY K).2 rfl h
noncomputable abbrev il (K:W.Frag):Sp:=fX K 1 ic
noncomputable def pR (K:W.Frag):{ t:TS // SS K t mh }:=⟨_,aK (mU (bE (SE.p (aG HS ((bS (E:=E0) (af (aE 0) aq) (ar (fun _ _ h=>aW h))).p) ((s_c rfl).p)))) (Ib (t:=Gw)) ft) (aK (iE (ij aq)) (aK (ii (jT (bS (E:=E0) (af (aE 0) aq) (ar (fun _ _ h=>aW h)))) (gE (aM (au 2) (aM (au 3) (aM (au 4) eU))) (aH (aH (aH cY)))) (F5 (iT 1) ((d8 (SI.p (JN (ak 3) ((aG dL (ak 4) ((s_c rfl).p)).p))) (au 0) l5 (br (af (aE 0) (af (aE 1) aq)))).e))) (Bo 1)))⟩
theorem zr {K:W.Frag} {vs:List V} {H:Hp} {Q:VK} {E:XK} (h:il K vs H Q E):(pR K).1 { nx:=fun _ H'=>Q .non H',rt:=Q } (bi ["picture", "cells", "y", "a", "b"] vs) H:=dM (pR K).2 rfl h
noncomputable abbrev gc (K:W.Frag):Sp:=spH K 3 eM
noncomputable def nQ (K:W.Frag):{ t:TS // SS K t kj }:=⟨_,aK (iE (ij aq)) (aK (ii (jT (aE 1)) (au 4) (mU (kP ((Bn 0 (bS (E:=E0) (af (aE 0) (af (aG gO (ak 4) ((s_c rfl).p)) (af (aG gO (ak 4) ((s_c rfl).p)) (af (aE 2) aq)))) (ar (ar (ar (ar (fun _ _ h=>aW h))))))).p)) (aK (F8 (i:=0) (aE 4)) (jH (iT 3) ((aE 4).t))) ft)) (F9 3))⟩
theorem xp {K:W.Frag} {vs:List V} {H:Hp} {Q:VK} {E:XK} (h:gc K vs H Q E):(nQ K).1 { nx:=fun _ H'=>Q .non H',rt:=Q } (bi ["kept", "free", "ends", "taken", "cell"] vs) H:=FR (nQ K).2 rfl h
noncomputable abbrev fI (K:W.Frag):Sp:=spH K 2 fE
noncomputable def lZ (K:W.Frag):{ t:TS // SS K t je }:=⟨_,aK (iE (ij aq)) (aK (ii (jT (s_g)) (gE (aM (au 3) (aM (au 4) eU)) (aH (aH cY))) (F4 (E0:=E0) (i:=0) (j:=2) (af (Bn 0 (bS (E:=E0) (af (aE 0) (af (aE 3) (af (aE 4) aq))) (ar (ar (ar (fun _ _ h=>aW h)))))) (af (aE 1) aq)) (ar (ar (fun _ _ h=>aW h))))) (F9 2))⟩
theorem uI {K:W.Frag} {vs:List V} {H:Hp} {Q:VK} {E:XK} (h:fI K vs H Q E):(lZ K).1 { nx:=fun _ H'=>Q .non H',rt:=Q } (bi ["kept", "ends", "taken", "dx", "dy"] vs) H:=FR (lZ K).2 rfl h
noncomputable abbrev gT (K:W.Frag):Sp:=fX K 2 cO
noncomputable def sZ (K:W.Frag):{ t:TS // SS K t k7 }:=⟨_,aK (xr (HZ (d8 (eL ((bS (E:=E0) (af (aE 0) aq) (ar (fun _ _ h=>aW h))).p)) (au 0) l5 (br (af (aE 0) (af (s_c rfl) aq)))))) (aK (iE (ij aq)) (aK (dN (lJ f8 ((s_c rfl).p)) (au 4)) (aK (Ic (bE (SE.p (aG HS ((iY pE (a6 (ak 3) bP)).p) (ak 4)))) (aK (dN (iY pE (a6 (ak 3) bP)) (au 4)) (F4 (E0:=E0) (i:=2) (j:=3) (af (aE 1) aq) (ar (fun _ _ h=>aW h))))) (Kp 3 (bS (E:=E0) (af ((Ia 2 (CD (II 2) (AI (aM (au 0) (aM (au 1) eU)) (aH (aH cY))) l5 (br (af (aE 1) (af (aE 0) (af (aE 0) aq)))))).e) aq) (ar (fun _ _ h=>aW h)))))))⟩
theorem Bk {K:W.Frag} {vs:List V} {H:Hp} {Q:VK} {E:XK} (h:gT K vs H Q E):(sZ K).1 { nx:=fun _ H'=>Q .non H',rt:=Q } (bi ["picture", "ends", "kept", "taken", "taken_before"] vs) H:=dM (sZ K).2 rfl h
noncomputable abbrev nV (K:W.Frag):Sp:=fX K 2 kH
noncomputable def zi (K:W.Frag):{ t:TS // SS K t wf }:=⟨_,aK (mU (bE (SE.p (aG (iW false) (ak 1) ((s_c rfl).p)))) (xw (F2 (E:=E0) (v:=.bl true) rfl (af (aE 0) aq) (ar (fun _ _ h=>aW h)))) ft) (xw (xt (E:=E0) (af (aE 0) (af (aG (iW false) (ak 1) ((s_c rfl).p)) aq)) (ar (ar (fun _ _ h=>aW h)))))⟩
theorem FQ {K:W.Frag} {vs:List V} {H:Hp} {Q:VK} {E:XK} (h:nV K vs H Q E):(zi K).1 { nx:=fun _ H'=>Q .non H',rt:=Q } (bi ["_law_picture_here", "_law_way"] vs) H:=dM (zi K).2 rfl h
noncomputable abbrev tN (K:W.Frag):Sp:=fX K 1 Fj
noncomputable def FC (K:W.Frag):{ t:TS // SS K t BL }:=⟨_,aK (dN (aG jX ((aG pS ((bS (E:=E0) (af (aE 0) (af (s_c rfl) aq)) (ar (ar (fun _ _ h=>aW h)))).p) ((s_c rfl).p)).p) ((s_c rfl).p)) (au 1)) (aK (dN (aG vN ((aG jX ((aG pS ((bS (E:=E0) (af (aE 0) (af (s_c rfl) aq)) (ar (ar (fun _ _ h=>aW h)))).p) ((s_c rfl).p)).p) ((s_c rfl).p)).p) ((aG jX ((bS (E:=E0) (af (aE 0) (af (s_c rfl) aq)) (ar (ar (fun _ _ h=>aW h)))).p) ((aG Lx ((s_c rfl).p) ((s_c rfl).p)).p)).p)) (au 2)) (aK (dN ((d8 (eL ((bS (E:=E0) (af (aE 0) aq) (ar (fun _ _ h=>aW h))).p)) (gE (aM (au 0) (aM (au 1) eU)) (aH (aH cY))) l5 (br (af (aG dL (ak 0) (ak 2)) (af (aG Cw (ak 1) (ak 2)) aq)))).e) (au 3)) (aK (xr (xt (E:=E0) (af (bS (E:=E0) (af (aE 3) aq) (ar (fun _ _ h=>aW h))) (af (aE 1) aq)) (ar (ar (fun _ _ h=>aW h))))) (aK (mU (xu (vS (Gb (I9 BQ (lB (xx 4) (lB ((SE.p (s_c rfl)).q) Bx))))) (xu (bE (SE.p (aG (iW true) ((SQ.fl (I9 pE (lB (xx 4) Bx))).p) ((s_c rfl).p)))) (vS (kP ((iY BQ (a6 (zA 4 (1)) (a6 (SE.p (s_c rfl)) bP))).p))))) (eV (s_c rfl)) ft) (aK (dN (HY (E:=E0) (lB ((ak 3).q) (lB ((zA 4 (1)).q) (lB (((aG (iW true) (ak 1) ((s_c rfl).p)).p).q) (Bx)))) (ar (ar (ar (fun _ _ h=>aW h))))) (au 5)) (aK (mU (xu (bE (SE.p (aG Lu (ak 5) ((s_c rfl).p)))) (xu (bE (SE.p (aG (iW true) (zA 4 (0)) ((bS (E:=E0) (af (aE 5) aq) (ar (fun _ _ h=>aW h))).p)))) (vS (kP ((iY BQ (a6 (zA 4 (0)) (a6 (SE.p (s_c rfl)) bP))).p))))) (eV (s_c rfl)) ft) (aK (dN ((F3 Jw (a6 (zA 4 (1)) bP)).e) (au 6)) (aK (jH (J5 (iT 4) ((s_c rfl).p)) ((br (af (s_c rfl) (af (s_c rfl) aq))).t)) (aK (dN (bS (E:=E0) (af (bS (E:=E0) (af (aE 3) aq) (ar (fun _ _ h=>aW h))) (af (aE 1) aq)) (ar (ar (fun _ _ h=>aW h)))) (au 7)) (eV (Bm ((aG (iW false) (ak 7) ((br (af (F6 4 (0)) (af (aE 6) aq))).p)).p) (Bm ((aG (iW false) ((bS (E:=E0) (af (F6 4 (0)) (af (aE 1) aq)) (ar (ar (fun _ _ h=>aW h)))).p) ((br (af (F6 4 (0)) (af ((ij aq).e) aq))).p)).p) (aG (iW false) ((HX (E:=E0) (v:=.bl true) rfl (af (br aq) aq) (ar (fun _ _ h=>aW h))).p) ((br (af (br aq) (af ((ij aq).e) aq))).p))))))))))))))⟩
theorem Ke {K:W.Frag} {vs:List V} {H:Hp} {Q:VK} {E:XK} (h:tN K vs H Q E):(FC K).1 { nx:=fun _ H'=>Q .non H',rt:=Q } (bi ["_law_script", "_law_way", "_law_far", "_law_spots_here", "_law_found", "_law_left", "_law_kept", "_law_again"] vs) H:=dM (FC K).2 rfl h
end P
namespace P
open PySem L2 M Rw
noncomputable def uo (p:Int × Int):List Int:=[p.1,p.2]
theorem yI:∀ r:R,keys (r.map prD) = some (r.map uo)
 | []=>rfl
 | p :: r=>by
  rw [OQ,keys,yI r]
  rfl
theorem EX:∀ {r:R},r ≠ [] -> aJ (r.map prD) = none
 | [],h=>absurd rfl h
 | p :: r,_=>rfl
noncomputable def Cg:List Int -> Int × Int
 | [a,b]=>(a,b)
 | _=>(0,0)
noncomputable def nU (ps:R):R:=(gQ (ps.map uo)).map Cg
theorem tL (ps:R):(nU ps).map uo = gQ (ps.map uo):=by
 unfold nU
 rw [O7]
 have h:∀ k ∈ gQ (ps.map uo),(uo ∘ Cg) k = k:=fun k hk=>by
  have:=(gR _).mem_iff.mp hk
  obtain ⟨p,_,rfl⟩:=O1.mp this
  rfl
 rw [List.map_congr_left h,List.map_id']
theorem jJ (ps:R):(nU ps).Perm ps:=by
 have h:=(gR (ps.map uo)).map Cg
 rw [O7] at h
 have e:(Cg ∘ uo) = id:=rfl
 rw [e,List.map_id] at h
 exact h
theorem Gk (ps:R):(nU ps).Pairwise fun p q=>p.1 <= q.1:=by
 have h:=tK (ps.map uo)
 rw [<- tL,Ql] at h
 refine h.imp fun {p q} e=>?_
 have e':(if q.1 = p.1 then HT.cz [q.2] [p.2] else decide (q.1 < p.1)) = false:=e
 by_cases hq:q.1 = p.1
 ·lia
 ·rw [OB hq] at e'
  have:=Pv e'
  lia
theorem xW (ps:R) (h:ps.length < 30000):k8 [Dy ps] = some ((nU ps).map prD):=by
 show (if (ps.map prD).length < 30000 then _ else _) = _
 rw [OC (by rw [OJ];exact h)]
 by_cases e:ps = []
 ·subst e
  have e0:nU [] = []:=QF.mp (by rw [(jJ []).length_eq];rfl)
  have e1:dA [] = []:=QF.mp (by rw [(fv []).length_eq];rfl)
  show some ((dA []).map D.int) = _
  rw [e0,e1]
  rfl
 ·rw [EX e]
  dsimp only
  rw [yI]
  have:(nU ps).map prD = (gQ (ps.map uo)).map nZ:=by
   rw [<- tL,O7]
   rfl
  rw [this]
  rfl
noncomputable def ui (p:Int × Int):Bool:=decide (p.1 <= p.2)
noncomputable def vP (ps:R):R:=nL (nU (ps.filter ui))
theorem hV (ps:R):Iy ps (vP ps):=by
 refine Fi ?_ (Gk _) fun x=>?_
 ·intro p hp
  have:=(jJ _).mem_iff.mp hp
  simpa [ui] using (Po.mp this).2
 ·rw [Fe (jJ _)]
  exact mem_filter ps x
theorem Go (acc:R) (p:Int × Int):(step acc p).length <= acc.length + 1:=by
 rcases Qw acc with rfl | ⟨t,q,rfl⟩
 ·simp [Rw.step]
 ·rw [Qx,pk]
  split <;> simp
theorem vx:∀ (l acc:R),(l.foldl step acc).length <= acc.length + l.length
 | [],acc=>by simp
 | p :: l,acc=>by
  have h1:=vx l (step acc p)
  have h2:=Go acc p
  rw [O5,OL]
  lia
theorem aS {n:Nat} (h:n <= 100000):n <= LIM:=OW h (by rw [fe];decide)
theorem fD {n:Nat} (h:n <= 100000):n < LIM:=Pw h (by rw [fe];decide)
theorem GB (a b:Int):D.tup [.int a,.int b] = prD (a,b):=rfl
theorem vd:∀ ps:R,ps.filterMap (fun p=>if p.1 <= p.2 then some (prD p) else none) = (ps.filter ui).map prD
 | []=>rfl
 | p :: t=>by
  rw [Pc,P6,vd t]
  by_cases h:p.1 <= p.2
  ·simp [ui,h]
  ·simp [ui,h]
theorem C6 (ps:R):bV (a8 (ao (ag 0) (ao (ag 1) bd))) (xB (xOp dLe (aj 0) (aj 1))) (bq (ad (aA 0) (ad (aA 1) av))) [.un,.un] (ps.map prD) = some ((ps.filter ui).map prD):=by
 rw [eG prD (fun p=>if p.1 <= p.2 then some (prD p) else none) ps,vd]
 intro p _
 by_cases h:p.1 <= p.2 <;> simp [gK,h]
theorem AX (pre:R) (p:Int × Int):nL (pre ++ [p]) = step (nL pre) p:=by
 unfold nL
 rw [Q7]
 rfl
theorem Fh (pre:R):(nL pre).length <= pre.length:=by
 have:=vx pre []
 unfold nL
 simpa using this
theorem mx (a b:Int):(if b > a then b else a) = max a b:=by split <;> lia
theorem EW (n:Nat):fQ 0 n = (List.range n).map fun k:Nat=>D.int (k:Int):=by
 apply QV
 intro i
 cases q:(fQ 0 n)[i]? with
 | none=>
  have:=QE.mp q
  rw [oO] at this
  rw [List.getElem?_eq_none (by rw [OJ,RU];exact this)]
 | some d=>
  obtain ⟨h1,rfl⟩:=oM n 0 i d q
  rw [O6,List.getElem?_range h1]
  simp
theorem G9 {α β:Type} (f:α -> β) (xs:List α) (lo hi:Option Int):jn (xs.map f) lo hi = (jn xs lo hi).map f:=by
 unfold jn
 rw [OJ,<- List.map_drop,<- List.map_take]
theorem G8 {α:Type} (xs:List α) (lo hi:Option Int):(jn xs lo hi).length <= HT.sIx xs.length xs.length hi - HT.sIx xs.length 0 lo:=by
 unfold jn
 rw [Qi]
 lia
theorem aI {m n:XS} {ρ ρ':M.Env} (h:m ρ = some (.nx ρ')):bh m n ρ = n ρ':=by unfold bh;rw [h]
theorem IC {n:Nat} {x:XS} {ds:List D} {d:D} (h:x (ds.map .sh ++ List.replicate (n - ds.length) .un) = some (.rt d)):(fnO n x ds).map O.d = some d:=by unfold fnO;rw [h];simp
theorem CC {n d:Nat} {v:Int} (h:0 <= v):HT.sIx n d (some v) = min v.toNat n:=by
 show (if v < 0 then _ else _) = _
 rw [OB (by lia)]
theorem zz (s0:Sl) (acc:R) (a b:Int) (h:acc.length <= 30000):eX [s0,owl (acc.map prD),.sh (.int a),.sh (.int b)] = some (.nx [s0,owl ((step acc (a,b)).map prD),.sh (.int a),.sh (.int b)]):=by
 rcases Qw acc with rfl | ⟨t,q,rfl⟩
 ·simp [eX,Rw.step,prD]
 ·rw [Qx] at *
  rw [pk]
  have hl:t.length + 1 <= 30000:=by simpa using h
  have hlim:t.length + 1 < LIM:=fD (by lia)
  have at1:atI (t.map prD ++ [prD q]) (-1) = some (prD q):=rH _ _
  by_cases hc:a <= q.2 + 1
  ·simp [eX,at1,hc,E2,GB]
  ·simp [eX,at1,hc,hlim,GB]
theorem yN (ps:R) (h:ps.length < 30000):fS [Dy ps] = some (HW (vP ps)):=by
 have hf:=Rt ui ps
 have hs:=(jJ (ps.filter ui)).length_eq
 have key:∃ ρ',c0 (a8 (ao (ag 2) (ao (ag 3) bd))) eX ((nU (ps.filter ui)).map prD) [.sh (Dy ps),.ow (.lst []),.un,.un] = some (.nx ρ') /\ ∃ va vb,ρ' = [.sh (Dy ps),owl ((vP ps).map prD),va,vb]:=by
  refine bH prD (fun pre ρ=>∃ va vb,ρ = [.sh (Dy ps),owl ((nL pre).map prD),va,vb]) _ _ ⟨_,_,rfl⟩ ?_
  rintro pre p post _ e ⟨va,vb,rfl⟩
  have hp:pre.length <= 30000:=by
   have:=OZ List.length e
   rw [OM] at this
   lia
  refine ⟨_,_,rfl,.inl (zz _ (nL pre) p.1 p.2 (by have:=Fh pre;lia)),.sh (.int p.1),.sh (.int p.2),by rw [AX]⟩
 obtain ⟨ρ',k1,va,vb,rfl⟩:=key
 have hc:=C6 ps
 have hb:=xW (ps.filter ui) (by lia)
 have hl:ps.length <= LIM:=aS (by lia)
 simp [fS,o7,fnO,rB,hl,hc,hb,k1]
noncomputable abbrev Tri:=Int × Int × Int
noncomputable abbrev eD (t:Tri):D:=.tup [.int t.1,.int t.2.1,.int t.2.2]
noncomputable abbrev Pic:=List (Int × R)
noncomputable abbrev pyD (q:Int × R):D:=.tup [.int q.1,HW q.2]
noncomputable abbrev dH (p:Pic):D:=.tup (p.map pyD)
def j5 (ts:List Tri) (x y:Int):Prop:=∃ t ∈ ts,t.1 = y /\ t.2.1 <= x /\ x <= t.2.2
def mf (p:Pic) (x y:Int):Prop:=∃ q ∈ p,q.1 = y /\ Mem q.2 x
def dB (p:Pic):Prop:=(∀ q ∈ p,eE q.2 /\ q.2 ≠ []) /\ p.Pairwise fun a b=>a.1 < b.1
theorem iU (x y:Int):¬ mf [] x y:=by rintro ⟨_,h,_⟩;cases h
theorem bB (q:Int × R) (p:Pic) (x y:Int):mf (q :: p) x y ↔ (q.1 = y /\ Mem q.2 x) \/ mf p x y:=by
 constructor
 ·rintro ⟨s,h,e⟩
  rcases OP.mp h with rfl | h
  ·exact .inl e
  ·exact .inr ⟨s,h,e⟩
 ·rintro (e | ⟨s,h,e⟩)
  ·exact ⟨q,OI,e⟩
  ·exact ⟨s,OK _ h,e⟩
theorem kN (p q:Pic) (x y:Int):mf (p ++ q) x y ↔ mf p x y \/ mf q x y:=by
 constructor
 ·rintro ⟨s,h,e⟩
  rcases OV.mp h with h | h
  ·exact .inl ⟨s,h,e⟩
  ·exact .inr ⟨s,h,e⟩
 ·rintro (⟨s,h,e⟩ | ⟨s,h,e⟩)
  ·exact ⟨s,OY _ h,e⟩
  ·exact ⟨s,OU _ h,e⟩
theorem D6 (t:Tri) (ts:List Tri) (x y:Int):j5 (t :: ts) x y ↔ (t.1 = y /\ t.2.1 <= x /\ x <= t.2.2) \/ j5 ts x y:=by
 constructor
 ·rintro ⟨s,h,e⟩
  rcases OP.mp h with rfl | h
  ·exact .inl e
  ·exact .inr ⟨s,h,e⟩
 ·rintro (e | ⟨s,h,e⟩)
  ·exact ⟨t,OI,e⟩
  ·exact ⟨s,OK _ h,e⟩
theorem zT (a b:List Tri) (x y:Int):j5 (a ++ b) x y ↔ j5 a x y \/ j5 b x y:=by
 constructor
 ·rintro ⟨s,h,e⟩
  rcases OV.mp h with h | h
  ·exact .inl ⟨s,h,e⟩
  ·exact .inr ⟨s,h,e⟩
 ·rintro (⟨s,h,e⟩ | ⟨s,h,e⟩)
  ·exact ⟨s,OY _ h,e⟩
  ·exact ⟨s,OU _ h,e⟩
theorem D7 {a b:List Tri} (h:a.Perm b) (x y:Int):j5 a x y ↔ j5 b x y:=
 ⟨fun ⟨q,m,e⟩=>⟨q,h.mem_iff.mp m,e⟩,fun ⟨q,m,e⟩=>⟨q,h.mem_iff.mpr m,e⟩⟩
theorem sV:dB []:=⟨fun _ h=>(by cases h),.nil⟩
theorem pcanon_cons {q:Int × R} {p:Pic}:dB (q :: p) ↔ (eE q.2 /\ q.2 ≠ []) /\ (∀ s ∈ p,q.1 < s.1) /\ dB p:=by
 constructor
 ·rintro ⟨h1,h2⟩
  have h3:=Qu.mp h2
  exact ⟨h1 q OI,h3.1,fun s hs=>h1 s (OK _ hs),h3.2⟩
 ·rintro ⟨h1,h2,h3,h4⟩
  refine ⟨fun s hs=>?_,Qu.mpr ⟨h2,h4⟩⟩
  rcases OP.mp hs with rfl | hs
  ·exact h1
  ·exact h3 s hs
theorem g9 {r:R} (c:eE r) (h:r ≠ []):∃ x,Mem r x:=by
 cases r with
 | nil=>exact absurd rfl h
 | cons p r=>exact ⟨p.1,(mem_cons ..).mpr (.inl ⟨Pi _,(canon_cons.mp c).1⟩)⟩
theorem Ct:∀ {p q:Pic},dB p -> dB q -> (∀ x y,mf p x y ↔ mf q x y) -> p = q
 | [],[],_,_,_=>rfl
 | [],b :: q,_,cq,h=>by
  obtain ⟨⟨c1,c2⟩,_⟩:=pcanon_cons.mp cq
  obtain ⟨x,hx⟩:=g9 c1 c2
  exact (iU _ _ ((h x b.1).mpr ((bB ..).mpr (.inl ⟨rfl,hx⟩)))).elim
 | a :: p,[],cp,_,h=>by
  obtain ⟨⟨c1,c2⟩,_⟩:=pcanon_cons.mp cp
  obtain ⟨x,hx⟩:=g9 c1 c2
  exact (iU _ _ ((h x a.1).mp ((bB ..).mpr (.inl ⟨rfl,hx⟩)))).elim
 | a :: p,b :: q,cp,cq,h=>by
  obtain ⟨⟨ca,na⟩,la,cp'⟩:=pcanon_cons.mp cp
  obtain ⟨⟨cb,nb⟩,lb,cq'⟩:=pcanon_cons.mp cq
  obtain ⟨xa,ha⟩:=g9 ca na
  obtain ⟨xb,hb⟩:=g9 cb nb
  have ey:a.1 = b.1:=by
   have h1:b.1 <= a.1:=by
    rcases (bB ..).mp ((h xa a.1).mp ((bB ..).mpr (.inl ⟨rfl,ha⟩))) with ⟨e,_⟩ | ⟨s,hs,e,_⟩
    ·lia
    ·have:=lb s hs;lia
   have h2:a.1 <= b.1:=by
    rcases (bB ..).mp ((h xb b.1).mpr ((bB ..).mpr (.inl ⟨rfl,hb⟩))) with ⟨e,_⟩ | ⟨s,hs,e,_⟩
    ·lia
    ·have:=la s hs;lia
   lia
  have er:a.2 = b.2:=GE ca cb fun x=>by
   have hx:=h x a.1
   rw [bB,bB] at hx
   have n1:¬ mf p x a.1:=by rintro ⟨s,hs,e,_⟩;have:=la s hs;lia
   have n2:¬ mf q x a.1:=by rintro ⟨s,hs,e,_⟩;have:=lb s hs;lia
   constructor
   ·intro hm
    rcases hx.mp (.inl ⟨rfl,hm⟩) with z | z
    ·exact z.2
    ·exact absurd z n2
   ·intro hm
    rcases hx.mpr (.inl ⟨ey.symm,hm⟩) with z | z
    ·exact z.2
    ·exact absurd z n1
  have eab:a = b:=by
   obtain ⟨a1,a2⟩:=a
   obtain ⟨b1,b2⟩:=b
   simp only at ey er
   rw [ey,er]
  subst eab
  have ih:p = q:=Ct cp' cq' fun x y=>by
   have hx:=h x y
   rw [bB,bB] at hx
   constructor
   ·intro hm
    rcases hx.mp (.inr hm) with z | z
    ·obtain ⟨s,hs,e,_⟩:=hm;have:=la s hs;lia
    ·exact z
   ·intro hm
    rcases hx.mpr (.inr hm) with z | z
    ·obtain ⟨s,hs,e,_⟩:=hm;have:=lb s hs;lia
    ·exact z
  rw [ih]
noncomputable def uq (t:Tri):List Int:=[t.1,t.2.1,t.2.2]
noncomputable def xc:List Int -> Tri
 | [a,b,c]=>(a,b,c)
 | _=>(0,0,0)
theorem vp:∀ r:List Tri,keys (r.map eD) = some (r.map uq)
 | []=>rfl
 | p :: r=>by rw [OQ,keys,vp r];rfl
theorem Dk:∀ {r:List Tri},r ≠ [] -> aJ (r.map eD) = none
 | [],h=>absurd rfl h
 | _ :: _,_=>rfl
noncomputable def fT (ts:List Tri):List Tri:=(gQ (ts.map uq)).map xc
theorem tM (ts:List Tri):(fT ts).map uq = gQ (ts.map uq):=by
 unfold fT
 rw [O7]
 have h:∀ k ∈ gQ (ts.map uq),(uq ∘ xc) k = k:=fun k hk=>by
  have:=(gR _).mem_iff.mp hk
  obtain ⟨p,_,rfl⟩:=O1.mp this
  rfl
 rw [List.map_congr_left h,List.map_id']
theorem gS (ts:List Tri):(fT ts).Perm ts:=by
 have h:=(gR (ts.map uq)).map xc
 rw [O7] at h
 have e:(xc ∘ uq) = id:=rfl
 rw [e,List.map_id] at h
 exact h
theorem zL (ts:List Tri):(fT ts).Pairwise fun p q=>p.1 <= q.1:=by
 have h:=tK (ts.map uq)
 rw [<- tM,Ql] at h
 refine h.imp fun {p q} e=>?_
 have e':(if q.1 = p.1 then HT.cz [q.2.1,q.2.2] [p.2.1,p.2.2] else decide (q.1 < p.1)) = false:=e
 by_cases hq:q.1 = p.1
 ·lia
 ·rw [OB hq] at e'
  have:=Pv e'
  lia
theorem wv (ts:List Tri) (h:ts.length < 30000):k8 [.lst (ts.map eD)] = some ((fT ts).map eD):=by
 show (if (ts.map eD).length < 30000 then _ else _) = _
 rw [OC (by rw [OJ];exact h)]
 by_cases e:ts = []
 ·subst e
  have e0:fT [] = []:=QF.mp (by rw [(gS []).length_eq];rfl)
  have e1:dA [] = []:=QF.mp (by rw [(fv []).length_eq];rfl)
  show some ((dA []).map D.int) = _
  rw [e0,e1]
  rfl
 ·rw [Dk e]
  dsimp only
  rw [vp]
  have:(fT ts).map eD = (gQ (ts.map uq)).map nZ:=by
   rw [<- tM,O7]
   rfl
  rw [this]
  rfl
noncomputable def dw (t:Tri):Bool:=decide (t.2.1 <= t.2.2)
theorem zU (ts:List Tri) (x y:Int):j5 (ts.filter dw) x y ↔ j5 ts x y:=by
 constructor
 ·rintro ⟨q,m,e⟩
  exact ⟨q,(Po.mp m).1,e⟩
 ·rintro ⟨q,m,e⟩
  exact ⟨q,Po.mpr ⟨m,by simp [dw];lia⟩,e⟩
theorem sd:∀ ps:List Tri,ps.filterMap (fun p=>if p.2.1 <= p.2.2 then some (eD p) else none) = (ps.filter dw).map eD
 | []=>rfl
 | p :: t=>by
  rw [Pc,P6,sd t]
  by_cases h:p.2.1 <= p.2.2
  ·simp [dw,h]
  ·simp [dw,h]
theorem Aq (ps:List Tri):bV (a8 (ao (ag 0) (ao (ag 1) (ao (ag 2) bd)))) (xB (xOp dLe (aj 1) (aj 2))) (bq (ad (aA 0) (ad (aA 1) (ad (aA 2) av)))) [.un,.un,.un] (ps.map eD) = some ((ps.filter dw).map eD):=by
 rw [eG eD (fun p=>if p.2.1 <= p.2.2 then some (eD p) else none) ps,sd]
 intro p _
 by_cases h:p.2.1 <= p.2.2 <;> simp [gK,h]
noncomputable def jS (gs:Pic) (t:Tri):Pic:=match gs.getLast? with
 | none=>[(t.1,[t.2])]
 | some g=>if g.1 = t.1 then gs.dropLast ++ [(g.1,g.2 ++ [t.2])] else gs ++ [(t.1,[t.2])]
theorem Dg (t:Tri):jS [] t = [(t.1,[t.2])]:=rfl
theorem mF (gs:Pic) (g:Int × R) (t:Tri):jS (gs ++ [g]) t = if g.1 = t.1 then gs ++ [(g.1,g.2 ++ [t.2])] else gs ++ [g] ++ [(t.1,[t.2])]:=by
 unfold jS
 simp
noncomputable def eK (ts:List Tri):Pic:=ts.foldl jS []
theorem sf (pre:List Tri) (t:Tri):eK (pre ++ [t]) = jS (eK pre) t:=by
 unfold eK
 rw [Q7]
 rfl
structure GOk (gs:Pic) (ts:List Tri):Prop where
 ne:∀ g ∈ gs,g.2 ≠ [] /\ Ok g.2
 up:gs.Pairwise fun a b=>a.1 < b.1
 mem:∀ x y,mf gs x y ↔ j5 ts x y
 le:∀ g ∈ gs,∃ t ∈ ts,g.1 = t.1
 len:(gs.map fun g=>g.2.length).sum = ts.length
theorem ER {gs:Pic} {ts:List Tri} {t:Tri} (o:GOk gs ts) (ht:t.2.1 <= t.2.2) (hb:∀ s ∈ ts,s.1 <= t.1):GOk (jS gs t) (ts ++ [t]):=by
 have tm:∀ x y,j5 (ts ++ [t]) x y ↔ j5 ts x y \/ (t.1 = y /\ t.2.1 <= x /\ x <= t.2.2):=fun x y=>by
  rw [zT,D6]
  constructor
  ·rintro (h | h | ⟨_,h,_⟩)
   ·exact .inl h
   ·exact .inr h
   ·cases h
  ·rintro (h | h)
   ·exact .inl h
   ·exact .inr (.inl h)
 have okt:Ok [t.2]:=fun p hp=>by rw [OO.mp hp];exact ht
 rcases Qw gs with rfl | ⟨gs0,g,rfl⟩
 ·rw [Dg]
  have e0:ts = []:=QF.mp (by have:=o.len;simpa using this.symm)
  subst e0
  refine ⟨fun g hg=>?_,QT _ _,fun x y=>?_,fun g hg=>⟨t,by simp,by rw [OO.mp hg]⟩,by simp⟩
  ·rw [OO.mp hg];exact ⟨by simp,okt⟩
  ·rw [tm,bB,mem_cons]
   constructor
   ·rintro (⟨h1,h2 | h2⟩ | h)
    ·exact .inr ⟨h1,h2⟩
    ·exact (c5 _ h2).elim
    ·exact (iU _ _ h).elim
   ·rintro (⟨_,h,_⟩ | h)
    ·cases h
    ·exact .inl ⟨h.1,.inl h.2⟩
 ·rw [Qx] at *
  have up:=Pe.mp o.up
  rw [mF]
  have glast:g.1 <= t.1:=by
   obtain ⟨s,hs,e⟩:=o.le g (by simp)
   have:=hb s hs
   lia
  by_cases h:g.1 = t.1
  ·rw [OC h]
   refine ⟨fun q hq=>?_,?_,fun x y=>?_,fun q hq=>?_,?_⟩
   ·rcases OV.mp hq with hq | hq
    ·exact o.ne q (OY _ hq)
    ·rw [OO.mp hq]
     refine ⟨by simp,fun p hp=>?_⟩
     rcases OV.mp hp with hp | hp
     ·exact (o.ne g (by simp)).2 p hp
     ·exact okt p hp
   ·refine Pe.mpr ⟨up.1,QT _ _,fun a ha b hb=>?_⟩
    rw [OO.mp hb]
    exact up.2.2 a ha g (by simp)
   ·rw [tm,<- o.mem,kN,kN,bB,bB]
    dsimp only
    rw [mem_append,mem_cons]
    have n0:=iU x y
    have n1:=c5 x
    constructor
    ·rintro (k | ⟨k1,k2 | k2 | k2⟩ | k)
     ·exact .inl (.inl k)
     ·exact .inl (.inr (.inl ⟨k1,k2⟩))
     ·exact .inr ⟨by lia,k2⟩
     ·exact absurd k2 n1
     ·exact absurd k n0
    ·rintro ((k | ⟨k1,k2⟩ | k) | ⟨k1,k2⟩)
     ·exact .inl k
     ·exact .inr (.inl ⟨k1,.inl k2⟩)
     ·exact absurd k n0
     ·exact .inr (.inl ⟨by lia,.inr (.inl k2)⟩)
   ·rcases OV.mp hq with hq | hq
    ·obtain ⟨s,hs,e⟩:=o.le q (OY _ hq)
     exact ⟨s,OY _ hs,e⟩
    ·rw [OO.mp hq]
     exact ⟨t,by simp,h⟩
   ·have:=o.len
    simp only [Q1,List.sum_append,OQ,Qa,Q8,List.sum_nil,OM,OL,RQ] at this ⊢
    lia
  ·rw [OB h]
   refine ⟨fun q hq=>?_,?_,fun x y=>?_,fun q hq=>?_,?_⟩
   ·rcases OV.mp hq with hq | hq
    ·exact o.ne q hq
    ·rw [OO.mp hq];exact ⟨by simp,okt⟩
   ·refine Pe.mpr ⟨o.up,QT _ _,fun a ha b hb'=>?_⟩
    rw [OO.mp hb']
    rcases OV.mp ha with ha | ha
    ·have:=up.2.2 a ha g (by simp)
     dsimp only
     lia
    ·rw [OO.mp ha];dsimp only;lia
   ·rw [tm,<- o.mem,kN,bB]
    dsimp only
    rw [mem_cons]
    have n0:=iU x y
    have n1:=c5 x
    constructor
    ·rintro (k | ⟨k1,k2 | k2⟩ | k)
     ·exact .inl k
     ·exact .inr ⟨k1,k2⟩
     ·exact absurd k2 n1
     ·exact absurd k n0
    ·rintro (k | ⟨k1,k2⟩)
     ·exact .inl k
     ·exact .inr (.inl ⟨k1,.inl k2⟩)
   ·rcases OV.mp hq with hq | hq
    ·obtain ⟨s,hs,e⟩:=o.le q hq
     exact ⟨s,OY _ hs,e⟩
    ·rw [OO.mp hq]
     exact ⟨t,by simp,rfl⟩
   ·have:=o.len
    simp only [Q1,List.sum_append,OQ,Qa,Q8,List.sum_nil,OM,OL,RQ] at this ⊢
    lia
theorem yA:∀ (post pre:List Tri),(∀ t ∈ pre ++ post,t.2.1 <= t.2.2) -> (pre ++ post).Pairwise (fun p q=>p.1 <= q.1) -> GOk (eK pre) pre -> GOk (eK (pre ++ post)) (pre ++ post)
 | [],pre,_,_,o=>by rw [Pd];exact o
 | t :: post,pre,h1,h2,o=>by
  have e:pre ++ t :: post = (pre ++ [t]) ++ post:=by simp
  rw [e] at h1 h2 ⊢
  refine yA post (pre ++ [t]) h1 h2 ?_
  rw [sf]
  have h3:=Pe.mp h2
  have h4:=Pe.mp h3.1
  exact ER o (h1 t (by simp)) fun s hs=>h4.2.2 s hs t (by simp)
theorem vh {ts:List Tri} (h1:∀ t ∈ ts,t.2.1 <= t.2.2) (h2:ts.Pairwise fun p q=>p.1 <= q.1):GOk (eK ts) ts:=
 yA ts [] h1 h2 ⟨fun _ h=>(by cases h),.nil,fun x y=>⟨fun h=>(iU _ _ h).elim,fun ⟨_,h,_⟩=>by cases h⟩,fun _ h=>(by cases h),rfl⟩
noncomputable def cA (ts:List Tri):Pic:=(eK (fT (ts.filter dw))).map fun g=>(g.1,vP g.2)
theorem pY (ts:List Tri):GOk (eK (fT (ts.filter dw))) (fT (ts.filter dw)):=vh (fun t ht=>by
 have:=(gS _).mem_iff.mp ht
 simpa [dw] using (Po.mp this).2) (zL _)
theorem FY {ps:R} (h:ps ≠ []) (o:Ok ps):vP ps ≠ []:=fun e=>by
 cases ps with
 | nil=>exact h rfl
 | cons p ps=>
  have:=((hV (p :: ps)).2 p.1).mpr ((mem_cons ..).mpr (.inl ⟨Pi _,o p OI⟩))
  rw [e] at this
  exact c5 _ this
theorem kL (ts:List Tri):dB (cA ts) /\ ∀ x y,mf (cA ts) x y ↔ j5 ts x y:=by
 have o:=pY ts
 refine ⟨⟨fun q hq=>?_,?_⟩,fun x y=>?_⟩
 ·obtain ⟨g,hg,rfl⟩:=O1.mp hq
  obtain ⟨h1,h2⟩:=o.ne g hg
  exact ⟨(hV g.2).1,FY h1 h2⟩
 ·unfold cA
  rw [Ql]
  exact o.up
 ·rw [<- zU ts,<- D7 (gS _),<- o.mem]
  constructor
  ·rintro ⟨q,hq,e,hm⟩
   obtain ⟨g,hg,rfl⟩:=O1.mp hq
   exact ⟨g,hg,e,((hV g.2).2 x).mp hm⟩
  ·rintro ⟨g,hg,e,hm⟩
   exact ⟨_,O1.mpr ⟨g,hg,rfl⟩,e,((hV g.2).2 x).mpr hm⟩
noncomputable def aR (p:Pic):List Tri:=p.flatMap fun q=>q.2.map fun s=>(q.1,s)
theorem fw (q:Int × R) (p:Pic):aR (q :: p) = (q.2.map fun s=>(q.1,s)) ++ aR p:=rfl
theorem Gy (p:Pic) (x y:Int):j5 (aR p) x y ↔ mf p x y:=by
 constructor
 ·rintro ⟨t,ht,e,h⟩
  obtain ⟨q,hq,hs⟩:=Q9.mp ht
  obtain ⟨s,hs2,rfl⟩:=O1.mp hs
  exact ⟨q,hq,e,s,hs2,h⟩
 ·rintro ⟨q,hq,e,s,hs,h⟩
  exact ⟨(q.1,s),Q9.mpr ⟨q,hq,O1.mpr ⟨s,hs,rfl⟩⟩,e,h⟩
theorem mQ {ts:List Tri} {p:Pic} (c:dB p) (h:∀ x y,j5 ts x y ↔ mf p x y):cA ts = p:=
 Ct (kL ts).1 c fun x y=>((kL ts).2 x y).trans (h x y)
mutual
theorem yl:∀ (n:Nat) (d:D),okD n d = true -> eqD d d = true
 | _,.non,_=>by simp [eqD]
 | _,.bl _,_=>by simp [eqD]
 | _,.int _,_=>by simp [eqD]
 | _,.str _,_=>by simp [eqD]
 | 0,.lst _,h=>by simp [okD] at h
 | n + 1,.lst l,h=>by rw [eqD];exact eqDs_refl n l (by simpa [okD] using h)
 | 0,.tup _,h=>by simp [okD] at h
 | n + 1,.tup l,h=>by rw [eqD];exact eqDs_refl n l (by simpa [okD] using h)
 | 0,.mtp _,h=>by simp [okD] at h
 | n + 1,.mtp l,h=>by rw [eqD];exact eqDs_refl n l (by simpa [okD] using h)
 | n,.ty _,h=>by cases n <;> simp [okD] at h
 | n,.scr _,h=>by cases n <;> simp [okD] at h
 | n,.ins _ _ _,h=>by cases n <;> simp [okD] at h
 | n,.dic _,h=>by cases n <;> simp [okD] at h
theorem eqDs_refl:∀ (n:Nat) (l:List D),okDs n l = true -> eqDs l l = true
 | _,[],_=>by simp [eqDs]
 | n,d :: l,h=>by
  rw [okDs,PH] at h
  rw [eqDs,yl n d h.1,eqDs_refl n l h.2]
  rfl
end
theorem sR {α:Type} {n:Nat} {f:α -> D}:∀ (l:List α),(∀ a ∈ l,okD n (f a) = true) -> okDs n (l.map f) = true
 | [],_=>by simp [okDs]
 | a :: l,h=>by rw [OQ,okDs,h a OI,sR l fun b hb=>h b (OK _ hb)];rfl
theorem nj {d:D} (neg:Bool) (h:okD 50 d = true):dEq neg d d = some (.bl (!neg)):=by
 unfold dEq
 rw [OC ⟨h,h⟩,yl 50 d h]
 cases neg <;> rfl
theorem HH (p:Pic):okD 50 (dH p) = true:=by
 rw [okD]
 refine sR p fun q _=>?_
 simp only [okD,okDs]
 rw [nM 46 q.2]
 rfl
noncomputable def grO (g:Int × R):O:=.tup [.sh (.int g.1),.lst (g.2.map (O.sh ∘ prD))]
noncomputable def grD (g:Int × R):D:=.tup [.int g.1,Dy g.2]
theorem K5 (g:Int × R):(grO g).d = grD g:=by simp [grO,grD]
theorem IE:∀ gs:Pic,O.ds (gs.map grO) = gs.map grD
 | []=>by simp
 | g :: gs=>by rw [OQ,CY,K5,IE gs];rfl
theorem Df (gs:Pic) (t:Tri):(jS gs t).length <= gs.length + 1:=by
 rcases Qw gs with rfl | ⟨gs0,g,rfl⟩
 ·simp [jS]
 ·rw [Qx,mF]
  split <;> simp
theorem vg:∀ ts:List Tri,(eK ts).length <= ts.length:=by
 intro ts
 have key:∀ (l:List Tri) (gs:Pic),(l.foldl jS gs).length <= gs.length + l.length:=by
  intro l
  induction l with
  | nil=>intro gs;simp
  | cons t l ih=>
   intro gs
   have h1:=ih (jS gs t)
   have h2:=Df gs t
   rw [O5,OL]
   lia
 have:=key ts []
 unfold eK
 simpa using this
theorem xl (s0:Sl) (gs:Pic) (t:Tri) (h:gs.length <= 30000) (hg:∀ g ∈ gs,g.2.length <= 30000):cB [s0,.ow (.lst (gs.map grO)),.sh (.int t.1),.sh (.int t.2.1),.sh (.int t.2.2)] = some (.nx [s0,.ow (.lst ((jS gs t).map grO)),.sh (.int t.1),.sh (.int t.2.1),.sh (.int t.2.2)]):=by
 rcases Qw gs with rfl | ⟨gs0,g,rfl⟩
 ·simp [cB,jS,grO]
 ·rw [Qx] at *
  rw [mF]
  have hl:gs0.length + 1 <= 30000:=by simpa using h
  have hlim:gs0.length + 1 < LIM:=fD (by lia)
  have hg2:g.2.length < LIM:=fD (by have:=hg g (by simp);lia)
  by_cases hc:g.1 = t.1
  ·simp [cB,hc,hg2,grO]
  ·simp [cB,hc,hlim,grO]
theorem mM:∀ {l:List Nat} {n:Nat},n ∈ l -> n <= l.sum
 | [],_,h=>by cases h
 | m :: l,n,h=>by
  rw [Q8]
  rcases OP.mp h with rfl | h
  ·lia
  ·have:=mM h;lia
theorem qE (ts:List Tri) (h:ts.length < 30000):cc [.lst (ts.map eD)] = some (dH (cA ts)):=by
 have hf:=Rt dw ts
 have hs:=(gS (ts.filter dw)).length_eq
 have og:=pY ts
 have key:∃ ρ',c0 (a8 (ao (ag 2) (ao (ag 3) (ao (ag 4) bd)))) cB ((fT (ts.filter dw)).map eD) [.sh (.lst (ts.map eD)),.ow (.lst []),.un,.un,.un] = some (.nx ρ') /\ ∃ va vb vc,ρ' = [.sh (.lst (ts.map eD)),.ow (.lst ((eK (fT (ts.filter dw))).map grO)),va,vb,vc]:=by
  refine bH eD (fun pre ρ=>∃ va vb vc,ρ = [.sh (.lst (ts.map eD)),.ow (.lst ((eK pre).map grO)),va,vb,vc]) _ _ ⟨_,_,_,rfl⟩ ?_
  rintro pre t post _ e ⟨va,vb,vc,rfl⟩
  have hp:pre.length <= 30000:=by
   have:=OZ List.length e
   rw [OM] at this
   lia
  have gl:=vg pre
  have gp:GOk (eK pre) pre:=by
   refine vh (fun s hs=>?_) ?_
   ·have:=(gS _).mem_iff.mp (show s ∈ fT (ts.filter dw) by rw [e];simp [hs])
    simpa [dw] using (Po.mp this).2
   ·have:=zL (ts.filter dw)
    rw [e] at this
    exact (Pe.mp this).1
  have gg:∀ g ∈ eK pre,g.2.length <= 30000:=fun g hg=>by
   have h1:=gp.len
   have h2:g.2.length <= ((eK pre).map fun g=>g.2.length).sum:=mM (O1.mpr ⟨g,hg,rfl⟩)
   lia
  refine ⟨_,_,rfl,.inl (xl _ (eK pre) t (by lia) gg),.sh (.int t.1),.sh (.int t.2.1),.sh (.int t.2.2),by rw [sf]⟩
 obtain ⟨ρ',k1,va,vb,vc,rfl⟩:=key
 have hc:=Aq ts
 have hb:=wv (ts.filter dw) (by lia)
 have hl:ts.length <= LIM:=aS (by lia)
 have gl:=vg (fT (ts.filter dw))
 have hl2:(eK (fT (ts.filter dw))).length <= LIM:=aS (by lia)
 have c2:bV (a8 (ao (ag 0) (ao (ag 1) bd))) eT (bq (ad (aA 0) (ad (bt fS (ad (aA 1) av)) av))) [.un,.un] ((eK (fT (ts.filter dw))).map grD) = some ((cA ts).map pyD):=by
  rw [cV grD (fun g=>pyD (g.1,vP g.2))]
  ·unfold cA
   rw [O7]
   rfl
  ·intro g hg
   have h1:g.2.length < 30000:=by
    have h2:g.2.length <= ((eK (fT (ts.filter dw))).map fun g=>g.2.length).sum:=mM (O1.mpr ⟨g,hg,rfl⟩)
    have:=og.len
    lia
   have h3:=yN g.2 h1
   simp [gK,grD,h3]
 simp [cc,iB,fnO,jd,hl,hc,hb,k1,frz,IE,hl2,c2]
theorem nX (p q:Pic):aR (p ++ q) = aR p ++ aR q:=by unfold aR;rw [List.flatMap_append]
theorem uN {p:Pic} {q:Int × R} (h:q ∈ p):q.2.length <= (aR p).length:=by
 induction p with
 | nil=>cases h
 | cons s p ih=>
  rw [fw,OM,OJ]
  rcases OP.mp h with rfl | h
  ·lia
  ·have:=ih h;lia
theorem mO (p:Pic) (h:(aR p).length <= 100000):dS [dH p] = some (.lst ((aR p).map (O.sh ∘ eD))):=by
 obtain ⟨ρ',k1,v2,v3,rfl⟩:=bH (g:=a8 (ao (ag 2) (ao (ag 3) bd))) (m:=eY) pyD (fun pre ρ=>∃ v2 v3,ρ = [.sh (dH p),.ow (.lst ((aR pre).map (O.sh ∘ eD))),v2,v3]) p [.sh (dH p),.ow (.lst []),.un,.un] ⟨_,_,rfl⟩ (by
  rintro pre q post _ e ⟨v2,v3,rfl⟩
  have hlen:(aR pre).length + q.2.length <= 100000:=by
   rw [e,nX,fw,OM,OM,OJ] at h
   lia
  have hl:(aR pre).length + q.2.length <= LIM:=aS hlen
  have hl2:q.2.length <= LIM:=aS (by lia)
  have hc:bV (a8 (ao (ag 0) (ao (ag 1) bd))) eT (bq (ad (aA 2) (ad (aA 0) (ad (aA 1) av)))) [.un,.un,.sh (.int q.1)] (q.2.map prD) = some (q.2.map fun s=>eD (q.1,s)):=cV prD _ q.2 fun s _=>by simp [gK]
  refine ⟨_,[.sh (dH p),.ow (.lst ((aR (pre ++ [q])).map (O.sh ∘ eD))),.sh (.int q.1),.sh (HW q.2)],rfl,.inl ?_,_,_,rfl⟩
  have es:aR (pre ++ [q]) = aR pre ++ q.2.map fun s=>(q.1,s):=by rw [nX,fw];simp [aR]
  rw [es]
  simp [eY,hl,hl2,hc])
 simp [dS,fnO,gq,k1]
theorem nK (p:Pic) (h:(aR p).length <= 100000):bM [dH p] = some (.lst ((aR p).map eD)):=by
 unfold bM
 rw [mO p h]
 simp
theorem sH (r:R) (h:r.length <= 30000):cK [HW r] = some (.int (pJ r)):=by
 have hl:r.length <= LIM:=aS (by lia)
 have hc:bV (a8 (ao (ag 0) (ao (ag 1) bd))) eT (xOp dF (xOp yd (aj 1) (aj 0)) (xC (.int 1))) [.un,.un] (r.map prD) = some (r.map fun p=>.int (p.2 - p.1 + 1)):=cV prD _ r fun p _=>by simp [gK]
 have hi:t9 [.lst (r.map fun p=>.int (p.2 - p.1 + 1))] = some (.int (pJ r)):=by
  have e:(r.map fun p=>D.int (p.2 - p.1 + 1)) = (r.map fun p=>p.2 - p.1 + 1).map D.int:=by rw [O7];rfl
  rw [e]
  show (aJ _).map _ = _
  rw [fR]
  rfl
 simp [cK,jD,fnO,ki,hl,hc,hi]
noncomputable def cnt (p:Pic):Int:=(p.map fun q=>pJ q.2).sum
noncomputable def uO (ts:List Tri):Int:=(ts.map fun t=>t.2.2 - t.2.1 + 1).sum
theorem oZ (p:Pic) (h:p.length <= 30000) (hr:∀ q ∈ p,q.2.length <= 30000):cm [dH p] = some (.int (cnt p)):=by
 have hl:p.length <= LIM:=aS (by lia)
 have hc:bV (a8 (ao (ag 0) (ao (ag 1) bd))) eT (bt cK (ad (aA 1) av)) [.un,.un] (p.map pyD) = some (p.map fun q=>.int (pJ q.2)):=cV pyD _ p fun q hq=>by
  have:=sH q.2 (hr q hq)
  simp [gK,this]
 have hi:t9 [.lst (p.map fun q=>.int (pJ q.2))] = some (.int (cnt p)):=by
  have e:(p.map fun q=>D.int (pJ q.2)) = (p.map fun q=>pJ q.2).map D.int:=by rw [O7];rfl
  rw [e]
  show (aJ _).map _ = _
  rw [fR]
  rfl
 simp [cm,gJ,fnO,ir,hl,hc,hi]
theorem zN (a b:List Tri):uO (a ++ b) = uO a + uO b:=by unfold uO;rw [Q1,List.sum_append]
theorem D4 (t:Tri) (b:List Tri):uO (t :: b) = t.2.2 - t.2.1 + 1 + uO b:=by unfold uO;rw [OQ,Q8]
theorem wC:∀ p:Pic,cnt p = uO (aR p)
 | []=>rfl
 | q :: p=>by
  rw [fw,zN,<- wC p]
  unfold cnt
  rw [OQ,Q8]
  congr 1
  unfold uO pJ
  rw [O7]
  rfl
noncomputable def zs (lo:Int):Nat -> List Int
 | 0=>[]
 | n + 1=>lo :: zs (lo + 1) n
theorem yB:∀ (n:Nat) (lo:Int),fQ lo n = (zs lo n).map D.int
 | 0,_=>rfl
 | n + 1,lo=>by rw [fQ,zs,OQ,yB n]
theorem BH:∀ (n:Nat) (lo:Int),(zs lo n).length = n
 | 0,_=>rfl
 | n + 1,lo=>by rw [zs,OL,BH n]
theorem o4:∀ (n:Nat) (lo x:Int),x ∈ zs lo n ↔ lo <= x /\ x < lo + n
 | 0,lo,x=>by simp [zs]
 | n + 1,lo,x=>by
  rw [zs,OP,o4 n]
  lia
noncomputable def eF (t:Tri):R:=(zs t.2.1 (t.2.2 + 1 - t.2.1).toNat).map fun x=>(x,t.1)
noncomputable def aL (ts:List Tri):R:=ts.flatMap eF
theorem lP (a b:List Tri):aL (a ++ b) = aL a ++ aL b:=by unfold aL;rw [List.flatMap_append]
theorem fL (t:Tri) (b:List Tri):aL (t :: b) = eF t ++ aL b:=rfl
theorem mr (t:Tri):(eF t).length = (t.2.2 + 1 - t.2.1).toNat:=by unfold eF;rw [OJ,BH]
theorem mq:∀ ts:List Tri,(∀ t ∈ ts,t.2.1 <= t.2.2) -> ((aL ts).length:Int) = uO ts
 | [],_=>rfl
 | t :: ts,h=>by
  rw [fL,OM,D4,mr]
  have h1:=mq ts fun s hs=>h s (OK _ hs)
  have h2:=h t OI
  lia
theorem AW (ts:List Tri) (x y:Int):(x,y) ∈ aL ts ↔ j5 ts x y:=by
 unfold aL
 rw [Q9]
 constructor
 ·rintro ⟨t,ht,h⟩
  obtain ⟨z,hz,e⟩:=O1.mp h
  cases e
  have:=(o4 _ _ _).mp hz
  exact ⟨t,ht,rfl,by lia,by lia⟩
 ·rintro ⟨t,ht,h1,h2,h3⟩
  exact ⟨t,ht,O1.mpr ⟨x,(o4 _ _ _).mpr ⟨h2,by lia⟩,by rw [h1]⟩⟩
theorem tO {p:Pic} (c:dB p):∀ t ∈ aR p,t.2.1 <= t.2.2:=fun t ht=>by
 obtain ⟨q,hq,h⟩:=Q9.mp ht
 obtain ⟨s,hs,rfl⟩:=O1.mp h
 exact (c.1 q hq).1.1 s hs
theorem sM (p:Pic) (c:dB p) (hc:cnt p <= 1000) (h:(aR p).length <= 30000) (h1:p.length <= 30000) (hr:∀ q ∈ p,q.2.length <= 30000):ic [dH p] = some (.lst ((aL (aR p)).map (O.sh ∘ prD))):=by
 have a1:=oZ p h1 hr
 have a2:=nK p (by lia)
 have hg:=tO c
 have tl:((aL (aR p)).length:Int) <= 1000:=by rw [mq _ hg,<- wC];exact hc
 have n1:¬ (1000 < cnt p):=by lia
 obtain ⟨ρ',k1,v2,v3,v4,rfl⟩:=bH (g:=a8 (ao (ag 2) (ao (ag 3) (ao (ag 4) bd)))) (m:=i6) eD (fun pre ρ=>∃ v2 v3 v4,ρ = [.sh (dH p),.ow (.lst ((aL pre).map (O.sh ∘ prD))),v2,v3,v4]) (aR p) [.sh (dH p),.ow (.lst []),.un,.un,.un] ⟨_,_,_,rfl⟩ (by
  rintro pre t post _ e ⟨v2,v3,v4,rfl⟩
  have hlen:(aL pre).length + (eF t).length <= 1000:=by
   rw [e,lP,fL,OM,OM] at tl
   lia
  have hl:(aL pre).length + (eF t).length <= LIM:=aS (by lia)
  have hl2:(eF t).length <= LIM:=aS (by lia)
  have hr:Kg [.int t.2.1,.int (t.2.2 + 1)] = some ((zs t.2.1 (t.2.2 + 1 - t.2.1).toNat).map D.int):=by rw [Kg,yB]
  have hz:(zs t.2.1 (t.2.2 + 1 - t.2.1).toNat).length <= LIM:=by rw [BH,<- mr];exact hl2
  have hcm:bV (ag 0) eT (bq (ad (aA 0) (ad (aA 1) av))) [.un,.sh (.int t.1)] ((zs t.2.1 (t.2.2 + 1 - t.2.1).toNat).map D.int) = some ((eF t).map prD):=by
   rw [cV D.int (fun x=>prD (x,t.1))]
   ·unfold eF
    rw [O7]
    rfl
   ·intro x _
    simp [gK]
  refine ⟨_,[.sh (dH p),.ow (.lst ((aL (pre ++ [t])).map (O.sh ∘ prD))),.sh (.int t.1),.sh (.int t.2.1),.sh (.int t.2.2)],rfl,.inl ?_,_,_,_,rfl⟩
  have es:aL (pre ++ [t]) = aL pre ++ eF t:=by rw [lP,fL];simp [aL]
  rw [es]
  simp [i6,hl,hl2,hr,hz,hcm])
 simp [ic,fnO,mh,a1,a2,n1,k1]
theorem ur (p:Pic) (c:dB p) (hc:cnt p <= 1000) (h:(aR p).length <= 30000) (h1:p.length <= 30000) (hr:∀ q ∈ p,q.2.length <= 30000):cj [dH p] = some (.lst ((aL (aR p)).map prD)):=by
 unfold cj
 rw [sM p c hc h h1 hr]
 simp
def Sep (s t:Tri):Prop:=s.1 < t.1 \/ (s.1 = t.1 /\ s.2.2 + 2 <= t.2.1)
theorem Gq:∀ {p:Pic},dB p -> (aR p).Pairwise Sep
 | [],_=>.nil
 | q :: p,c=>by
  obtain ⟨⟨h1,_⟩,h2,h3⟩:=pcanon_cons.mp c
  rw [fw]
  refine Pe.mpr ⟨?_,Gq h3,fun s hs t ht=>?_⟩
  ·rw [Ql]
   exact h1.2.imp fun h=>.inr ⟨rfl,h⟩
  ·obtain ⟨a,_,rfl⟩:=O1.mp hs
   obtain ⟨g,hg,hb⟩:=Q9.mp ht
   obtain ⟨b,_,rfl⟩:=O1.mp hb
   exact .inl (h2 g hg)
theorem Aa:∀ (n:Nat) (lo:Int),(zs lo n).Nodup
 | 0,_=>.nil
 | n + 1,lo=>by
  rw [zs]
  refine O4.mpr ⟨fun z=>?_,Aa n _⟩
  have:=(o4 n (lo + 1) lo).mp z
  lia
theorem wB (t:Tri):(eF t).Nodup:=by
 unfold eF
 exact List.Pairwise.map _ (fun a b h e=>h (by injection e)) (Aa _ _)
theorem sI (t:Tri) (c:Int × Int):c ∈ eF t ↔ c.2 = t.1 /\ t.2.1 <= c.1 /\ c.1 <= t.2.2:=by
 unfold eF
 rw [O1]
 constructor
 ·rintro ⟨x,hx,rfl⟩
  have:=(o4 _ _ _).mp hx
  refine ⟨rfl,?_⟩
  dsimp only
  lia
 ·rintro ⟨h1,h2,h3⟩
  exact ⟨c.1,(o4 _ _ _).mpr (by lia),by rw [<- h1]⟩
theorem pI:∀ ts:List Tri,ts.Pairwise Sep -> (aL ts).Nodup
 | [],_=>.nil
 | t :: ts,h=>by
  obtain ⟨h1,h2⟩:=Qu.mp h
  rw [fL]
  refine PP.mpr ⟨wB t,pI ts h2,fun a ha b hb e=>?_⟩
  subst e
  have a1:=(sI t a).mp ha
  obtain ⟨s,hs,hb⟩:=Q9.mp hb
  have a2:=(sI s a).mp hb
  rcases h1 s hs with z | z <;> lia
theorem jE {p:Pic} (c:dB p):(aL (aR p)).Nodup:=pI _ (Gq c)
@[simp] theorem MT (l:List D):Gd (.mtp l) = some l:=rfl
@[simp] theorem NC (y:XGs) (l:List D) (ρ:M.Env):a8 y (.mtp l) ρ = y l ρ:=rfl
noncomputable abbrev Ir (t:Tri):D:=.mtp [.int t.1,.int t.2.1,.int t.2.2]
noncomputable def roundL:List Tri:=[(0,-1,1),(-1,-1,2),(-1,0,4),(-1,1,8),(0,1,16),(1,1,32),(1,0,64),(1,-1,128)]
noncomputable def GJ (b:Int -> Int -> Bool) (l:List Tri):Int:=(l.map fun t=>if b t.1 t.2.1 then t.2.2 else 0).sum
theorem CP (b:Int -> Int -> Bool):∀ l:List Tri,((l.filter fun t=>b t.1 t.2.1).map fun t=>t.2.2).sum = GJ b l
 | []=>rfl
 | t :: l=>by
  have ih:=CP b l
  unfold GJ at ih ⊢
  rw [P6]
  cases h:b t.1 t.2.1 <;> simp [h,ih]
theorem EJ (b:Int -> Int -> Bool):∀ l:List Tri,l.filterMap (fun t=>if b t.1 t.2.1 then some (D.int t.2.2) else none) = ((l.filter fun t=>b t.1 t.2.1).map fun t=>t.2.2).map D.int
 | []=>rfl
 | t :: l=>by
  rw [Pc,P6,EJ b l]
  cases h:b t.1 t.2.1 <;> simp
noncomputable def strL:List Nat:=[1,4,16,64]
noncomputable def CL (n w:Nat):Bool:=(n &&& w == 0) && !((n + 256 * n) &&& (2 * w + 4 * w) == 0)
noncomputable def tR (n:Nat):Nat:=(strL.filter (CL n)).length
noncomputable def rndL:List Nat:=[1,2,4,8,16,32,64,128]
noncomputable def oD (n:Nat):Nat:=(rndL.filter fun w=>!(n &&& w == 0)).length
theorem GF (i j:Nat):yc (.int (i:Int)) (.int (j:Int)) = some (.int ((i &&& j:Nat):Int)):=by
 show ifC _ _ _ = _
 rw [ga (by lia)]
 simp
theorem ve (b:Nat -> Bool) (f:Nat -> D):∀ l:List Nat,l.filterMap (fun w=>if b w then some (f w) else none) = (l.filter b).map f
 | []=>rfl
 | w :: l=>by
  rw [Pc,P6,ve b f l]
  cases h:b w <;> simp
theorem AU (n:Nat):jB [.int (n:Int)] = some (.int (tR n:Nat)):=by
 have hm:jo (.int 256) (.int (n:Int)) = some (.int (256 * (n:Int))):=BC (by lia)
 have hc:bV (ag 0) (xH (xB (xOp (dEq false) (xOp yc (aj 1) (aj 0)) (xC (.int 0)))) (xB (xOp (dEq true) (xOp yc (aj 2) (xOp dF (xOp jo (xC (.int 2)) (aj 0)) (xOp jo (xC (.int 4)) (aj 0)))) (xC (.int 0))))) (aA 0) [.un,.sh (.int (n:Int)),.sh (.int ((n:Int) + 256 * n))] (strL.map fun w:Nat=>D.int (w:Int)) = some ((strL.filter (CL n)).map fun w:Nat=>D.int (w:Int)):=by
  rw [<- ve]
  refine eG (fun w:Nat=>D.int (w:Int)) _ strL fun w hw=>?_
  have h1:=GF n w
  have h2:=GF (n + 256 * n) (2 * w + 4 * w)
  have e1:(((n + 256 * n:Nat)):Int) = (n:Int) + 256 * n:=by lia
  have e2:(((2 * w + 4 * w:Nat)):Int) = 2 * (w:Int) + 4 * w:=by lia
  rw [e1,e2] at h2
  have h3:jo (.int 2) (.int (w:Int)) = some (.int (2 * (w:Int))):=BC (by lia)
  have h4:jo (.int 4) (.int (w:Int)) = some (.int (4 * (w:Int))):=BC (by lia)
  unfold CL
  by_cases c1:n &&& w = 0 <;> by_cases c2:(n + 256 * n) &&& (2 * w + 4 * w) = 0 <;> simp [gK,h1,h2,h3,h4,c1,c2] <;> lia
 have hl:4 <= LIM:=aS (by lia)
 have hs:[D.int 1,D.int 4,D.int 16,D.int 64] = strL.map fun w:Nat=>D.int (w:Int):=rfl
 generalize hz:(strL.filter (CL n)).map (fun w:Nat=>D.int (w:Int)) = zs at hc
 have hzl:(zs.length:Int) = (tR n:Nat):=by rw [<- hz,OJ];rfl
 simp [strL] at hc
 simp [jB,sN,fnO,wj,hm,hc,hl,hzl]
theorem nJ (n:Nat):bL [.int (n:Int)] = some (.int (oD n:Nat)):=by
 have hc:bV (a8 (ao (ag 0) (ao (ag 1) (ao (ag 2) bd)))) (xB (xOp (dEq true) (xOp yc (aj 3) (aj 2)) (xC (.int 0)))) (aA 2) [.un,.un,.un,.sh (.int (n:Int))] (roundL.map Ir) = some ((roundL.filter fun t=>!(n &&& t.2.2.toNat == 0)).map fun t=>D.int t.2.2):=by
  have:(roundL.filter fun t=>!(n &&& t.2.2.toNat == 0)).map (fun t=>D.int t.2.2) = roundL.filterMap fun t=>if n &&& t.2.2.toNat = 0 then none else some (D.int t.2.2):=by
   generalize roundL = l
   induction l with
   | nil=>rfl
   | cons t l ih=>
    rw [Pc,P6,<- ih]
    by_cases h:n &&& t.2.2.toNat = 0 <;> simp [h]
  rw [this]
  refine eG Ir _ roundL fun t ht=>?_
  have hp:0 <= t.2.2:=by
   simp only [roundL,OP,Rs,or_false] at ht
   rcases ht with rfl | rfl | rfl | rfl | rfl | rfl | rfl | rfl <;> decide
  have h1:=GF n t.2.2.toNat
  rw [Int.toNat_of_nonneg hp] at h1
  by_cases c:n &&& t.2.2.toNat = 0 <;> simp [gK,h1,c] <;> lia
 have hl:8 <= LIM:=aS (by lia)
 have hz:((roundL.filter fun t=>!(n &&& t.2.2.toNat == 0)).map fun t=>D.int t.2.2).length = oD n:=by
  rw [OJ]
  have:rndL = roundL.map fun t=>t.2.2.toNat:=rfl
  unfold oD
  rw [this,List.filter_map,OJ]
  rfl
 generalize ((roundL.filter fun t=>!(n &&& t.2.2.toNat == 0)).map fun t=>D.int t.2.2) = zs at hc hz
 have hz2:(zs.length:Int) = (oD n:Nat):=by rw [hz]
 simp [roundL] at hc
 simp [bL,fV,fnO,gn,hc,hl,hz2]
noncomputable def goB (n:Nat) (ends:Bool):Bool:=(tR n == 1) && (!ends || decide (2 <= oD n))
noncomputable abbrev kyC (c:Int × Int):List Int:=[c.1,c.2]
theorem Cb {c d:Int × Int} (h:kyC c = kyC d):c = d:=by
 obtain ⟨a,b⟩:=c
 obtain ⟨e,f⟩:=d
 simp at h
 obtain ⟨rfl,rfl⟩:=h
 rfl
theorem nG (ks:R) (c:Int × Int):(ks.map kyC).contains (kyC c) = decide (c ∈ ks):=by
 by_cases h:c ∈ ks
 ·rw [Pr h,Sj]
  exact O1.mpr ⟨c,h,rfl⟩
 ·rw [Pf h]
  cases q:(ks.map kyC).contains (kyC c) with
  | false=>rfl
  | true=>
   obtain ⟨u,hu,e⟩:=O1.mp (Sj.mp q)
   rw [Cb e] at hu
   exact absurd hu h
theorem sg (ks:R) (x y:Int):(ks.map kyC).contains [x,y] = decide ((x,y) ∈ ks):=nG ks (x,y)
theorem B0 (ks:R) (c:Int × Int):Ez (ks.map kyC) (kyC c) = (ks.filter fun d=>decide (d ≠ c)).map kyC:=by
 unfold Ez
 induction ks with
 | nil=>rfl
 | cons d l ih=>
  by_cases h:d = c
  ·subst h
   rw [OQ,Qt (by simp),Qt (by simp)]
   exact ih
  ·have hk:kyC d ≠ kyC c:=fun z=>h (Cb z)
   rw [OQ,P6,P6,OC (Pr hk),OC (Pr h),OQ,ih]
noncomputable def K9 (ks:R) (x y:Int):Int:=GJ (fun dx dy=>decide ((x + dx,y + dy) ∈ ks)) roundL
theorem CQ (b:Int -> Int -> Bool):∀ l:List Tri,(∀ t ∈ l,0 <= t.2.2) -> 0 <= GJ b l
 | [],_=>Pi _
 | t :: l,h=>by
  have ih:=CQ b l fun s hs=>h s (OK _ hs)
  have h1:=h t OI
  unfold GJ at *
  rw [OQ,Q8]
  split <;> lia
noncomputable def DB (ks:R) (x y:Int):Nat:=(K9 ks x y).toNat
theorem JV (ks:R) (x y:Int):((DB ks x y:Nat):Int) = K9 ks x y:=Int.toNat_of_nonneg (CQ _ _ (by decide))
noncomputable def goF (ks:R) (e:Bool) (c:Int × Int):Bool:=goB (DB ks c.1 c.2) e
theorem Dz (ks:R) (x y:Int) (e:Bool):jz [.dif (ks.map kyC),.int x,.int y,.bl e] = some (.bl (goF ks e (x,y))):=by
 have hc:bV (a8 (ao (ag 0) (ao (ag 1) (ao (ag 2) bd)))) (xB (tX false (bq (ad (xOp dF (aj 4) (aj 0)) (ad (xOp dF (aj 5) (aj 1)) av))) 3)) (aA 2) [.un,.un,.un,.sh (.dif (ks.map kyC)),.sh (.int x),.sh (.int y)] (roundL.map Ir) = some (((roundL.filter fun t=>decide ((x + t.1,y + t.2.1) ∈ ks)).map fun t=>t.2.2).map D.int):=by
  rw [<- EJ (fun dx dy=>decide ((x + dx,y + dy) ∈ ks)) roundL]
  refine eG Ir _ roundL fun t _=>?_
  have a:=sg ks (x + t.1) (y + t.2.1)
  have hl:2 <= LIM:=aS (by lia)
  by_cases hb:(x + t.1,y + t.2.1) ∈ ks
  ·rw [Pr hb] at a
   generalize ks.map kyC = kk at a ⊢
   simp at a
   simp [gK,hl,gB,kyD,aJ,a,hb]
  ·rw [Pf hb] at a
   generalize ks.map kyC = kk at a ⊢
   simp at a
   simp [gK,hl,gB,kyD,aJ,a,hb]
 have hi:t9 [.lst (((roundL.filter fun t=>decide ((x + t.1,y + t.2.1) ∈ ks)).map fun t=>t.2.2).map D.int)] = some (.int (DB ks x y:Nat)):=by
  show (aJ _).map _ = _
  rw [fR,JV]
  show some (D.int _) = _
  rw [CP (fun dx dy=>decide ((x + dx,y + dy) ∈ ks)) roundL]
  rfl
 have hl:8 <= LIM:=aS (by lia)
 generalize ((roundL.filter fun t=>decide ((x + t.1,y + t.2.1) ∈ ks)).map fun t=>t.2.2).map D.int = zs at hc hi
 simp only [roundL,OQ,Qa] at hc
 have h1:=AU (DB ks x y)
 have h2:=nJ (DB ks x y)
 unfold goF goB
 generalize DB ks x y = n at *
 by_cases c1:tR n = 1
 ·by_cases c2:2 <= oD n <;> cases e <;> simp [jz,qW,fnO,wg,hc,hi,hl,h1,h2,c1,c2] <;> lia
 ·have c1':¬ ((tR n:Nat):Int) = 1:=by lia
  cases e <;> simp [jz,qW,fnO,wg,hc,hi,hl,h1,h2,c1,c1']
noncomputable def bJ (ks:R) (dx dy:Int):R:=ks.filter fun c=>!decide ((c.1 + dx,c.2 + dy) ∈ ks)
theorem yp (b:Int × Int -> Bool):∀ l:R,l.filterMap (fun c=>if b c then some (prD c) else none) = (l.filter b).map prD
 | []=>rfl
 | c :: l=>by
  rw [Pc,P6,yp b l]
  cases b c <;> rfl
theorem qD (ks:R) (dx dy:Int) (h:ks.length <= 100000):bj [.dif (ks.map kyC),.int dx,.int dy] = some (.lst ((bJ ks dx dy).map prD)):=by
 have hc:bV (a8 (ao (ag 0) (ao (ag 1) bd))) (xB (tX true (bq (ad (xOp dF (aj 0) (aj 3)) (ad (xOp dF (aj 1) (aj 4)) av))) 2)) (bq (ad (aA 0) (ad (aA 1) av))) [.un,.un,.sh (.dif (ks.map kyC)),.sh (.int dx),.sh (.int dy)] (ks.map prD) = some ((bJ ks dx dy).map prD):=by
  unfold bJ
  rw [<- yp]
  refine eG prD _ ks fun c _=>?_
  have a:=sg ks (c.1 + dx) (c.2 + dy)
  have hl:2 <= LIM:=aS (by lia)
  by_cases hb:(c.1 + dx,c.2 + dy) ∈ ks
  ·rw [Pr hb] at a
   generalize ks.map kyC = kk at a ⊢
   simp at a
   simp [gK,hl,gB,kyD,aJ,a,hb]
  ·rw [Pf hb] at a
   generalize ks.map kyC = kk at a ⊢
   simp at a
   simp [gK,hl,gB,kyD,aJ,a,hb]
 have hl:ks.length <= LIM:=aS h
 have e:(ks.map kyC).map (fun k=>D.tup (k.map D.int)) = ks.map prD:=by rw [O7];rfl
 simp [bj,iA,fnO,jc,e,hl,hc,O.d]
noncomputable def aY (e:Bool) (s:R × R) (c:Int × Int):R × R:=if goF s.2 e c then (s.1 ++ [c],s.2.filter fun d=>decide (d ≠ c)) else s
noncomputable def cG (e:Bool) (free ks:R):R × R:=free.foldl (aY e) ([],ks)
theorem pd (e:Bool) (s:R × R) (c d:Int × Int) (h:d ≠ c):d ∈ (aY e s c).2 ↔ d ∈ s.2:=by
 unfold aY
 split
 ·rw [Po]
  simp [h]
 ·exact PX
theorem yu (e:Bool) (d:Int × Int):∀ (pre:R) (s:R × R),d ∉ pre -> (d ∈ (pre.foldl (aY e) s).2 ↔ d ∈ s.2)
 | [],_,_=>PX
 | c :: pre,s,h=>by
  rw [O5,yu e d pre _ fun z=>h (OK _ z),pd e s c d fun z=>h (by rw [z];exact OI)]
theorem vF (e:Bool) (s:R × R) (c:Int × Int):(aY e s c).2.Sublist s.2:=by
 unfold aY
 split
 ·exact RX
 ·exact List.Sublist.refl _
theorem yw (e:Bool):∀ (pre:R) (s:R × R),(pre.foldl (aY e) s).2.Sublist s.2
 | [],_=>List.Sublist.refl _
 | c :: pre,s=>by rw [O5];exact (yw e pre _).trans (vF e s c)
theorem lV (c:Int × Int):∀ l:R,l.Nodup -> c ∈ l -> (l.filter fun d=>decide (d ≠ c)).length + 1 = l.length
 | [],_,h=>by cases h
 | d :: l,nd,h=>by
  obtain ⟨n1,n2⟩:=O4.mp nd
  by_cases e:d = c
  ·subst e
   rw [Qt (by simp),OL]
   have:l.filter (fun x=>decide (x ≠ d)) = l:=List.filter_eq_self.mpr fun y hy=>by
    simp only [ne_eq,decide_eq_true_eq]
    exact fun z=>n1 (by rw [<- z];exact hy)
   rw [this]
  ·rw [Q3 (by simpa using e),OL,OL,lV c l n2 ((OP.mp h).resolve_left fun z=>e z.symm)]
theorem yt (e:Bool):∀ (pre:R) (s:R × R),pre.Nodup -> s.2.Nodup -> (∀ c ∈ pre,c ∈ s.2) -> (pre.foldl (aY e) s).1.length + (pre.foldl (aY e) s).2.length = s.1.length + s.2.length
 | [],_,_,_,_=>rfl
 | c :: pre,s,nd,ns,h=>by
  obtain ⟨n1,n2⟩:=O4.mp nd
  rw [O5,yt e pre _ n2 ((vF e s c).nodup ns) fun d hd=>(pd e s c d fun z=>n1 (by rw [<- z];exact hd)).mpr (h d (OK _ hd))]
  unfold aY
  split
  ·have:=lV c s.2 ns (h c OI)
   show (s.1 ++ [c]).length + (s.2.filter fun d=>decide (d ≠ c)).length = _
   rw [OM,PU]
   lia
  ·rfl
theorem yv (e:Bool):∀ (pre:R) (s:R × R),(pre.foldl (aY e) s).1.length <= s.1.length + pre.length
 | [],_=>by simp
 | c :: pre,s=>by
  rw [O5]
  have:=yv e pre (aY e s c)
  have h2:(aY e s c).1.length <= s.1.length + 1:=by unfold aY;split <;> simp
  rw [OL]
  lia
theorem qF (p:Addr) (ks free:R) (e:Bool) (nf:free.Nodup) (hs:∀ c ∈ free,c ∈ ks) (hl:free.length <= 50000):eM p (ks.map kyC) [.lst (free.map prD),.bl e] = some (.lst ((cG e free ks).1.map (O.sh ∘ prD)),(cG e free ks).2.map kyC):=by
 obtain ⟨ρ',k1,v4,rfl⟩:=bH (g:=ag 4) (m:=ip) prD (fun pre ρ=>∃ v4:Sl,ρ = [.ow (.hd p ((pre.foldl (aY e) ([],ks)).2.map kyC) []),.sh (.lst (free.map prD)),.sh (.bl e),owl ((pre.foldl (aY e) ([],ks)).1.map prD),v4]) free [.ow (.hd p (ks.map kyC) []),.sh (.lst (free.map prD)),.sh (.bl e),.ow (.lst []),.un] ⟨.un,rfl⟩ fun pre c post ρ ef hpt0=>by
  obtain ⟨v4,hρ⟩:=hpt0
  subst hρ
  have hf:=yv e pre ([],ks)
  have hcp:c ∉ pre:=fun z=>by
   rw [ef] at nf
   exact (PP.mp nf).2.2 c z c OI rfl
  have hck:c ∈ (pre.foldl (aY e) ([],ks)).2:=(yu e c pre _ hcp).mpr (hs c (by rw [ef];exact OU _ OI))
  have hpl:pre.length < free.length:=by rw [ef,OM,OL];lia
  rw [Q7]
  show ∃ ρ1 ρ2,_ /\ _ /\ ∃ v4:Sl,ρ2 = [.ow (.hd p ((aY e (pre.foldl (aY e) ([],ks)) c).2.map kyC) []),_,_,owl ((aY e (pre.foldl (aY e) ([],ks)) c).1.map prD),v4]
  generalize pre.foldl (aY e) ([],ks) = s at *
  obtain ⟨t,kk⟩:=s
  dsimp only at hf hck ⊢
  have hg:=Dz kk c.1 c.2 e
  have hk:=nG kk c
  rw [Pr hck] at hk
  have hd:=B0 kk c
  have ht:t.length < LIM:=Pa (show t.length < 100000 by simp at hf;lia) (aS (OH _))
  unfold aY
  cases q:goF kk e c with
  | false=>
   refine ⟨_,_,rfl,.inl ?_,.sh (prD c),rfl⟩
   have q':goF kk e (c.1,c.2) = false:=q
   rw [q'] at hg
   simp [ip,hg,fZ]
  | true=>
   refine ⟨_,_,rfl,.inl ?_,.sh (prD c),rfl⟩
   have q':goF kk e (c.1,c.2) = true:=q
   rw [q'] at hg
   have hpop:z8 0 (aA 4) [.ow (.hd p (kk.map kyC) []),.sh (.lst (free.map prD)),.sh (.bl e),owl (t.map prD),.sh (prD c)] = some (.nx [.ow (.hd p ((kk.filter fun d=>decide (d ≠ c)).map kyC) []),.sh (.lst (free.map prD)),.sh (.bl e),owl (t.map prD),.sh (prD c)]):=by
    have hy:kyD (prD c) = some (kyC c):=rfl
    unfold z8 aA
    show (some (Sl.ow (.hd p (kk.map kyC) []))).bind _ = _
    dsimp only [Option.bind,List.getElem?_cons_succ,List.getElem?_cons_zero]
    rw [E7]
    dsimp only
    rw [hy]
    dsimp only
    rw [hk,OC rfl,hd]
    rfl
   have hif:lK (n8 0 (bt jz (ad (aA 0) (ad (xOp dIx (aj 4) (xC (.int 0))) (ad (xOp dIx (aj 4) (xC (.int 1))) (ad (aA 2) av)))))) [.ow (.hd p (kk.map kyC) []),.sh (.lst (free.map prD)),.sh (.bl e),owl (t.map prD),.sh (prD c)] = some true:=by simp [hg,fZ]
   show xIf _ _ _ [.ow (.hd p (kk.map kyC) []),.sh (.lst (free.map prD)),.sh (.bl e),owl (t.map prD),.sh (prD c)] = _
   unfold xIf
   rw [hif]
   dsimp only [Option.bind]
   rw [OC rfl,aI hpop]
   simp [ht]
 have hpf:cG e free ks = free.foldl (aY e) ([],ks):=rfl
 rw [hpf]
 generalize free.foldl (aY e) ([],ks) = s at *
 have hl0:(0:Nat) <= LIM:=Pl _
 simp [eM,fnH,kj,k1]
noncomputable def sideL:R:=[(0,-1),(-1,0),(0,1),(1,0)]
noncomputable def dt (e:Bool) (s:R × R) (d:Int × Int):R × R:=let r:=cG e (bJ s.2 d.1 d.2) s.2;(s.1 ++ r.1,r.2)
noncomputable def eS (e:Bool) (ks:R):R × R:=sideL.foldl (dt e) ([],ks)
theorem wM {ks:R} (n:ks.Nodup) (dx dy:Int):(bJ ks dx dy).Nodup:=RX.nodup n
theorem kD {ks:R} {dx dy:Int} {c:Int × Int} (h:c ∈ bJ ks dx dy):c ∈ ks:=(Po.mp h).1
theorem EM (ks:R) (dx dy:Int):(bJ ks dx dy).length <= ks.length:=Rt _ _
theorem ze (e:Bool) {free ks:R} (nf:free.Nodup) (nk:ks.Nodup) (hs:∀ c ∈ free,c ∈ ks):(cG e free ks).2.Nodup /\ (cG e free ks).1.length + (cG e free ks).2.length = ks.length:=
 ⟨(yw e free _).nodup nk,by have:=yt e free ([],ks) nf nk hs;unfold cG;simpa using this⟩
theorem Cy (e:Bool) (s:R × R) (d:Int × Int) (n:s.2.Nodup):(dt e s d).2.Nodup /\ (dt e s d).1.length + (dt e s d).2.length = s.1.length + s.2.length:=by
 have h:=ze e (wM n d.1 d.2) n fun c hc=>kD hc
 refine ⟨h.1,?_⟩
 show (s.1 ++ (cG e (bJ s.2 d.1 d.2) s.2).1).length + (cG e (bJ s.2 d.1 d.2) s.2).2.length = _
 rw [OM]
 lia
theorem xq (e:Bool):∀ (l:R) (s:R × R),s.2.Nodup -> (l.foldl (dt e) s).2.Nodup /\ (l.foldl (dt e) s).1.length + (l.foldl (dt e) s).2.length = s.1.length + s.2.length
 | [],_,n=>⟨n,rfl⟩
 | d :: l,s,n=>by
  rw [O5]
  have h:=Cy e s d n
  have ih:=xq e l (dt e s d) h.1
  exact ⟨ih.1,by rw [ih.2,h.2]⟩
theorem rc (e:Bool) {ks:R} (n:ks.Nodup):(eS e ks).2.Nodup /\ (eS e ks).1.length + (eS e ks).2.length = ks.length:=by
 have h:=xq e sideL ([],ks) n
 exact ⟨h.1,by have:=h.2;simpa [eS] using this⟩
noncomputable abbrev prM (p:Int × Int):D:=.mtp [.int p.1,.int p.2]
theorem vB:∀ l:R,noDics (l.map prD) = true
 | []=>by simp [noDics]
 | c :: l=>by rw [OQ,noDics,vB l];simp [fZ,noDics]
theorem o5 (p:Addr) (ks:R) (e:Bool) (n:ks.Nodup) (hl:ks.length <= 50000):fE p (ks.map kyC) [.bl e] = some (.lst ((eS e ks).1.map (O.sh ∘ prD)),(eS e ks).2.map kyC):=by
 obtain ⟨ρ',k1,v3,v4,rfl⟩:=bH (g:=a8 (ao (ag 3) (ao (ag 4) bd))) (m:=ka) prM (fun pre ρ=>∃ v3 v4:Sl,ρ = [.ow (.hd p ((pre.foldl (dt e) ([],ks)).2.map kyC) []),.sh (.bl e),owl ((pre.foldl (dt e) ([],ks)).1.map prD),v3,v4]) sideL [.ow (.hd p (ks.map kyC) []),.sh (.bl e),.ow (.lst []),.un,.un] ⟨.un,.un,rfl⟩ fun pre d post ρ ef hpt0=>by
  obtain ⟨v3,v4,hρ⟩:=hpt0
  subst hρ
  have hok:=xq e pre ([],ks) n
  rw [Q7]
  show ∃ ρ1 ρ2,_ /\ _ /\ ∃ v3 v4:Sl,ρ2 = [.ow (.hd p ((dt e (pre.foldl (dt e) ([],ks)) d).2.map kyC) []),_,owl ((dt e (pre.foldl (dt e) ([],ks)) d).1.map prD),v3,v4]
  generalize pre.foldl (dt e) ([],ks) = s at *
  obtain ⟨t,kk⟩:=s
  obtain ⟨nk,hlen⟩:=hok
  simp at hlen
  dsimp only at nk
  have hf:=qD kk d.1 d.2 (by lia)
  have nf:=wM nk d.1 d.2
  have fl:=EM kk d.1 d.2
  have hp:=fun q=>qF q kk (bJ kk d.1 d.2) e nf (fun c hc=>kD hc) (by lia)
  have hA:=B5 hp
  have pok:=ze e nf nk fun c hc=>kD hc
  refine ⟨_,[.ow (.hd p ((cG e (bJ kk d.1 d.2) kk).2.map kyC) []),.sh (.bl e),owl ((t ++ (cG e (bJ kk d.1 d.2) kk).1).map prD),.sh (.int d.1),.sh (.int d.2)],rfl,.inl ?_,_,_,rfl⟩
  have hL:t.length + (cG e (bJ kk d.1 d.2) kk).1.length <= LIM:=aS (by lia)
  have hnd:=vB (bJ kk d.1 d.2)
  have hm:n8 0 (bt bj (ad (aA 0) (ad (aA 3) (ad (aA 4) av)))) [.ow (.hd p (kk.map kyC) []),.sh (.bl e),owl (t.map prD),.sh (.int d.1),.sh (.int d.2)] = some (.lst ((bJ kk d.1 d.2).map prD)):=by
   simp [hf,fZ,hnd]
  generalize cG e (bJ kk d.1 d.2) kk = r at *
  show tW 2 0 eM (ad (n8 0 (bt bj (ad (aA 0) (ad (aA 3) (ad (aA 4) av))))) (ad (aA 1) av)) [.ow (.hd p (kk.map kyC) []),.sh (.bl e),owl (t.map prD),.sh (.int d.1),.sh (.int d.2)] = _
  have ha:ad (n8 0 (bt bj (ad (aA 0) (ad (aA 3) (ad (aA 4) av))))) (ad (aA 1) av) [.ow (.hd p (kk.map kyC) []),.sh (.bl e),owl (t.map prD),.sh (.int d.1),.sh (.int d.2)] = some [.lst ((bJ kk d.1 d.2).map prD),.bl e]:=by
   show Option.bind (n8 0 (bt bj (ad (aA 0) (ad (aA 3) (ad (aA 4) av)))) [.ow (.hd p (kk.map kyC) []),.sh (.bl e),owl (t.map prD),.sh (.int d.1),.sh (.int d.2)]) _ = _
   rw [hm]
   rfl
  unfold tW
  simp only [P5,Q5,Ra,E7,ha,hA]
  simp [hL]
 have hrf:eS e ks = sideL.foldl (dt e) ([],ks):=rfl
 rw [hrf]
 generalize sideL.foldl (dt e) ([],ks) = s at *
 simp only [sideL,OQ,Qa] at k1
 simp [fE,fnH,je,k1]
theorem G6 {a:XE} {b:XA} {ρ:M.Env} {x:D} {y:List D} (h:a ρ = some x) (k:b ρ = some y):ad a b ρ = some (x :: y):=by
 show Option.bind (a ρ) _ = _
 rw [h]
 show Option.bind (b ρ) _ = _
 rw [k]
 rfl
theorem Mv {e:XA} {ρ:M.Env} {l:List D} (h:e ρ = some l):xL e ρ = some (.lst l):=by unfold xL;rw [h];rfl
theorem G4 {m:List D -> Option D} {a:XA} {ρ:M.Env} {ds:List D} {d:D} (h:a ρ = some ds) (k:m ds = some d):bt m a ρ = some d:=by unfold bt;rw [h];exact k
noncomputable def cL (e:Bool):Nat -> R -> R -> R × R
 | 0,t,ks=>(t,ks)
 | n + 1,t,ks=>if (eS e ks).1 = [] then (t,ks) else cL e n (t ++ (eS e ks).1) (eS e ks).2
theorem pe (e:Bool):∀ (free:R) (s:R × R),(free.foldl (aY e) s).1 = s.1 -> (free.foldl (aY e) s).2 = s.2
 | [],_,_=>rfl
 | c :: l,s,h=>by
  rw [O5] at h ⊢
  have hl:∀ (l:R) (s:R × R),s.1.length <= (l.foldl (aY e) s).1.length:=fun l=>by
   induction l with
   | nil=>intro s;exact OH _
   | cons c l ih=>
    intro s
    rw [O5]
    refine OW ?_ (ih _)
    unfold aY
    split
    ·show s.1.length <= (s.1 ++ [c]).length;simp
    ·exact OH _
  cases q:goF s.2 e c with
  | false=>
   have e1:aY e s c = s:=by unfold aY;rw [q];rfl
   rw [e1] at h ⊢
   exact pe e l s h
  | true=>
   have e1:aY e s c = (s.1 ++ [c],s.2.filter fun d=>decide (d ≠ c)):=by unfold aY;rw [q];rfl
   have:=hl l (aY e s c)
   rw [h,e1] at this
   simp at this
   lia
theorem zw (e:Bool):∀ (l:R) (s:R × R),(l.foldl (dt e) s).1 = s.1 -> (l.foldl (dt e) s).2 = s.2
 | [],_,_=>rfl
 | d :: l,s,h=>by
  rw [O5] at h ⊢
  have hl:∀ (l:R) (s:R × R),∃ z,(l.foldl (dt e) s).1 = s.1 ++ z:=fun l=>by
   induction l with
   | nil=>intro s;exact ⟨[],by simp⟩
   | cons c l ih=>
    intro s
    rw [O5]
    obtain ⟨z,hz⟩:=ih (dt e s c)
    exact ⟨(cG e (bJ s.2 c.1 c.2) s.2).1 ++ z,by rw [hz];show s.1 ++ _ ++ z = _;rw [Pb]⟩
  obtain ⟨z,hz⟩:=hl l (dt e s d)
  have e1:(dt e s d).1 = s.1 ++ (cG e (bJ s.2 d.1 d.2) s.2).1:=rfl
  rw [h,e1,Pb] at hz
  have e2:(cG e (bJ s.2 d.1 d.2) s.2).1 = []:=by
   have:=List.self_eq_append_right.mp hz
   exact (List.append_eq_nil_iff.mp this).1
  have e3:(dt e s d).2 = s.2:=by
   show (cG e (bJ s.2 d.1 d.2) s.2).2 = s.2
   exact pe e _ ([],s.2) e2
  rw [zw e l (dt e s d) (by rw [h,e1,e2,Pd]),e3]
theorem FV {e:Bool} {ks:R} (h:(eS e ks).1 = []):(eS e ks).2 = ks:=zw e sideL ([],ks) h
theorem tT (d0:D) (e:Bool):∀ (n:Nat) (t ks:R) (tb:Int),ks.Nodup -> ks.length < n -> t.length + ks.length <= 50000 -> tb < t.length ->
  ∃ tb':Int,gZ c6 fJ [.sh d0,.sh (.bl e),.ow (.dic (ks.map kyC)),owl (t.map prD),.sh (.int tb)] = some (.nx [.sh d0,.sh (.bl e),.ow (.dic ((cL e n t ks).2.map kyC)),owl ((cL e n t ks).1.map prD),.sh (.int tb')])
 | 0,_,_,_,_,h,_,_=>by lia
 | n + 1,t,ks,tb,nk,hn,hl,htb=>by
  have hr:=B5 fun q=>o5 q ks e nk (by lia)
  have ok:=rc e nk
  have hL:t.length + (eS e ks).1.length <= LIM:=aS (by lia)
  have hC:c6 [.sh d0,.sh (.bl e),.ow (.dic (ks.map kyC)),owl (t.map prD),.sh (.int tb)] = some true:=by
   simp [c6]
   lia
  have hB:fJ [.sh d0,.sh (.bl e),.ow (.dic (ks.map kyC)),owl (t.map prD),.sh (.int tb)] = some (.nx [.sh d0,.sh (.bl e),.ow (.dic ((eS e ks).2.map kyC)),owl ((t ++ (eS e ks).1).map prD),.sh (.int (t.length:Nat))]):=by
   unfold fJ
   rw [aI (ρ':=[.sh d0,.sh (.bl e),.ow (.dic (ks.map kyC)),owl (t.map prD),.sh (.int (t.length:Nat))]) (by simp)]
   generalize eS e ks = r at *
   have ha:ad (aA 1) av [.sh d0,.sh (.bl e),.ow (.dic (ks.map kyC)),owl (t.map prD),.sh (.int (t.length:Nat))] = some [.bl e]:=rfl
   unfold tW
   simp only [P5,Q5,Ra,Ca,ha,hr]
   simp [hL]
  by_cases h0:(eS e ks).1 = []
  ·have h2:=FV h0
   rw [h0,h2,Pd] at hB
   have hE:c6 [.sh d0,.sh (.bl e),.ow (.dic (ks.map kyC)),owl (t.map prD),.sh (.int (t.length:Nat))] = some false:=by
    simp [c6]
   refine ⟨(t.length:Nat),?_⟩
   have e1:cL e (n + 1) t ks = (t,ks):=by rw [cL,OC h0]
   rw [e1]
   exact pZ hC hB (BG hE)
  ·have e1:cL e (n + 1) t ks = cL e n (t ++ (eS e ks).1) (eS e ks).2:=by rw [cL,OB h0]
   rw [e1]
   have hp:0 < (eS e ks).1.length:=List.length_pos_iff.mpr h0
   obtain ⟨tb',k⟩:=tT d0 e n (t ++ (eS e ks).1) (eS e ks).2 (t.length:Nat) ok.1 (by lia) (by rw [OM];lia) (by rw [OM];lia)
   exact ⟨tb',pZ hC hB k⟩
theorem zQ (e:Bool):∀ (n:Nat) (t ks:R),ks.Nodup -> (cL e n t ks).2.Nodup /\ (cL e n t ks).1.length + (cL e n t ks).2.length = t.length + ks.length
 | 0,_,_,n=>⟨n,rfl⟩
 | n + 1,t,ks,nk=>by
  rw [cL]
  split
  ·exact ⟨nk,rfl⟩
  ·have ok:=rc e nk
   have ih:=zQ e n (t ++ (eS e ks).1) (eS e ks).2 ok.1
   rw [OM] at ih
   exact ⟨ih.1,by lia⟩
noncomputable abbrev cT (c:Int × Int):Tri:=(c.2,c.1,c.1)
theorem yr:∀ (l acc:R),(acc ++ l).Nodup -> (l.map kyC).foldl p7 (acc.map kyC) = (acc ++ l).map kyC
 | [],acc,_=>by simp
 | c :: l,acc,n=>by
  have hc:c ∉ acc:=fun z=>(PP.mp n).2.2 c z c OI rfl
  rw [OQ,O5]
  have e1:p7 (acc.map kyC) (kyC c) = (acc ++ [c]).map kyC:=by
   unfold p7
   rw [nG,Pf hc,OB (by decide),Q1]
   rfl
  rw [e1,yr l (acc ++ [c]) (by simpa using n)]
  simp
theorem zd:∀ l:R,kK (l.map fun c=>D.tup [prD c,.bl true]) = some (l.map kyC)
 | []=>rfl
 | c :: l=>by
  rw [OQ,kK,zd l]
  rfl
theorem sO:∀ l:List Tri,noDics (l.map eD) = true
 | []=>by simp [noDics]
 | c :: l=>by rw [OQ,noDics,sO l];simp [fZ,noDics]
theorem ut (d0:D) (cs:R) (e:Bool) (hc:cj [d0] = some (.lst (cs.map prD))) (n:cs.Nodup) (hl:cs.length <= 20000) :
  cO [d0,.bl e] = some (.tup [.sh (dH (cA ((cL e (cs.length + 1) [] cs).2.map cT))),.lst ((cL e (cs.length + 1) [] cs).1.map (O.sh ∘ prD))]):=by
 have hL:cs.length <= LIM:=aS (by lia)
 have hL':cs.length < LIM:=Pa (show cs.length < 100000 by lia) (aS (OH _))
 have h2:2 <= LIM:=aS (by lia)
 have c1:bV (ag 0) eT (bq (ad (aA 0) (ad (xC (.bl true)) av))) [.un] (cs.map prD) = some (cs.map fun c=>D.tup [prD c,.bl true]):=cV prD _ cs fun c _=>by simp [gK,h2]
 have hd:xK (cH [none] (xIt (bt cj (ad (aA 0) av))) (ag 0) eT (bq (ad (aA 0) (ad (xC (.bl true)) av)))) [.sh d0,.sh (.bl e),.un,.un,.un] = some (.dic (cs.map kyC)):=by
  have hp:=zd cs
  have hf:=yr cs [] (by simpa using n)
  simp only [Qa,List.nil_append] at hf
  have hx:cH [none] (xIt (bt cj (ad (aA 0) av))) (ag 0) eT (bq (ad (aA 0) (ad (xC (.bl true)) av))) [.sh d0,.sh (.bl e),.un,.un,.un] = some (cs.map fun c=>D.tup [prD c,.bl true]):=by
   simp [hc,hL,c1]
  unfold xK
  rw [hx]
  dsimp only [Option.bind]
  rw [hp]
  dsimp only
  rw [OJ,OC hL',hf]
 obtain ⟨tb',hw⟩:=tT d0 e (cs.length + 1) [] cs (-1) n (QD _) (by simp;lia) (by simp)
 have ok:=zQ e (cs.length + 1) [] cs n
 generalize cL e (cs.length + 1) [] cs = r at *
 have hr2:r.2.length <= cs.length:=by have:=ok.2;simp at this;lia
 have hlr:r.2.length <= LIM:=aS (by lia)
 have h3:3 <= LIM:=aS (by lia)
 have ep:=qE (r.2.map cT) (by rw [OJ];lia)
 have ek:(r.2.map kyC).map (fun k=>D.tup (k.map D.int)) = r.2.map prD:=by rw [O7];rfl
 have c2:bV (a8 (ao (ag 0) (ao (ag 1) bd))) eT (bq (ad (aA 1) (ad (aA 0) (ad (aA 0) av)))) [.un,.un] (r.2.map prD) = some (r.2.map fun c=>eD (cT c)):=cV prD _ r.2 fun c _=>by simp [gK,h3]
 have e2:(r.2.map cT).map eD = r.2.map fun c=>eD (cT c):=by rw [O7];rfl
 have hn2:=sO (r.2.map cT)
 rw [e2] at ep hn2
 have hm:tY 2 (cH [none,none] (qS 2) (a8 (ao (ag 0) (ao (ag 1) bd))) eT (bq (ad (aA 1) (ad (aA 0) (ad (aA 0) av))))) [.sh d0,.sh (.bl e),.ow (.dic (r.2.map kyC)),owl (r.1.map prD),.sh (.int tb')] = some (r.2.map fun c=>eD (cT c)):=by
  unfold tY
  simp only [P5,Q5,Ra,Ca,List.set_cons_succ,List.set_cons_zero]
  have hx:cH [none,none] (qS 2) (a8 (ao (ag 0) (ao (ag 1) bd))) eT (bq (ad (aA 1) (ad (aA 0) (ad (aA 0) av)))) [.sh d0,.sh (.bl e),.sh (.dif (r.2.map kyC)),owl (r.1.map prD),.sh (.int tb')] = some (r.2.map fun c=>eD (cT c)):=by
   unfold cH qS
   simp only [P5,Q5,ek,Ra,OJ]
   rw [OC hlr]
   exact c2
  rw [hx]
  simp only [Ra]
  rw [OC hn2]
 have hw':gZ c6 fJ [.sh d0,.sh (.bl e),.ow (.dic (cs.map kyC)),.ow (.lst []),.sh (.int (-1))] = _:=hw
 have hrun:k7 [.sh d0,.sh (.bl e),.un,.un,.un] = some (.ro (.tup [.sh (dH (cA (r.2.map cT))),.lst (r.1.map (O.sh ∘ prD))])):=by
  unfold k7
  rw [aI (ρ':=[.sh d0,.sh (.bl e),.ow (.dic (cs.map kyC)),.un,.un]) (by unfold tU;rw [hd];rfl),aI (ρ':=[.sh d0,.sh (.bl e),.ow (.dic (cs.map kyC)),.ow (.lst []),.un]) (by simp),aI (ρ':=[.sh d0,.sh (.bl e),.ow (.dic (cs.map kyC)),.ow (.lst []),.sh (.int (-1))]) (by simp),aI hw']
  have hcall:bt cc (ad (xL (tY 2 (cH [none,none] (qS 2) (a8 (ao (ag 0) (ao (ag 1) bd))) eT (bq (ad (aA 1) (ad (aA 0) (ad (aA 0) av))))))) av) [.sh d0,.sh (.bl e),.ow (.dic (r.2.map kyC)),owl (r.1.map prD),.sh (.int tb')] = some (dH (cA (r.2.map cT))):=by
   exact G4 (G6 (Mv hm) rfl) ep
  unfold CU
  show Option.bind _ _ = _
  rw [hcall]
  show some (Out.ro (.tup [_,.lst ((r.1.map prD).map O.sh)])) = _
  rw [O7]
 simp [cO,fnO,hrun]
theorem kS {p:Pic} (c:dB p) (e:Bool) (hc:cnt p <= 1000) (h:(aR p).length <= 30000) (h1:p.length <= 30000) (hr:∀ q ∈ p,q.2.length <= 30000) (hl:(aL (aR p)).length <= 20000) :
  cO [dH p,.bl e] = some (.tup [.sh (dH (cA ((cL e ((aL (aR p)).length + 1) [] (aL (aR p))).2.map cT))),.lst ((cL e ((aL (aR p)).length + 1) [] (aL (aR p))).1.map (O.sh ∘ prD))]):=
 ut _ _ e (ur p c hc h h1 hr) (jE c) hl
noncomputable def stepL:R:=[(0,-1),(-1,-1),(-1,0),(-1,1),(0,1),(1,1),(1,0),(1,-1)]
noncomputable def bZ (b:Bool):Int:=if b then 1 else 0
noncomputable def Ky (a b c d e f g h:Bool):Int:=bZ a + (bZ b + (bZ c + (bZ d + (bZ e + (bZ f + (bZ g + (bZ h + 0)))))))
noncomputable def lH (a b c:Bool):Int:=if bZ a = 0 /\ bZ b + bZ c > 0 then 1 else 0
noncomputable def goL (a b c d e f g h z:Bool):Bool:=if z && decide (Ky a b c d e f g h < 2) then false else decide (0 + lH a b c + lH c d e + lH e f g + lH g h a = 1)
noncomputable def Mx (a b c d e f g h:Bool):Int:=[if a then 1 else 0,if b then 2 else 0,if c then 4 else 0,if d then 8 else 0,if e then 16 else 0,if f then 32 else 0,if g then 64 else 0,if h then 128 else 0].sum
theorem Ho:∀ a b c d e f g h z:Bool,goL a b c d e f g h z = goB (Mx a b c d e f g h).toNat z:=by decide +kernel
theorem wN (ks:R) (z:Bool) (x y:Int):goF ks z (x,y) = goL (decide ((x + 0,y + -1) ∈ ks)) (decide ((x + -1,y + -1) ∈ ks)) (decide ((x + -1,y + 0) ∈ ks)) (decide ((x + -1,y + 1) ∈ ks)) (decide ((x + 0,y + 1) ∈ ks)) (decide ((x + 1,y + 1) ∈ ks)) (decide ((x + 1,y + 0) ∈ ks)) (decide ((x + 1,y + -1) ∈ ks)) z:=by
 rw [Ho]
 rfl
theorem iM {g:XG} {m:XS} {d:D} {l:List D} {ρ ρ1 ρ2:M.Env} (hg:g d ρ = some ρ1) (hm:m ρ1 = some (.nx ρ2)):c0 g m (d :: l) ρ = c0 g m l ρ2:=by
 rw [sF,hg]
 dsimp only [Option.bind]
 rw [hm]
theorem jv {e:XA} {g:XG} {m:XS} {ρ:M.Env} {l:List D} (h:e ρ = some l):ge e g m ρ = c0 g m l ρ:=by
 unfold ge
 rw [h]
 rfl
theorem jU (ks:R) (x y:Int) (z:Bool):dq [.dif (ks.map kyC),.int x,.int y,.bl z] = some (.bl (goF ks z (x,y))):=by
 have hl2:2 <= LIM:=aS (by lia)
 have hl8:8 <= LIM:=aS (by lia)
 have hl4:4 <= LIM:=aS (by lia)
 have hc:bV (a8 (ao (ag 0) (ao (ag 1) bd))) eT (xCB xV (ad (tX false (bq (ad (xOp dF (aj 3) (aj 0)) (ad (xOp dF (aj 4) (aj 1)) av))) 2) av)) [.un,.un,.sh (.dif (ks.map kyC)),.sh (.int x),.sh (.int y)] (stepL.map prD) = some (stepL.map fun t=>D.int (bZ (decide ((x + t.1,y + t.2) ∈ ks)))):=by
  refine cV prD _ stepL fun t _=>?_
  have a:=sg ks (x + t.1) (y + t.2)
  by_cases hb:(x + t.1,y + t.2) ∈ ks
  ·rw [Pr hb] at a
   generalize ks.map kyC = kk at a ⊢
   simp at a
   simp [gK,hl2,gB,kyD,aJ,a,hb,bZ,xV]
  ·rw [Pf hb] at a
   generalize ks.map kyC = kk at a ⊢
   simp at a
   simp [gK,hl2,gB,kyD,aJ,a,hb,bZ,xV]
 rw [wN]
 simp only [stepL,OQ,Qa] at hc
 generalize decide ((x + 0,y + -1) ∈ ks) = b0 at hc ⊢
 generalize decide ((x + -1,y + -1) ∈ ks) = b1 at hc ⊢
 generalize decide ((x + -1,y + 0) ∈ ks) = b2 at hc ⊢
 generalize decide ((x + -1,y + 1) ∈ ks) = b3 at hc ⊢
 generalize decide ((x + 0,y + 1) ∈ ks) = b4 at hc ⊢
 generalize decide ((x + 1,y + 1) ∈ ks) = b5 at hc ⊢
 generalize decide ((x + 1,y + 0) ∈ ks) = b6 at hc ⊢
 generalize decide ((x + 1,y + -1) ∈ ks) = b7 at hc ⊢
 generalize ks.map kyC = kk at hc ⊢
 have hx:kZ [.sh (.dif kk),.sh (.int x),.sh (.int y),.sh (.bl z),.un,.un,.un,.un] = some (.rt (.bl (goL b0 b1 b2 b3 b4 b5 b6 b7 z))):=by
  unfold kZ
  rw [aI (ρ':=[.sh (.dif kk),.sh (.int x),.sh (.int y),.sh (.bl z),.sh (.lst [prD (0,-1),prD (-1,-1),prD (-1,0),prD (-1,1),prD (0,1),prD (1,1),prD (1,0),prD (1,-1)]),.un,.un,.un]) (by simp [hl2,hl8])]
  rw [aI (ρ':=[.sh (.dif kk),.sh (.int x),.sh (.int y),.sh (.bl z),.sh (.lst [prD (0,-1),prD (-1,-1),prD (-1,0),prD (-1,1),prD (0,1),prD (1,1),prD (1,0),prD (1,-1)]),.sh (.lst [.int (bZ b0),.int (bZ b1),.int (bZ b2),.int (bZ b3),.int (bZ b4),.int (bZ b5),.int (bZ b6),.int (bZ b7)]),.un,.un]) (by simp [hc,hl8])]
  generalize D.lst [prD (0,-1),prD (-1,-1),prD (-1,0),prD (-1,1),prD (0,1),prD (1,1),prD (1,0),prD (1,-1)] = st
  have body:∀ (t:Int) (k:Nat) (v:Sl) (p q r:Bool) (hp:atI [D.int (bZ b0),.int (bZ b1),.int (bZ b2),.int (bZ b3),.int (bZ b4),.int (bZ b5),.int (bZ b6),.int (bZ b7)] (k:Int) = some (.int (bZ p))) (hq:atI [D.int (bZ b0),.int (bZ b1),.int (bZ b2),.int (bZ b3),.int (bZ b4),.int (bZ b5),.int (bZ b6),.int (bZ b7)] ((k:Int) + 1) = some (.int (bZ q))) (hr:atI [D.int (bZ b0),.int (bZ b1),.int (bZ b2),.int (bZ b3),.int (bZ b4),.int (bZ b5),.int (bZ b6),.int (bZ b7)] (((k:Int) + 2) % 8) = some (.int (bZ r))),
    d9 [.sh (.dif kk),.sh (.int x),.sh (.int y),.sh (.bl z),.sh st,.sh (.lst [.int (bZ b0),.int (bZ b1),.int (bZ b2),.int (bZ b3),.int (bZ b4),.int (bZ b5),.int (bZ b6),.int (bZ b7)]),.sh (.int t),.sh (.int k)] = some (.nx [.sh (.dif kk),.sh (.int x),.sh (.int y),.sh (.bl z),.sh st,.sh (.lst [.int (bZ b0),.int (bZ b1),.int (bZ b2),.int (bZ b3),.int (bZ b4),.int (bZ b5),.int (bZ b6),.int (bZ b7)]),.sh (.int (t + lH p q r)),.sh (.int k)]):=by
   intro t k v p q r hp hq hr
   generalize [D.int (bZ b0),.int (bZ b1),.int (bZ b2),.int (bZ b3),.int (bZ b4),.int (bZ b5),.int (bZ b6),.int (bZ b7)] = bl at *
   unfold lH
   by_cases h1:bZ p = 0
   ·by_cases h2:0 < bZ q + bZ r
    ·simp [d9,hp,hq,hr,h1,h2]
    ·simp [d9,hp,hq,hr,h1,h2]
   ·simp [d9,hp,h1]
  have hsum:t9 [.lst [.int (bZ b0),.int (bZ b1),.int (bZ b2),.int (bZ b3),.int (bZ b4),.int (bZ b5),.int (bZ b6),.int (bZ b7)]] = some (.int (Ky b0 b1 b2 b3 b4 b5 b6 b7)):=rfl
  have p0:=body 0 0 .un b0 b1 b2 rfl rfl rfl
  have p2:=body (0 + lH b0 b1 b2) 2 .un b2 b3 b4 rfl rfl rfl
  have p4:=body (0 + lH b0 b1 b2 + lH b2 b3 b4) 4 .un b4 b5 b6 rfl rfl rfl
  have p6:=body (0 + lH b0 b1 b2 + lH b2 b3 b4 + lH b4 b5 b6) 6 .un b6 b7 b0 rfl rfl rfl
  unfold goL
  generalize Ky b0 b1 b2 b3 b4 b5 b6 b7 = sm at hsum ⊢
  generalize hbl:[D.int (bZ b0),.int (bZ b1),.int (bZ b2),.int (bZ b3),.int (bZ b4),.int (bZ b5),.int (bZ b6),.int (bZ b7)] = bl at *
  by_cases hs:z = true /\ sm < 2
  ·obtain ⟨rfl,h2⟩:=hs
   rw [OC (by simpa using h2)]
   simp [hsum,h2]
  ·rw [OB (by simpa using hs)]
   rw [aI (ρ':=[.sh (.dif kk),.sh (.int x),.sh (.int y),.sh (.bl z),.sh st,.sh (.lst bl),.un,.un]) (by
    cases z with
    | false=>simp
    | true=>
     have h2:¬ sm < 2:=fun h=>hs ⟨rfl,h⟩
     simp [hsum,h2])]
   rw [aI (ρ':=[.sh (.dif kk),.sh (.int x),.sh (.int y),.sh (.bl z),.sh st,.sh (.lst bl),.sh (.int 0),.un]) (by simp)]
   generalize lH b0 b1 b2 = t0 at *
   generalize lH b2 b3 b4 = t2 at *
   generalize lH b4 b5 b6 = t4 at *
   generalize lH b6 b7 b0 = t6 at *
   have hf:ge (xIt (xL (j7 (ad (xC (.int 0)) (ad (xC (.int 2)) (ad (xC (.int 4)) (ad (xC (.int 6)) av))))))) (ag 7) d9 [.sh (.dif kk),.sh (.int x),.sh (.int y),.sh (.bl z),.sh st,.sh (.lst bl),.sh (.int 0),.un] = some (.nx [.sh (.dif kk),.sh (.int x),.sh (.int y),.sh (.bl z),.sh st,.sh (.lst bl),.sh (.int (0 + t0 + t2 + t4 + t6)),.sh (.int 6)]):=by
    have hit:xIt (xL (j7 (ad (xC (.int 0)) (ad (xC (.int 2)) (ad (xC (.int 4)) (ad (xC (.int 6)) av)))))) [.sh (.dif kk),.sh (.int x),.sh (.int y),.sh (.bl z),.sh st,.sh (.lst bl),.sh (.int 0),.un] = some [.int 0,.int 2,.int 4,.int 6]:=by simp [hl4]
    rw [jv hit,iM (ρ1:=[.sh (.dif kk),.sh (.int x),.sh (.int y),.sh (.bl z),.sh st,.sh (.lst bl),.sh (.int 0),.sh (.int ((0:Nat):Int))]) rfl p0,iM (ρ1:=[.sh (.dif kk),.sh (.int x),.sh (.int y),.sh (.bl z),.sh st,.sh (.lst bl),.sh (.int (0 + t0)),.sh (.int ((2:Nat):Int))]) rfl p2,iM (ρ1:=[.sh (.dif kk),.sh (.int x),.sh (.int y),.sh (.bl z),.sh st,.sh (.lst bl),.sh (.int (0 + t0 + t2)),.sh (.int ((4:Nat):Int))]) rfl p4,iM (ρ1:=[.sh (.dif kk),.sh (.int x),.sh (.int y),.sh (.bl z),.sh st,.sh (.lst bl),.sh (.int (0 + t0 + t2 + t4)),.sh (.int ((6:Nat):Int))]) rfl p6]
    rfl
   rw [aI hf]
   simp
 simp [dq,mN,fnO,hx,O.d]
noncomputable def Way (e:Bool):R -> R -> R -> Prop
 | ks,[],r=>r = ks
 | ks,c :: t,r=>c ∈ ks /\ goF ks e c = true /\ Way e (ks.filter fun d=>decide (d ≠ c)) t r
theorem rg (e:Bool):∀ (t:R) {ks r u q:R},Way e ks t r -> Way e r u q -> Way e ks (t ++ u) q
 | [],_,_,_,_,h,k=>by
  cases h
  exact k
 | c :: t,_,_,_,_,h,k=>⟨h.1,h.2.1,rg e t h.2.2 k⟩
theorem zg (e:Bool):∀ (pre:R) (s:R × R) {ks:R},pre.Nodup -> (∀ c ∈ pre,c ∈ s.2) -> Way e ks s.1 s.2 -> Way e ks (pre.foldl (aY e) s).1 (pre.foldl (aY e) s).2
 | [],_,_,_,_,h=>h
 | c :: pre,s,ks,nd,hs,h=>by
  obtain ⟨n1,n2⟩:=O4.mp nd
  rw [O5]
  refine zg e pre _ n2 (fun d hd=>(pd e s c d fun z=>n1 (by rw [<- z];exact hd)).mpr (hs d (OK _ hd))) ?_
  unfold aY
  split
  ·exact rg e _ h ⟨hs c OI,‹_›,rfl⟩
  ·exact h
theorem CA (e:Bool):∀ (l:R) (s:R × R) {ks:R},s.2.Nodup -> Way e ks s.1 s.2 -> Way e ks (l.foldl (dt e) s).1 (l.foldl (dt e) s).2
 | [],_,_,_,h=>h
 | d :: l,s,ks,n,h=>by
  rw [O5]
  exact CA e l _ (Cy e s d n).1 (rg e _ h (zg e _ ([],s.2) (wM n _ _) (fun c hc=>kD hc) rfl))
theorem zS (e:Bool):∀ (n:Nat) (t ks:R) {ks0:R},ks.Nodup -> Way e ks0 t ks -> Way e ks0 (cL e n t ks).1 (cL e n t ks).2
 | 0,_,_,_,_,h=>h
 | n + 1,t,ks,_,nk,h=>by
  rw [cL]
  split
  ·exact h
  ·exact zS e n _ _ (rc e nk).1 (rg e _ h (CA e sideL ([],ks) nk rfl))
theorem zR (e:Bool):∀ (n:Nat) (t ks:R),ks.Nodup -> ks.length < n -> (eS e (cL e n t ks).2).1 = []
 | 0,_,_,_,h=>by lia
 | n + 1,t,ks,nk,h=>by
  rw [cL]
  split
  ·assumption
  ·rename_i hne
   have ok:=rc e nk
   have:(eS e ks).1.length ≠ 0:=fun z=>hne (Q6 z)
   exact zR e n _ _ ok.1 (by lia)
theorem zf (e:Bool):∀ (l:R) (s:R × R),s.1.length <= (l.foldl (aY e) s).1.length
 | [],_=>OH _
 | c :: l,s=>by
  rw [O5]
  refine OW ?_ (zf e l _)
  unfold aY
  split
  ·show s.1.length <= (s.1 ++ [c]).length
   simp
  ·exact OH _
theorem Cl (e:Bool):∀ (l:R) (s:R × R),(l.foldl (aY e) s).1 = s.1 -> ∀ c ∈ l,goF s.2 e c = false
 | [],_,_,_,h=>by cases h
 | c :: l,s,h,d,hd=>by
  rw [O5] at h
  cases q:goF s.2 e c with
  | true=>
   have e1:aY e s c = (s.1 ++ [c],s.2.filter fun d=>decide (d ≠ c)):=by unfold aY;rw [q];rfl
   have:=zf e l (aY e s c)
   rw [h,e1] at this
   simp at this
   lia
  | false=>
   have e1:aY e s c = s:=by unfold aY;rw [q];rfl
   rw [e1] at h
   rcases OP.mp hd with rfl | hd
   ·exact q
   ·exact Cl e l s h d hd
theorem Cz (e:Bool):∀ (l:R) (s:R × R),s.1.length <= (l.foldl (dt e) s).1.length
 | [],_=>OH _
 | d :: l,s=>by
  rw [O5]
  refine OW ?_ (Cz e l _)
  show s.1.length <= (s.1 ++ _).length
  simp
theorem FX (e:Bool):∀ (l:R) (s:R × R),(l.foldl (dt e) s).1 = s.1 -> ∀ d ∈ l,(cG e (bJ s.2 d.1 d.2) s.2).1 = []
 | [],_,_,_,h=>by cases h
 | d :: l,s,h,d',hd=>by
  rw [O5] at h
  have h1:=Cz e l (dt e s d)
  rw [h] at h1
  have e0:(dt e s d).1 = s.1 ++ (cG e (bJ s.2 d.1 d.2) s.2).1:=rfl
  have z:(cG e (bJ s.2 d.1 d.2) s.2).1 = []:=by
   rw [e0,OM] at h1
   exact Q6 (by lia)
  have z2:(cG e (bJ s.2 d.1 d.2) s.2).2 = s.2:=pe e _ ([],s.2) z
  have e1:dt e s d = s:=by
   show (s.1 ++ (cG e (bJ s.2 d.1 d.2) s.2).1,(cG e (bJ s.2 d.1 d.2) s.2).2) = s
   rw [z,z2,Pd]
  rw [e1] at h
  rcases OP.mp hd with rfl | hd
  ·exact z
  ·exact FX e l s h d' hd
theorem Hn:∀ a b c d e f g h z:Bool,goL a b c d e f g h z = true -> a = false \/ c = false \/ e = false \/ g = false:=by decide +kernel
theorem Hq {ks:R} {e:Bool} {c:Int × Int} (h:goF ks e c = true):∃ d ∈ sideL,(c.1 + d.1,c.2 + d.2) ∉ ks:=by
 obtain ⟨x,y⟩:=c
 rw [wN] at h
 rcases Hn _ _ _ _ _ _ _ _ _ h with h | h | h | h
 ·exact ⟨(0,-1),by simp [sideL],Pv h⟩
 ·exact ⟨(-1,0),by simp [sideL],Pv h⟩
 ·exact ⟨(0,1),by simp [sideL],Pv h⟩
 ·exact ⟨(1,0),by simp [sideL],Pv h⟩
theorem DA {e:Bool} {ks:R} (h:(eS e ks).1 = []) (c:Int × Int) (hc:c ∈ ks):goF ks e c = false:=by
 cases q:goF ks e c with
 | false=>rfl
 | true=>
  obtain ⟨d,hd,hn⟩:=Hq q
  have h1:=FX e sideL ([],ks) h d hd
  have h2:=Cl e (bJ ks d.1 d.2) ([],ks) h1 c (Po.mpr ⟨hc,by simpa using hn⟩)
  rw [q] at h2
  cases h2
theorem Ck (e:Bool):∀ (l:R) (s:R × R),(∀ c ∈ l,goF s.2 e c = false) -> l.foldl (aY e) s = s
 | [],_,_=>rfl
 | c :: l,s,h=>by
  have e1:aY e s c = s:=by unfold aY;rw [h c OI];rfl
  rw [O5,e1]
  exact Ck e l s fun d hd=>h d (OK _ hd)
theorem FW (e:Bool):∀ (l:R) (s:R × R),(∀ c ∈ s.2,goF s.2 e c = false) -> l.foldl (dt e) s = s
 | [],_,_=>rfl
 | d :: l,s,h=>by
  have e0:cG e (bJ s.2 d.1 d.2) s.2 = ([],s.2):=Ck e _ ([],s.2) fun c hc=>h c (kD hc)
  have e1:dt e s d = s:=by
   show (s.1 ++ (cG e (bJ s.2 d.1 d.2) s.2).1,(cG e (bJ s.2 d.1 d.2) s.2).2) = s
   rw [e0,Pd]
  rw [O5,e1]
  exact FW e l s h
theorem CK {e:Bool} {ks:R} (h:∀ c ∈ ks,goF ks e c = false) (n:Nat):cL e (n + 1) [] ks = ([],ks):=by
 have h1:eS e ks = ([],ks):=FW e sideL ([],ks) h
 rw [cL,h1,OC rfl]
theorem AH {ks ks':R} (h:∀ c,c ∈ ks ↔ c ∈ ks') (e:Bool) (c:Int × Int):goF ks e c = goF ks' e c:=by
 obtain ⟨x,y⟩:=c
 rw [wN,wN]
 simp only [h]
theorem CN (e:Bool):∀ (t:R) {ks ks' r:R},(∀ c,c ∈ ks ↔ c ∈ ks') -> Way e ks t r -> ∃ r',Way e ks' t r' /\ ∀ c,c ∈ r ↔ c ∈ r'
 | [],_,ks',_,h,k=>by
  cases k
  exact ⟨ks',rfl,h⟩
 | c :: t,ks,ks',r,h,k=>by
  obtain ⟨r',a,b⟩:=CN e t (ks':=ks'.filter fun d=>decide (d ≠ c)) (fun d=>by rw [Po,Po,h]) k.2.2
  exact ⟨r',⟨(h c).mp k.1,by rw [<- AH h];exact k.2.1,a⟩,b⟩
theorem xF (e:Bool):∀ (t:R) {ks r:R},Way e ks t r -> r.Sublist ks /\ t.length <= ks.length
 | [],_,_,k=>by
  cases k
  exact ⟨List.Sublist.refl _,by simp⟩
 | c :: t,ks,r,k=>by
  obtain ⟨a,b⟩:=xF e t k.2.2
  have h1:(ks.filter fun d=>decide (d ≠ c)).length < ks.length:=List.length_filter_lt_length_iff_exists.mpr ⟨c,k.1,by simp⟩
  exact ⟨a.trans RX,by rw [OL];lia⟩
theorem IB {n:Nat} {x:XS} {ds:List D} {o:O} (h:x (ds.map .sh ++ List.replicate (n - ds.length) .un) = some (.ro o)):fnO n x ds = some o:=by unfold fnO;rw [h]
theorem LB (n:Nat) (hn:n <= 1000):LA [D.int (n:Int)] = some ((List.range' 0 n).map fun i:Nat=>D.int (i:Int)):=by
 show ifC _ _ _ = _
 rw [ga (by lia)]
 show some (fQ 0 n) = _
 rw [EW,List.range_eq_range']
theorem lD (ns:List Int) (k:Nat):∃ v:Int,aN [.scr (ns.map D.int),.int (k:Int)] = some (.int v):=by
 by_cases h:k < ns.length
 ·have h':(k:Int) < ns.length:=by lia
  have ac:atI (ns.map D.int) (k:Int) = some (.int ns[k]):=Jt (by rw [O6,P0 h];rfl)
  exact ⟨ns[k],by simp [aN,h9,fnO,ja,h',ac]⟩
 ·have h':¬ (k:Int) < ns.length:=by lia
  exact ⟨0,by simp [aN,h9,fnO,ja,h']⟩
theorem GG (x a b:Int):dIn false (.int x) (.tup [.int a,.int b]) = some (.bl (decide (x = a \/ x = b))):=by
 by_cases h1:x = a
 ·simp [dIn,aJ,h1]
 ·by_cases h2:x = b
  ·simp [dIn,aJ,h2]
  ·simp [dIn,aJ,h1,h2]
theorem Bw (s0 s1 s9 s10:Sl) (ps:R) (w h kd:Int) (k:Int) (v7 v8:Sl) (hw:0 < w) (hw2:w < 1073741824) (hl:ps.length <= 1000):∃ (qs:R) (x y:Int),gi [s0,s1,owl (ps.map prD),.sh (.int w),.sh (.int h),.sh (.int kd),.sh (.int k),v7,v8,s9,s10] = some (.nx [s0,s1,owl (qs.map prD),.sh (.int w),.sh (.int h),.sh (.int kd),.sh (.int k),.sh (.int x),.sh (.int y),s9,s10]) /\ qs.length <= ps.length + 1:=by
 have h2:2 <= LIM:=aS (by lia)
 have hlim:ps.length < LIM:=fD (by lia)
 have yes:∀ x y:Int,j4 2 xPv (xSh (bq (ad (aA 7) (ad (aA 8) av)))) [s0,s1,owl (ps.map prD),.sh (.int w),.sh (.int h),.sh (.int kd),.sh (.int k),.sh (.int x),.sh (.int y),s9,s10] = some (.nx [s0,s1,owl ((ps ++ [(x,y)]).map prD),.sh (.int w),.sh (.int h),.sh (.int kd),.sh (.int k),.sh (.int x),.sh (.int y),s9,s10]):=fun x y=>by
  simp [h2,hlim]
 obtain ⟨x,hx⟩:∃ x,k % w = x:=⟨_,rfl⟩
 obtain ⟨y,hy⟩:∃ y,k / w = y:=⟨_,rfl⟩
 unfold gi
 rw [aI (ρ':=[s0,s1,owl (ps.map prD),.sh (.int w),.sh (.int h),.sh (.int kd),.sh (.int k),.sh (.int x),v8,s9,s10]) (by simp [Jj hw,hx])]
 rw [aI (ρ':=[s0,s1,owl (ps.map prD),.sh (.int w),.sh (.int h),.sh (.int kd),.sh (.int k),.sh (.int x),.sh (.int y),s9,s10]) (by simp [LX ⟨hw,hw2⟩,hy])]
 by_cases k0:kd = 0
 ·refine ⟨ps ++ [(x,y)],x,y,?_,by rw [OM];simp⟩
  rw [<- yes x y]
  simp [k0]
 ·by_cases k1:kd = 1
  ·by_cases c1:x = 0 \/ x = w - 1
   ·refine ⟨ps ++ [(x,y)],x,y,?_,by rw [OM];simp⟩
    rw [<- yes x y]
    simp [k1,GG,h2,c1]
   ·by_cases c2:y = 0 \/ y = h - 1
    ·refine ⟨ps ++ [(x,y)],x,y,?_,by rw [OM];simp⟩
     rw [<- yes x y]
     simp [k1,GG,h2,c1,c2]
    ·refine ⟨ps,x,y,?_,by lia⟩
     simp [k1,GG,h2,c1,c2]
  ·refine ⟨ps,x,y,?_,by lia⟩
   simp [k0,k1]
theorem sG (ns:List Int):∃ ps:R,iP [.scr (ns.map D.int)] = some (.lst (ps.map prD)) /\ ps.length <= 40:=by
 have h2:2 <= LIM:=aS (by lia)
 obtain ⟨f,hf⟩:∃ v:Int,aN [.scr (ns.map D.int),.int 0] = some (.int v):=lD ns 0
 obtain ⟨w,hw,w1,w2⟩:∃ w:Nat,2 + f / 6 % 3 = (w:Int) /\ 2 <= w /\ w <= 4:=⟨(2 + f / 6 % 3).toNat,by lia,by lia,by lia⟩
 obtain ⟨h,hh,h1,h4⟩:∃ h:Nat,2 + f / 18 % 3 = (h:Int) /\ 2 <= h /\ h <= 4:=⟨(2 + f / 18 % 3).toNat,by lia,by lia,by lia⟩
 have hwh:w * h <= 16:=Nat.mul_le_mul w2 h4
 have hr:=LB (w * h) (by lia)
 have hmul:jo (.int (w:Int)) (.int (h:Int)) = some (.int ((w * h:Nat):Int)):=by
  have:jo (.int (w:Int)) (.int (h:Int)) = some (.int ((w:Int) * (h:Int))):=ga (.inl (by lia))
  rw [this,Int.natCast_mul]
 obtain ⟨ρ1,k1,ps1,v6,v7,v8,rfl,a1⟩:=bH (g:=ag 6) (m:=gi) (fun i:Nat=>D.int (i:Int)) (fun pre ρ=>∃ (ps:R) (v6 v7 v8:Sl),ρ = [.sh (.scr (ns.map D.int)),.sh (.int f),owl (ps.map prD),.sh (.int (w:Int)),.sh (.int (h:Int)),.sh (.int (f % 3)),v6,v7,v8,.un,.un] /\ ps.length <= pre.length) (List.range' 0 (w * h)) [.sh (.scr (ns.map D.int)),.sh (.int f),owl [],.sh (.int (w:Int)),.sh (.int (h:Int)),.sh (.int (f % 3)),.un,.un,.un,.un,.un] ⟨[],.un,.un,.un,rfl,by simp⟩ (by
  rintro pre i post _ e ⟨ps,v6,v7,v8,rfl,a1⟩
  have hp:pre.length < w * h:=by
   have:=OZ List.length e
   rw [R6,OM,OL] at this
   lia
  obtain ⟨qs,x,y,b1,b2⟩:=Bw (.sh (.scr (ns.map D.int))) (.sh (.int f)) .un .un ps (w:Int) (h:Int) (f % 3) (i:Int) v7 v8 (by lia) (by lia) (by lia)
  exact ⟨_,_,rfl,.inl b1,qs,_,_,_,rfl,by rw [OM,PU];lia⟩)
 rw [R6] at a1
 have hfor1:ge (Ee (ad (xOp jo (aj 3) (aj 4)) av)) (ag 6) gi [.sh (.scr (ns.map D.int)),.sh (.int f),owl [],.sh (.int (w:Int)),.sh (.int (h:Int)),.sh (.int (f % 3)),.un,.un,.un,.un,.un] = some (.nx [.sh (.scr (ns.map D.int)),.sh (.int f),owl (ps1.map prD),.sh (.int (w:Int)),.sh (.int (h:Int)),.sh (.int (f % 3)),v6,v7,v8,.un,.un]):=by
  have hit:Ee (ad (xOp jo (aj 3) (aj 4)) av) [.sh (.scr (ns.map D.int)),.sh (.int f),owl [],.sh (.int (w:Int)),.sh (.int (h:Int)),.sh (.int (f % 3)),.un,.un,.un,.un,.un] = some ((List.range' 0 (w * h)).map fun i:Nat=>D.int (i:Int)):=by
   rw [<- hr]
   simp [hmul]
  rw [jv hit]
  exact k1
 have hslice:∃ zs:List Int,zs.length <= 9 /\ ∀ ρ:M.Env,ρ[0]? = some (.sh (.scr (ns.map D.int))) -> xIt (xSl (aj 0) (wb (xC (.int 1))) (wb (xC (.int 10)))) ρ = some (zs.map D.int):=by
  have l1:(jn ns (some 1) (some 10)).length <= 9:=by
   have:=G8 ns (some 1) (some 10)
   rw [CC (by lia),CC (by lia)] at this
   lia
  refine ⟨jn ns (some 1) (some 10),l1,fun ρ h0=>?_⟩
  have JU:((jn ns (some 1) (some 10)).map D.int).length <= LIM:=by rw [OJ];exact aS (by lia)
  rw [<- G9] at JU ⊢
  simp [aj,h0,JU]
 obtain ⟨zs,hz,hsl⟩:=hslice
 obtain ⟨ρ2,k2,ps2,u6,u7,u8,u9,u10,rfl,a2⟩:=bH (g:=ag 9) (m:=md) D.int (fun pre ρ=>∃ (ps:R) (u6 u7 u8 u9 u10:Sl),ρ = [.sh (.scr (ns.map D.int)),.sh (.int f),owl (ps.map prD),.sh (.int (w:Int)),.sh (.int (h:Int)),.sh (.int (f % 3)),u6,u7,u8,u9,u10] /\ ps.length <= 16 + 2 * pre.length) zs [.sh (.scr (ns.map D.int)),.sh (.int f),owl (ps1.map prD),.sh (.int (w:Int)),.sh (.int (h:Int)),.sh (.int (f % 3)),v6,v7,v8,.un,.un] ⟨ps1,_,_,_,_,_,rfl,by simp;lia⟩ (by
  rintro pre c post _ e ⟨ps,u6,u7,u8,u9,u10,rfl,a2⟩
  have hp:pre.length < 9:=by
   have:=OZ List.length e
   rw [OM,OL] at this
   lia
  obtain ⟨mx,hmx⟩:∃ mx,c * 48271 % 2147483647 / 37 = mx:=⟨_,rfl⟩
  obtain ⟨u,hu,hu1,hu2⟩:∃ u:Nat,1 + mx / 49 % 2 = (u:Int) /\ 1 <= u /\ u <= 2:=⟨(1 + mx / 49 % 2).toNat,by lia,by lia,by lia⟩
  have hr2:=LB u (by lia)
  obtain ⟨ρ3,k3,ps3,t6,rfl,a3⟩:=bH (g:=ag 6) (m:=ma) (fun i:Nat=>D.int (i:Int)) (fun pre ρ=>∃ (qs:R) (t6:Sl),ρ = [.sh (.scr (ns.map D.int)),.sh (.int f),owl (qs.map prD),.sh (.int (w:Int)),.sh (.int (h:Int)),.sh (.int (f % 3)),t6,u7,u8,.sh (.int c),.sh (.int mx)] /\ qs.length <= ps.length + pre.length) (List.range' 0 u) [.sh (.scr (ns.map D.int)),.sh (.int f),owl (ps.map prD),.sh (.int (w:Int)),.sh (.int (h:Int)),.sh (.int (f % 3)),u6,u7,u8,.sh (.int c),.sh (.int mx)] ⟨ps,u6,rfl,by simp⟩ (by
   rintro pre i post _ e ⟨qs,t6,rfl,a1⟩
   have hq:pre.length < u:=by
    have:=OZ List.length e
    rw [R6,OM,OL] at this
    lia
   have hlim:qs.length < LIM:=fD (by lia)
   refine ⟨_,[.sh (.scr (ns.map D.int)),.sh (.int f),owl ((qs ++ [(mx % 7 + (i:Int),mx / 7 % 7)]).map prD),.sh (.int (w:Int)),.sh (.int (h:Int)),.sh (.int (f % 3)),.sh (.int (i:Int)),u7,u8,.sh (.int c),.sh (.int mx)],rfl,.inl ?_,_,_,rfl,by rw [OM,OM,PU,PU];lia⟩
   simp [ma,h2,hlim])
  rw [R6] at a3
  refine ⟨_,_,rfl,.inl ?_,ps3,t6,u7,u8,.sh (.int c),.sh (.int mx),rfl,by rw [OM,PU];lia⟩
  unfold md
  rw [aI (ρ':=[.sh (.scr (ns.map D.int)),.sh (.int f),owl (ps.map prD),.sh (.int (w:Int)),.sh (.int (h:Int)),.sh (.int (f % 3)),u6,u7,u8,.sh (.int c),.sh (.int mx)]) (by simp [hmx])]
  rw [jv (l:=(List.range' 0 u).map fun i:Nat=>D.int (i:Int)) (by rw [<- hr2];simp [hu])]
  exact k3)
 refine ⟨ps2,?_,by lia⟩
 have hx:kh [.sh (.scr (ns.map D.int)),.un,.un,.un,.un,.un,.un,.un,.un,.un,.un] = some (.ro (.lst ((ps2.map prD).map O.sh))):=by
  unfold kh
  rw [aI (ρ':=[.sh (.scr (ns.map D.int)),.sh (.int f),.un,.un,.un,.un,.un,.un,.un,.un,.un]) (by simp [hf])]
  rw [aI (ρ':=[.sh (.scr (ns.map D.int)),.sh (.int f),owl [],.un,.un,.un,.un,.un,.un,.un,.un]) (by simp)]
  rw [aI (ρ':=[.sh (.scr (ns.map D.int)),.sh (.int f),owl [],.sh (.int (w:Int)),.un,.un,.un,.un,.un,.un,.un]) (by simp [hw])]
  rw [aI (ρ':=[.sh (.scr (ns.map D.int)),.sh (.int f),owl [],.sh (.int (w:Int)),.sh (.int (h:Int)),.un,.un,.un,.un,.un,.un]) (by simp [hh])]
  rw [aI (ρ':=[.sh (.scr (ns.map D.int)),.sh (.int f),owl [],.sh (.int (w:Int)),.sh (.int (h:Int)),.sh (.int (f % 3)),.un,.un,.un,.un,.un]) (by simp)]
  rw [aI hfor1,aI (by rw [jv (hsl _ rfl)];exact k2)]
  rfl
 have:=IB (n:=11) (ds:=[.scr (ns.map D.int)]) hx
 show (fnO 11 kh [.scr (ns.map D.int)]).map O.d = _
 rw [this]
 generalize ps2.map prD = l
 simp
theorem F0 (s0 s1 s2:Sl) (r:R) (z:Int) (hl:r.length <= 100):cM [s0,s1,s2,.ow (.lst (r.map (O.sh ∘ prD))),.sh (.int z)] = some (.nx [s0,s1,s2,.ow (.lst ((match r.getLast? with | some q=>if q.2 + 1 = z then r.dropLast ++ [(q.1,z)] else r ++ [(z,z)] | none=>[(z,z)]).map (O.sh ∘ prD))),.sh (.int z)]):=by
 rcases Qw r with rfl | ⟨r0,q,rfl⟩
 ·have l0:0 < LIM:=fD (by lia)
  simp [cM]
 ·rw [Qx] at *
  have hp:(0:Int) < r0.length + 1:=by lia
  have hlim:r0.length + 1 < LIM:=fD (by simp at hl;lia)
  by_cases c:q.2 + 1 = z
  ·simp [cM,hp,hlim,c]
   refine ⟨r0.length,?_,?_⟩
   ·unfold ixN
    rw [OB (by lia),OC (by lia)]
    congr 1
    lia
   ·rw [List.set_append_right _ _ (by simp)]
    simp
  ·simp [cM,hp,hlim,c]
structure RowIs (r:R) (zs:List Int):Prop where
 can:eE r
 mem:∀ u,Mem r u ↔ u ∈ zs
 top:∀ q,r.getLast? = some q -> zs.getLast? = some q.2
 nil:r = [] ↔ zs = []
 len:r.length <= zs.length
theorem FZ (s0 s1 s2:Sl) (zs:List Int) (hp:zs.Pairwise (· < ·)) (hl:zs.length <= 50) (v9:Sl):∃ r w9,RowIs r zs /\ c0 (ag 4) cM (zs.map D.int) [s0,s1,s2,.ow (.lst []),v9] = some (.nx [s0,s1,s2,.ow (.lst (r.map (O.sh ∘ prD))),w9]):=by
 obtain ⟨ρ',k1,r,w9,hr,rfl⟩:=bH (g:=ag 4) (m:=cM) D.int (fun pre ρ=>∃ r w9,RowIs r pre /\ ρ = [s0,s1,s2,.ow (.lst (r.map (O.sh ∘ prD))),w9]) zs [s0,s1,s2,.ow (.lst []),v9] ⟨[],v9,⟨lg,fun u=>⟨fun h=>(c5 _ h).elim,fun h=>(by cases h)⟩,fun q h=>(by cases h),⟨fun _=>rfl,fun _=>rfl⟩,OH _⟩,rfl⟩ (by
  rintro pre z post _ e ⟨r,w9,o,rfl⟩
  have hlen:=OZ List.length e
  rw [OM,OL] at hlen
  have hgt:∀ u ∈ pre,u < z:=fun u hu=>by
   rw [e] at hp
   exact (Pe.mp hp).2.2 u hu z (by simp)
  refine ⟨_,_,rfl,.inl (F0 s0 s1 s2 r z (by have:=o.len;lia)),_,_,?_,rfl⟩
  rcases Qw r with rfl | ⟨r0,q,rfl⟩
  ·have hpre:=o.nil.mp rfl
   subst hpre
   refine ⟨canon_cons.mpr ⟨by simp,fun _ h=>(by cases h),lg⟩,fun u=>?_,fun q h=>(by cases h;rfl),by simp,by simp⟩
   show Mem [(z,z)] u ↔ u ∈ [z]
   rw [mem_cons,OO]
   exact ⟨fun h=>h.elim (fun h=>by dsimp only at h;lia) fun h=>(c5 _ h).elim,fun h=>.inl (by dsimp only;lia)⟩
  ·rw [Qx] at *
   have ht:=o.top q (by simp)
   have hq:q.2 < z:=hgt _ (List.mem_of_getLast? ht)
   have hc:=o.can
   have hql:q.1 <= q.2:=hc.1 q (by simp)
   rw [List.getLast?_append]
   simp only [List.getLast?_singleton,Option.some_or]
   by_cases c:q.2 + 1 = z
   ·rw [OC c,List.dropLast_concat]
    refine ⟨⟨fun t ht'=>?_,?_⟩,fun u=>?_,fun t h=>?_,by simp,?_⟩
    ·rcases OV.mp ht' with h | h
     ·exact hc.1 t (OY _ h)
     ·rw [OO] at h
      subst h
      dsimp only
      lia
    ·have hpw:=Pe.mp hc.2
     refine Pe.mpr ⟨hpw.1,QT _ _,fun a ha b hb=>?_⟩
     rw [OO] at hb
     subst hb
     exact hpw.2.2 a ha q (by simp)
    ·have hm:=o.mem u
     rw [OV,OO,<- hm]
     unfold Mem
     constructor
     ·rintro ⟨t,ht',hu⟩
      rcases OV.mp ht' with h | h
      ·exact .inl ⟨t,OY _ h,hu⟩
      ·rw [OO] at h
       subst h
       dsimp only at hu
       by_cases hz:u = z
       ·exact .inr hz
       ·exact .inl ⟨q,by simp,by lia,by lia⟩
     ·rintro (⟨t,ht',hu⟩ | rfl)
      ·rcases OV.mp ht' with h | h
       ·exact ⟨t,OY _ h,hu⟩
       ·rw [OO] at h
        subst h
        exact ⟨(t.1,z),by simp,by dsimp only;lia,by dsimp only;lia⟩
      ·exact ⟨(q.1,u),by simp,by dsimp only;lia,by dsimp only;lia⟩
    ·simp at h
     subst h
     simp
    ·have:=o.len
     simp at this ⊢
     lia
   ·rw [OB c]
    refine ⟨⟨fun t ht'=>?_,?_⟩,fun u=>?_,fun t h=>?_,by simp,?_⟩
    ·rcases OV.mp ht' with h | h
     ·exact hc.1 t h
     ·rw [OO] at h
      subst h
      exact Pi _
    ·refine Pe.mpr ⟨hc.2,QT _ _,fun a ha b hb=>?_⟩
     rw [OO] at hb
     subst hb
     have:a.2 <= q.2:=by
      rcases OV.mp ha with h | h
      ·have h1:=(Pe.mp hc.2).2.2 a h q (by simp)
       lia
      ·rw [OO] at h
       subst h
       exact Pi _
     dsimp only
     lia
    ·have hm:=o.mem u
     rw [OV,OO,<- hm]
     unfold Mem
     constructor
     ·rintro ⟨t,ht',hu⟩
      rcases OV.mp ht' with h | h
      ·exact .inl ⟨t,h,hu⟩
      ·rw [OO] at h
       subst h
       exact .inr (by dsimp only at hu;lia)
     ·rintro (⟨t,ht',hu⟩ | rfl)
      ·exact ⟨t,OY _ ht',hu⟩
      ·exact ⟨(u,u),by simp,Pi _,Pi _⟩
    ·simp at h
     subst h
     simp
    ·have:=o.len
     simp at this ⊢
     lia)
 exact ⟨r,w9,hr,k1⟩
theorem D1 {ns:List Int} (h:ns.Nodup):(dA ns).Pairwise (· < ·):=by
 have h1:=zK ns
 have h2:(dA ns).Nodup:=(fv ns).nodup_iff.mpr h
 exact (h1.and h2).imp fun {a b} z=>by
  have:=z.1
  have:=z.2
  lia
theorem Hg (ns:List Int):(eR ns).Nodup /\ ∀ u,u ∈ eR ns ↔ u ∈ ns:=by
 have:∀ (l acc:List Int),acc.Nodup -> (l.foldl hG acc).Nodup /\ ∀ u,u ∈ l.foldl hG acc ↔ u ∈ acc \/ u ∈ l:=by
  intro l
  induction l with
  | nil=>intro acc h;exact ⟨h,fun u=>by simp⟩
  | cons a l ih=>
   intro acc h
   rw [O5]
   have hs:(hG acc a).Nodup /\ ∀ u,u ∈ hG acc a ↔ u ∈ acc \/ u = a:=by
    unfold hG
    by_cases hm:a ∈ acc
    ·simp [hm,h]
    ·simp [hm]
     rw [PP]
     exact ⟨h,by simp,fun x hx y hy=>by simp at hy;subst hy;intro e;subst e;exact hm hx⟩
   obtain ⟨h1,h2⟩:=ih _ hs.1
   exact ⟨h1,fun u=>by rw [h2,hs.2,OP,or_assoc]⟩
 have:=this ns [] .nil
 exact ⟨this.1,fun u=>by rw [show eR ns = ns.foldl hG [] from rfl,this.2];simp⟩
theorem Gm (ns:List Int):(dA (eR ns)).Pairwise (· < ·) /\ (∀ u,u ∈ dA (eR ns) ↔ u ∈ ns) /\ (dA (eR ns)).length <= ns.length:=by
 have h:=Hg ns
 refine ⟨D1 h.1,fun u=>by rw [(fv _).mem_iff,h.2],?_⟩
 rw [(fv _).length_eq]
 have:∀ (l acc:List Int),(l.foldl hG acc).length <= acc.length + l.length:=by
  intro l
  induction l with
  | nil=>intro acc;simp
  | cons a l ih=>
   intro acc
   rw [O5]
   have:=ih (hG acc a)
   have h2:(hG acc a).length <= acc.length + 1:=by unfold hG;split <;> simp
   rw [OL]
   lia
 have:=this ns []
 simpa [eR] using this
theorem AJ (ns:List Int):aJ (ns.map D.int) = some ns:=by
 induction ns with
 | nil=>rfl
 | cons a l ih=>simp [aJ,ih]
theorem Jc {a:XE} {ρ:M.Env} {ns:List Int} (h:a ρ = some (.lst (ns.map D.int))) (hl:ns.length <= 300):xIt (xL (gY a)) ρ = some ((dA (eR ns)).map D.int):=by
 have h1:gY a ρ = some ((dA (eR ns)).map D.int):=by
  unfold gY
  rw [h]
  simp only [Ra,AJ]
  rw [OC hl]
 unfold xIt xL
 rw [h1]
 rfl
theorem FA (cs:R) (hc:cs.length <= 45) (acc:Pic) (ha:acc.length <= 100) (at':Int) (v3 v4:Sl):∃ r w3 w4,RowIs r (dA (eR ((cs.filter fun c=>c.2 == at').map (·.1)))) /\ f9 [.sh (.lst (cs.map prD)),.ow (.lst (acc.map (O.sh ∘ pyD))),.sh (.int at'),v3,v4] = some (.nx [.sh (.lst (cs.map prD)),.ow (.lst ((acc ++ [(at',r)]).map (O.sh ∘ pyD))),.sh (.int at'),w3,w4]):=by
 have hfl:=Rt (fun c:Int × Int=>c.2 == at') cs
 have hc2:bV (ag 0) (xB (xOp (dEq false) (xOp dIx (aj 0) (xC (.int 1))) (aj 1))) (xOp dIx (aj 0) (xC (.int 0))) [.un,.sh (.int at')] (cs.map prD) = some (((cs.filter fun c=>c.2 == at').map (·.1)).map D.int):=by
  have:((cs.filter fun c=>c.2 == at').map (·.1)).map D.int = cs.filterMap fun c=>if c.2 = at' then some (D.int c.1) else none:=by
   generalize cs = l
   induction l with
   | nil=>rfl
   | cons c l ih=>
    rw [Pc,P6,<- ih]
    by_cases h:c.2 = at' <;> simp [h]
  rw [this]
  refine eG prD _ cs fun c _=>?_
  by_cases h:c.2 = at' <;> simp [gK,h]
 have hln:((cs.filter fun c=>c.2 == at').map (·.1)).length <= 45:=by rw [OJ];lia
 generalize (cs.filter fun c=>c.2 == at').map (·.1) = xs at hc2 hln ⊢
 obtain ⟨o1,o2,o3⟩:=Gm xs
 have lc:cs.length <= LIM:=aS (by lia)
 have lx:xs.length <= LIM:=aS (by lia)
 have la:acc.length < LIM:=fD (by lia)
 have l2:2 <= LIM:=aS (by lia)
 obtain ⟨r,w4,hr,hk⟩:=FZ (.sh (.lst (cs.map prD))) (.ow (.lst (acc.map (O.sh ∘ pyD)))) (.sh (.int at')) (dA (eR xs)) o1 (by lia) v4
 have lr:r.length <= LIM:=aS (by have:=hr.len;lia)
 refine ⟨r,.ow (.lst (r.map (O.sh ∘ prD))),w4,hr,?_⟩
 unfold f9
 rw [aI (ρ':=[.sh (.lst (cs.map prD)),.ow (.lst (acc.map (O.sh ∘ pyD))),.sh (.int at'),.ow (.lst []),v4]) (by simp)]
 rw [aI (by rw [jv (Jc (ns:=xs) (by simp [lc,hc2]) (by lia))];exact hk)]
 simp [la,lr,l2]
theorem iQ (cs:R) (hc:cs.length <= 45):ci [.lst (cs.map prD)] = some (dH (cA (cs.map cT))):=by
 have lc:cs.length <= LIM:=aS (by lia)
 have hc1:bV (ag 0) eT (xOp dIx (aj 0) (xC (.int 1))) [.un] (cs.map prD) = some ((cs.map (·.2)).map D.int):=by
  rw [O7]
  exact cV prD _ cs fun c _=>by simp [gK]
 obtain ⟨o1,o2,o3⟩:=Gm (cs.map (·.2))
 rw [OJ] at o3
 have hrow:∀ (y:Int) (r:R),RowIs r (dA (eR ((cs.filter fun c=>c.2 == y).map (·.1)))) -> ∀ u,Mem r u ↔ (u,y) ∈ cs:=fun y r o u=>by
  rw [o.mem,(Gm _).2.1,O1]
  constructor
  ·rintro ⟨c,hc,e⟩
   obtain ⟨h1,h2⟩:=Po.mp hc
   have h3:c.2 = y:=by simpa using h2
   obtain ⟨c1,c2⟩:=c
   simp only at e h3
   rw [<- e,<- h3]
   exact h1
  ·intro hc
   exact ⟨(u,y),Po.mpr ⟨hc,by simp⟩,rfl⟩
 obtain ⟨ρ',k1,p,v2,v3,v4,rfl,p1,p2,p3⟩:=bH (g:=ag 2) (m:=f9) D.int (fun pre ρ=>∃ (p:Pic) (v2 v3 v4:Sl),ρ = [.sh (.lst (cs.map prD)),.ow (.lst (p.map (O.sh ∘ pyD))),v2,v3,v4] /\ p.map (·.1) = pre /\ (∀ q ∈ p,eE q.2 /\ ∀ u,Mem q.2 u ↔ (u,q.1) ∈ cs) /\ p.length = pre.length) (dA (eR (cs.map (·.2)))) [.sh (.lst (cs.map prD)),.ow (.lst []),.un,.un,.un] ⟨[],.un,.un,.un,rfl,rfl,fun _ h=>(by cases h),rfl⟩ (by
  rintro pre y post _ e ⟨p,v2,v3,v4,rfl,p1,p2,p3⟩
  have hp:pre.length < 45:=by
   have:=OZ List.length e
   rw [OM,OL] at this
   lia
  obtain ⟨r,w3,w4,hr,hb⟩:=FA cs hc p (by lia) y v3 v4
  refine ⟨_,_,rfl,.inl hb,p ++ [(y,r)],_,_,_,rfl,by rw [Q1,p1];rfl,fun q hq=>?_,by rw [OM,OM,p3];rfl⟩
  rcases OV.mp hq with h | h
  ·exact p2 q h
  ·rw [OO] at h
   subst h
   exact ⟨hr.can,hrow y r hr⟩)
 have hpl:p.length <= LIM:=aS (by rw [p3];lia)
 have hcan:dB p:=by
  refine ⟨fun q hq=>⟨(p2 q hq).1,fun z=>?_⟩,?_⟩
  ·have hy:q.1 ∈ dA (eR (cs.map (·.2))):=by rw [<- p1];exact R7 hq
   rw [o2,O1] at hy
   obtain ⟨c,hc,e⟩:=hy
   have:=((p2 q hq).2 c.1).mpr (by rw [<- e];exact hc)
   rw [z] at this
   exact c5 _ this
  ·rw [<- p1,Ql] at o1
   exact o1
 have hmem:∀ x y,j5 (cs.map cT) x y ↔ mf p x y:=fun x y=>by
  constructor
  ·rintro ⟨t,ht,e1,e2,e3⟩
   obtain ⟨c,hc,rfl⟩:=O1.mp ht
   have ex:c.1 = x:=by dsimp only at e2 e3;lia
   have ey:c.2 = y:=e1
   have hc':(x,y) ∈ cs:=by rw [<- ex,<- ey];exact hc
   have hy:y ∈ p.map (·.1):=by rw [p1,o2,O1];exact ⟨_,hc',rfl⟩
   obtain ⟨q,hq,rfl⟩:=O1.mp hy
   exact ⟨q,hq,rfl,((p2 q hq).2 x).mpr hc'⟩
  ·rintro ⟨q,hq,rfl,hx⟩
   exact ⟨cT (x,q.1),R7 (((p2 q hq).2 x).mp hx),rfl,Pi _,Pi _⟩
 rw [mQ hcan hmem]
 have hx:jb [.sh (.lst (cs.map prD)),.un,.un,.un,.un] = some (.rt (dH p)):=by
  unfold jb
  rw [aI (ρ':=[.sh (.lst (cs.map prD)),.ow (.lst []),.un,.un,.un]) (by simp)]
  rw [aI (by rw [jv (Jc (ns:=cs.map (·.2)) (by simp [lc,hc1]) (by rw [OJ];lia))];exact k1)]
  simp [hpl,dH]
 exact IC hx
noncomputable def ddS (acc:R) (c:Int × Int):R:=if c ∈ acc then acc else acc ++ [c]
noncomputable def ddp (l:R):R:=l.foldl ddS []
theorem Ey (l:R) (c:Int × Int):ddp (l ++ [c]) = ddS (ddp l) c:=by unfold ddp;rw [Q7];rfl
theorem Hf (l:R) (c:Int × Int):c ∈ ddp l ↔ c ∈ l:=by
 have:∀ (l acc:R),c ∈ l.foldl ddS acc ↔ c ∈ acc \/ c ∈ l:=by
  intro l
  induction l with
  | nil=>intro acc;simp
  | cons a l ih=>
   intro acc
   rw [O5,ih,OP,<- or_assoc]
   refine or_congr_left ?_
   unfold ddS
   by_cases h:a ∈ acc
   ·rw [OC h]
    exact ⟨.inl,fun z=>z.elim id fun z=>by rw [z];exact h⟩
   ·rw [OB h,OV,OO]
 have h:=this l []
 unfold ddp
 rw [h]
 simp
theorem BZ (l:R):(ddp l).length <= l.length:=by
 have:∀ (l acc:R),(l.foldl ddS acc).length <= acc.length + l.length:=by
  intro l
  induction l with
  | nil=>intro acc;simp
  | cons a l ih=>
   intro acc
   rw [O5]
   have:=ih (ddS acc a)
   have h2:(ddS acc a).length <= acc.length + 1:=by unfold ddS;split <;> simp
   rw [OL]
   lia
 have:=this l []
 simpa [ddp] using this
theorem GX (ks:R) (c:Int × Int):p7 (ks.map kyC) (kyC c) = (ddS ks c).map kyC:=by
 unfold p7 ddS
 rw [nG]
 by_cases h:c ∈ ks
 ·simp [h]
 ·simp [h]
theorem v5 (a b:Sl) (e:Bool):∀ (t:R) {ks r:R} (v4:Sl),Way e ks t r -> ∃ w4,c0 (ag 4) j9 (t.map prD) [a,b,.sh (.bl e),.ow (.dic (ks.map kyC)),v4,.un,.un] = some (.nx [a,b,.sh (.bl e),.ow (.dic (r.map kyC)),w4,.un,.un])
 | [],ks,_,v4,h=>by
  cases h
  exact ⟨v4,rfl⟩
 | c :: t,ks,r,v4,h=>by
  obtain ⟨h1,h2,h3⟩:=h
  obtain ⟨w4,ih⟩:=v5 a b e t (.sh (prD c)) h3
  refine ⟨w4,?_⟩
  rw [<- ih,OQ]
  refine iM (ρ1:=[a,b,.sh (.bl e),.ow (.dic (ks.map kyC)),.sh (prD c),.un,.un]) rfl ?_
  have hg:=jU ks c.1 c.2 e
  rw [h2] at hg
  have hk:=nG ks c
  rw [Pr h1] at hk
  have hd:=B0 ks c
  rw [<- hd]
  generalize ks.map kyC = kk at *
  simp at hk
  simp [j9,hg,hk,kyD,aJ,gB,fZ]
theorem DU (a b:Sl) (e:Bool) (r:R) (h:∀ c ∈ r,goF r e c = false) (v4:Sl):∃ w5 w6,c0 (a8 (ao (ag 5) (ao (ag 6) bd))) g7 (r.map prD) [a,b,.sh (.bl e),.sh (.dif (r.map kyC)),v4,.un,.un] = some (.nx [a,b,.sh (.bl e),.sh (.dif (r.map kyC)),v4,w5,w6]):=by
 obtain ⟨ρ',k1,w5,w6,rfl⟩:=bH (g:=a8 (ao (ag 5) (ao (ag 6) bd))) (m:=g7) prD (fun pre ρ=>∃ w5 w6:Sl,ρ = [a,b,.sh (.bl e),.sh (.dif (r.map kyC)),v4,w5,w6]) r [a,b,.sh (.bl e),.sh (.dif (r.map kyC)),v4,.un,.un] ⟨.un,.un,rfl⟩ (by
  rintro pre c post _ er ⟨w5,w6,rfl⟩
  have hg:=jU r c.1 c.2 e
  rw [h c (by rw [er];simp)] at hg
  refine ⟨_,_,rfl,.inl ?_,.sh (.int c.1),.sh (.int c.2),rfl⟩
  generalize r.map kyC = kk at hg ⊢
  simp [g7,hg])
 exact ⟨w5,w6,k1⟩
theorem o6 (cs t r:R) (e:Bool) (hc:cs.length <= 45) (hw:Way e (ddp cs) t r) (hr:∀ c ∈ r,goF r e c = false):jC [.lst (cs.map prD),.lst (t.map prD),.bl e] = some (.lst ((r.map prD).map O.sh)):=by
 obtain ⟨ρ1,k1,v4,rfl⟩:=bH (g:=ag 4) (m:=j8) prD (fun pre ρ=>∃ v4:Sl,ρ = [.sh (.lst (cs.map prD)),.sh (.lst (t.map prD)),.sh (.bl e),.ow (.dic ((ddp pre).map kyC)),v4,.un,.un]) cs [.sh (.lst (cs.map prD)),.sh (.lst (t.map prD)),.sh (.bl e),.ow (.dic []),.un,.un,.un] ⟨.un,rfl⟩ (by
  rintro pre c post _ er ⟨v4,rfl⟩
  have hl:pre.length < 45:=by
   have:=OZ List.length er
   rw [OM,OL] at this
   lia
  have hl2:((ddp pre).map kyC).length < LIM:=fD (by rw [OJ];have:=BZ pre;lia)
  refine ⟨_,_,rfl,.inl ?_,.sh (prD c),rfl⟩
  rw [Ey,<- GX]
  generalize (ddp pre).map kyC = kk at hl2 ⊢
  simp [j8,hl2,kyD,aJ])
 obtain ⟨w4,k2⟩:=v5 (.sh (.lst (cs.map prD))) (.sh (.lst (t.map prD))) e t v4 hw
 obtain ⟨w5,w6,k3⟩:=DU (.sh (.lst (cs.map prD))) (.sh (.lst (t.map prD))) e r hr w4
 have hx:k6 [.sh (.lst (cs.map prD)),.sh (.lst (t.map prD)),.sh (.bl e),.un,.un,.un,.un] = some (.ro (.lst ((r.map prD).map O.sh))):=by
  have ek:(r.map kyC).map (fun k=>D.tup (k.map D.int)) = r.map prD:=by rw [O7];rfl
  have ek2:(r.map kyC).map nZ = r.map prD:=by rw [O7];rfl
  unfold k6
  rw [aI (ρ':=[.sh (.lst (cs.map prD)),.sh (.lst (t.map prD)),.sh (.bl e),.ow (.dic []),.un,.un,.un]) (by simp [GL])]
  rw [aI (by rw [jv (l:=cs.map prD) (by simp)];exact k1),aI (by rw [jv (l:=t.map prD) (by simp)];exact k2)]
  rw [aI (ρ':=[.sh (.lst (cs.map prD)),.sh (.lst (t.map prD)),.sh (.bl e),.sh (.dif (r.map kyC)),w4,w5,w6]) (by
   show ge (qS 3) _ _ [.sh (.lst (cs.map prD)),.sh (.lst (t.map prD)),.sh (.bl e),.sh (.dif (r.map kyC)),w4,.un,.un] = _
   rw [jv (l:=r.map prD) (by rw [<- ek];rfl)]
   exact k3)]
  unfold tZ xLT xM
  show Option.map _ (Option.map _ (some ((r.map kyC).map nZ))) = _
  rw [ek2]
  rfl
 exact IB (n:=7) (ds:=[.lst (cs.map prD),.lst (t.map prD),.bl e]) hx
theorem vC {α:Type} [DecidableEq α]:∀ {l m:List α},l.Nodup -> (∀ a ∈ l,a ∈ m) -> l.length <= m.length
 | [],m,_,_=>Pl _
 | a :: l,m,h,k=>by
  obtain ⟨h1,h2⟩:=O4.mp h
  have ha:=k a OI
  have ih:=vC (m:=m.erase a) h2 fun b hb=>(Sk (fun e=>h1 (by rw [<- e];exact hb))).mpr (k b (OK _ hb))
  rw [Sm ha] at ih
  have:=List.length_pos_of_mem ha
  rw [OL]
  lia
theorem nY:∀ ts:List Tri,(∀ t ∈ ts,t.2.1 <= t.2.2) -> ts.length <= (aL ts).length
 | [],_=>OH _
 | t :: ts,h=>by
  have h1:=nY ts fun s hs=>h s (OK _ hs)
  have h2:=h t OI
  rw [fL,OM,mr,OL]
  lia
theorem pT:∀ {p:Pic},dB p -> p.length <= (aR p).length
 | [],_=>OH _
 | q :: p,c=>by
  obtain ⟨⟨h1,h2⟩,_,h3⟩:=pcanon_cons.mp c
  have ih:=pT h3
  have:q.2.length ≠ 0:=fun z=>h2 (Q6 z)
  rw [fw,OM,OJ,OL]
  lia
theorem Co {a b:R} (h:∀ c,c ∈ a ↔ c ∈ b):cA (a.map cT) = cA (b.map cT):=by
 refine mQ (kL _).1 fun x y=>?_
 rw [(kL _).2]
 have:∀ l:R,j5 (l.map cT) x y ↔ (x,y) ∈ l:=fun l=>by
  constructor
  ·rintro ⟨t,ht,e1,e2,e3⟩
   obtain ⟨c,hc,rfl⟩:=O1.mp ht
   have ex:c.1 = x:=by dsimp only at e2 e3;lia
   have ey:c.2 = y:=e1
   rw [<- ex,<- ey]
   exact hc
  ·intro hc
   exact ⟨cT (x,y),R7 hc,rfl,Pi _,Pi _⟩
 rw [this,this,h]
structure Small (p:Pic) (cs:R):Prop where
 can:dB p
 cn:cnt p <= 1000
 st:(aR p).length <= 30000
 ln:p.length <= 30000
 rw':∀ q ∈ p,q.2.length <= 30000
 cl:(aL (aR p)).length <= 45
 mem:∀ c,c ∈ aL (aR p) ↔ c ∈ cs
theorem vI (cs:R) (hc:cs.length <= 45):Small (cA (cs.map cT)) cs:=by
 obtain ⟨c,hm⟩:=kL (cs.map cT)
 generalize cA (cs.map cT) = p at c hm
 have mem:∀ c,c ∈ aL (aR p) ↔ c ∈ cs:=fun c=>by
  obtain ⟨x,y⟩:=c
  rw [AW,Gy,hm]
  constructor
  ·rintro ⟨t,ht,e1,e2,e3⟩
   obtain ⟨c,hc,rfl⟩:=O1.mp ht
   have ex:c.1 = x:=by dsimp only at e2 e3;lia
   have ey:c.2 = y:=e1
   rw [<- ex,<- ey]
   exact hc
  ·intro hc
   exact ⟨cT (x,y),R7 hc,rfl,Pi _,Pi _⟩
 have hl:(aL (aR p)).length <= 45:=OW (vC (jE c) fun a ha=>(mem a).mp ha) hc
 have hs:=nY (aR p) (tO c)
 have hr:=pT c
 have hn:cnt p = ((aL (aR p)).length:Int):=by rw [wC,mq _ (tO c)]
 exact ⟨c,by lia,by lia,by lia,fun q hq=>by have:=uN hq;lia,hl,mem⟩
theorem kJ (p:Pic) (way:Int) (h:way = 0 \/ way = 1 \/ way = 2) {o:O} (ho:cO [dH p,.bl (decide (way ≠ 2))] = some o):kH [dH p,.int way] = some o:=by
 rcases h with rfl | rfl | rfl <;> simp at ho <;> simp [kH,fnO,wf,ho]
theorem xf (p:Pic) (l:R):okD 50 (.tup [dH p,.lst (l.map prD)]) = true:=by
 have h1:okD 49 (dH p) = true:=by
  rw [okD]
  refine sR p fun q _=>?_
  simp only [okD,okDs]
  rw [nM 45 q.2]
  rfl
 have h2:okD 49 (.lst (l.map prD)) = true:=by rw [okD];exact nM 47 l
 rw [okD,okDs,okDs,okDs,h1,h2]
 rfl
theorem B6:∀ l:R,Dm (l.map prD) = true
 | []=>rfl
 | c :: l=>by
  rw [OQ]
  show ((aJ [.int c.1,.int c.2]).isSome && Dm (l.map prD)) = true
  rw [B6 l]
  rfl
theorem Fd (ns:List Int) (h:ns.length <= 63):K8 [.scr (ns.map D.int)] = some (.bl true):=by
 have l2:2 <= LIM:=aS (by lia)
 obtain ⟨P50,hP50⟩:∃ P:Int,(10:Int) ^ (50:Int).toNat = P:=⟨_,rfl⟩
 have p50:Ha (.int 10) (.int 50) = some (.int P50):=by rw [<- hP50];exact L1 (by decide)
 have h50:0 < P50:=by rw [<- hP50];decide
 clear hP50
 obtain ⟨f,hf⟩:∃ v:Int,aN [.scr (ns.map D.int),.int 0] = some (.int v):=lD ns 0
 obtain ⟨c1,hc1⟩:∃ v:Int,aN [.scr (ns.map D.int),.int 1] = some (.int v):=lD ns 1
 obtain ⟨c2,hc2⟩:∃ v:Int,aN [.scr (ns.map D.int),.int 2] = some (.int v):=lD ns 2
 obtain ⟨way,hway⟩:∃ w:Int,c2 / 5 % 3 = w:=⟨_,rfl⟩
 have hw3:way = 0 \/ way = 1 \/ way = 2:=by lia
 obtain ⟨far,hfar⟩:∃ w:Int,f / 3 % 2 * (c1 % P50) = w:=⟨_,rfl⟩
 have hmul:jo (.int (f / 3 % 2)) (.int (c1 % P50)) = some (.int far):=by rw [<- hfar];exact ga (.inl (by lia))
 obtain ⟨ps,hps,lps⟩:=sG ns
 obtain ⟨cs,hcs⟩:∃ cs:R,ps.map (fun c=>(c.1 + far,c.2 - far)) = cs:=⟨_,rfl⟩
 have hcl:cs.length <= 45:=by rw [<- hcs,OJ];lia
 have hcm:bV (a8 (ao (ag 0) (ao (ag 1) bd))) eT (bq (ad (xOp dF (aj 0) (aj 2)) (ad (xOp yd (aj 1) (aj 2)) av))) [.un,.un,.sh (.int far)] (ps.map prD) = some (cs.map prD):=by
  rw [<- hcs,O7]
  exact cV prD _ ps fun c _=>by simp [gK,l2]
 have lps':ps.length <= LIM:=aS (by lia)
 have hpic:=iQ cs hcl
 have sm:=vI cs hcl
 obtain ⟨e,he⟩:∃ e:Bool,decide (way ≠ 2) = e:=⟨_,rfl⟩
 have ht:=kS sm.can e sm.cn sm.st sm.ln sm.rw' (by have:=sm.cl;lia)
 have nd:=jE sm.can
 have way0:=zS e ((aL (aR (cA (cs.map cT)))).length + 1) [] (aL (aR (cA (cs.map cT)))) (ks0:=aL (aR (cA (cs.map cT)))) nd rfl
 have end0:=zR e ((aL (aR (cA (cs.map cT)))).length + 1) [] (aL (aR (cA (cs.map cT)))) nd (QD _)
 generalize cL e ((aL (aR (cA (cs.map cT)))).length + 1) [] (aL (aR (cA (cs.map cT)))) = tr at ht way0 end0
 obtain ⟨t,r⟩:=tr
 dsimp only at ht way0 end0
 obtain ⟨wsub,wlen⟩:=xF e t way0
 have htl:t.length <= 45:=by have:=sm.cl;lia
 obtain ⟨r',way1,hrr⟩:=CN e t (ks':=ddp cs) (fun c=>by rw [sm.mem,Hf]) way0
 have hrl:r.length <= 45:=by have:=wsub.length_le;have:=sm.cl;lia
 have hrl':r'.length <= 45:=by have:=(xF e t way1).1.length_le;have:=BZ cs;lia
 have ng:=DA end0
 have ng':∀ c ∈ r',goF r' e c = false:=fun c hc=>by rw [<- AH hrr];exact ng c ((hrr c).mpr hc)
 have hwk:=o6 cs t r' e hcl way1 ng'
 have epic:cA (r'.map cT) = cA (r.map cT):=Co fun c=>(hrr c).symm
 have hpic2:=iQ r' hrl'
 rw [epic] at hpic2
 have sm2:=vI r hrl
 have ht2:=kS sm2.can e sm2.cn sm2.st sm2.ln sm2.rw' (by have:=sm2.cl;lia)
 rw [CK (fun c hc=>by rw [AH sm2.mem];exact ng c ((sm2.mem c).mp hc))] at ht2
 dsimp only at ht2
 rw [Co sm2.mem] at ht2
 have ht3:=kS (p:=[]) sV true (by decide) (by decide) (by decide) (fun _ h=>(by cases h)) (by decide)
 have e3:cL true ((aL (aR [])).length + 1) [] (aL (aR [])) = ([],[]):=CK (fun c hc=>by cases hc) 0
 rw [e3] at ht3
 dsimp only at ht3
 have e4:cA ([].map cT) = []:=mQ sV fun x y=>⟨fun ⟨t,ht,_⟩=>(by cases ht),fun ⟨q,hq,_⟩=>(by cases hq)⟩
 rw [e4] at ht3
 rw [<- he] at ht ht2
 have k1:=kJ _ way hw3 ht
 have k2:=kJ _ way hw3 ht2
 clear ht ht2 way0 end0 way1 sm sm2 nd ng ng' epic hrr wsub wlen
 generalize cA (cs.map cT) = p at *
 generalize cA (r.map cT) = q at *
 have m1:dQ [dH p,.int way] = some (.tup [dH q,.lst (t.map prD)]):=by
  unfold dQ
  rw [k1]
  simp
 have m2:dQ [dH q,.int way] = some (.tup [dH q,.lst []]):=by
  unfold dQ
  rw [k2]
  simp
 have m3:cF [.tup [],.bl true] = some (.tup [.tup [],.lst []]):=by
  unfold cF
  have:cO [.tup [],.bl true] = some (.tup [.sh (.tup []),.lst []]):=ht3
  rw [this]
  simp
 clear k2 ht3
 refine IC ?_
 show BL [.sh (.scr (ns.map D.int)),.un,.un,.un,.un,.un,.un,.un] = _
 unfold BL
 rw [aI (ρ':=[.sh (.scr (ns.map D.int)),.sh (.int way),.un,.un,.un,.un,.un,.un]) (by simp [hc2,hway])]
 rw [aI (ρ':=[.sh (.scr (ns.map D.int)),.sh (.int way),.sh (.int far),.un,.un,.un,.un,.un]) (by simp [hf,hc1,p50,Jj h50,hmul])]
 rw [aI (ρ':=[.sh (.scr (ns.map D.int)),.sh (.int way),.sh (.int far),.sh (.lst (cs.map prD)),.un,.un,.un,.un]) (by simp [hps,lps',hcm])]
 rw [aI (ρ':=[.sh (.scr (ns.map D.int)),.sh (.int way),.sh (.int far),.sh (.lst (cs.map prD)),.ow (.tup [.sh (dH q),.lst (t.map (O.sh ∘ prD))]),.un,.un,.un]) (by simp [hpic,k1])]
 have epr:t.map (O.sh ∘ prD) = (t.map prD).map O.sh:=by rw [O7]
 have hsh:∀ l:List D,shs (l.map O.sh) = some l:=fun l=>by
  induction l with
  | nil=>rfl
  | cons a l ih=>simp [shs,ih]
 have hq:∃ l,dH q = .tup l:=⟨_,rfl⟩
 have d1:=nj true (HH q)
 have d2:=nj false (xf q t)
 have d3:=nj false (xf q [])
 have d4:=nj false (xf [] [])
 have ltd:(t.map prD).length <= LIM:=by rw [OJ];exact aS (by lia)
 have ltd':(t.map prD).length < LIM:=by rw [OJ];exact fD (by lia)
 have hits:=B6 r'
 have he2:(!decide (way = 2)) = e:=by rw [<- he];simp
 have hnn:∀ l:List D,nI (.lst l) = false:=fun _=>rfl
 rw [epr]
 generalize t.map prD = tl at *
 generalize r'.map prD = rl at *
 generalize dH q = pq at *
 obtain ⟨lq,rfl⟩:=hq
 rw [aI (ρ':=[.sh (.scr (ns.map D.int)),.sh (.int way),.sh (.int far),.sh (.lst (cs.map prD)),.ow (.tup [.sh (.tup lq),.lst (tl.map O.sh)]),.un,.un,.un]) (by simp [hsh])]
 rw [aI (ρ':=[.sh (.scr (ns.map D.int)),.sh (.int way),.sh (.int far),.sh (.lst (cs.map prD)),.ow (.tup [.sh (.tup lq),.lst (tl.map O.sh)]),.sh (.lst rl),.un,.un]) (by simp [hsh,he2,hwk,hits])]
 rw [aI (ρ':=[.sh (.scr (ns.map D.int)),.sh (.int way),.sh (.int far),.sh (.lst (cs.map prD)),.ow (.tup [.sh (.tup lq),.lst (tl.map O.sh)]),.sh (.lst rl),.un,.un]) (by simp at d1;simp [hnn,hpic2,d1])]
 rw [aI (ρ':=[.sh (.scr (ns.map D.int)),.sh (.int way),.sh (.int far),.sh (.lst (cs.map prD)),.ow (.tup [.sh (.tup lq),.lst (tl.map O.sh)]),.sh (.lst rl),.sh (.lst tl),.un]) (by simp [hsh,ltd])]
 rw [aI (ρ':=[.sh (.scr (ns.map D.int)),.sh (.int way),.sh (.int far),.sh (.lst (cs.map prD)),.ow (.tup [.sh (.tup lq),.lst ((tl ++ [D.tup [.int 0,.int 0]]).map O.sh)]),.sh (.lst rl),.sh (.lst tl),.un]) (by simp [hsh,ltd',l2])]
 rw [aI (ρ':=[.sh (.scr (ns.map D.int)),.sh (.int way),.sh (.int far),.sh (.lst (cs.map prD)),.ow (.tup [.sh (.tup lq),.lst ((tl ++ [D.tup [.int 0,.int 0]]).map O.sh)]),.sh (.lst rl),.sh (.lst tl),.sh (.tup [.tup lq,.lst tl])]) (by simp [hpic,m1])]
 simp at d2 d3 d4
 simp [m2,m3,l2,d2,d3]
 exact d4
end P
namespace Lw
open PySem L2 M P
noncomputable def top (i : Nat) : Stmt := PySem.Challenge.pw_shapethin_k53_thinned_cell_by_cell.main.body.getD i (.Pass ⟨0, 0, 0, 0⟩)
noncomputable abbrev gP:Stmt:=top 4
noncomputable abbrev dg:Stmt:=top 5
noncomputable abbrev cg:Stmt:=top 8
noncomputable abbrev bO:Stmt:=top 9
noncomputable abbrev cu:Stmt:=top 10
noncomputable abbrev d7:Stmt:=top 11
noncomputable abbrev jI:Stmt:=top 15
noncomputable abbrev bN:Stmt:=top 16
noncomputable abbrev bC:Stmt:=top 19
noncomputable abbrev du:Stmt:=top 20
noncomputable abbrev cS:Stmt:=top 21
noncomputable abbrev eB:Stmt:=top 22
noncomputable abbrev mT:Stmt:=top 23
noncomputable abbrev fk:Stmt:=top 25
noncomputable abbrev iX:Stmt:=top 26
noncomputable abbrev df:Stmt:=top 27
noncomputable abbrev fm:Stmt:=top 28
noncomputable abbrev lw:Stmt:=top 29
noncomputable abbrev gh:Stmt:=top 30
noncomputable abbrev l4:Stmt:=top 31
structure Txt (K:W.Frag) (mg:Str -> Option Value):Prop where
 dict:mg "dict" = none
 int:mg "int" = none
 isinstance:mg "isinstance" = none
 len:mg "len" = none
 list:mg "list" = none
 max:mg "max" = none
 range:mg "range" = none
 set:mg "set" = none
 sorted:mg "sorted" = none
 sum:mg "sum" = none
 tuple:mg "tuple" = none
 MOST_CELLS:∃ t:Tok,mg "MOST_CELLS" = some (.int (1000) t)
 ROUND:∃ (u:Value) (v:V),mg "ROUND" = some u /\ RelV v u /\ ∀ S,Den K S (.mtp [.mtp [.int (0),.int (-1),.int (1)],.mtp [.int (-1),.int (-1),.int (2)],.mtp [.int (-1),.int (0),.int (4)],.mtp [.int (-1),.int (1),.int (8)],.mtp [.int (0),.int (1),.int (16)],.mtp [.int (1),.int (1),.int (32)],.mtp [.int (1),.int (0),.int (64)],.mtp [.int (1),.int (-1),.int (128)]]) v
 SIDES:∃ (u:Value) (v:V),mg "SIDES" = some u /\ RelV v u /\ ∀ S,Den K S (.mtp [.mtp [.int (0),.int (-1)],.mtp [.int (-1),.int (0)],.mtp [.int (0),.int (1)],.mtp [.int (1),.int (0)]]) v
 STRAIGHT:∃ (u:Value) (v:V),mg "STRAIGHT" = some u /\ RelV v u /\ ∀ S,Den K S (.mtp [.int (1),.int (4),.int (16),.int (64)]) v
section
variable {P:Program} {w:World} {K:W.Frag} {mg:Str -> Option Value} {base:Heap}
theorem vV:FnScope ["pairs", "stretches", "a", "b"] ["pairs"] (am gP):=⟨rfl,rfl,rfl,by decide +kernel,rfl,by decide +kernel,by decide +kernel⟩
theorem nS:FnScope ["row"] ["row"] (am dg):=⟨rfl,rfl,rfl,by decide +kernel,rfl,by decide +kernel,by decide +kernel⟩
theorem jZ:FnScope ["picture", "stretches", "y", "row"] ["picture"] (am bO):=⟨rfl,rfl,rfl,by decide +kernel,rfl,by decide +kernel,by decide +kernel⟩
theorem zD:FnScope ["number", "twice"] ["number"] (am jI):=⟨rfl,rfl,rfl,by decide +kernel,rfl,by decide +kernel,by decide +kernel⟩
theorem jY:FnScope ["number"] ["number"] (am bN):=⟨rfl,rfl,rfl,by decide +kernel,rfl,by decide +kernel,by decide +kernel⟩
theorem l6:FnScope ["kept", "dx", "dy"] ["kept", "dx", "dy"] (am cS):=⟨rfl,rfl,rfl,by decide +kernel,rfl,by decide +kernel,by decide +kernel⟩
theorem pU:FnScope ["_law_script", "_law_k"] ["_law_script", "_law_k"] (am fk):=⟨rfl,rfl,rfl,by decide +kernel,rfl,by decide +kernel,by decide +kernel⟩
theorem pV:FnScope ["_law_spots_here", "_law_rows", "_law_y", "_law_row", "_law_x"] ["_law_spots_here"] (am df):=⟨rfl,rfl,rfl,by decide +kernel,rfl,by decide +kernel,by decide +kernel⟩
theorem tz:FnScope ["_law_there", "_law_x", "_law_y", "_law_ends", "_law_steps", "_law_bits", "_law_total", "_law_k"] ["_law_there", "_law_x", "_law_y", "_law_ends"] (am fm):=⟨rfl,rfl,rfl,by decide +kernel,rfl,by decide +kernel,by decide +kernel⟩
theorem l7:FnScope ["stretches", "pairs_by_row", "y", "a", "b"] ["stretches"] (am cg):=⟨rfl,rfl,rfl,by decide +kernel,rfl,by decide +kernel,by decide +kernel⟩
theorem kQ:FnScope ["picture"] ["picture"] (am cu):=⟨rfl,rfl,rfl,by decide +kernel,rfl,by decide +kernel,by decide +kernel⟩
theorem CF:FnScope ["kept", "x", "y", "ends", "number"] ["kept", "x", "y", "ends"] (am mT):=⟨rfl,rfl,rfl,by decide +kernel,rfl,by decide +kernel,by decide +kernel⟩
theorem vU:FnScope ["_law_script", "_law_first", "_law_spots_here", "_law_wide", "_law_high", "_law_kind", "_law_k", "_law_x", "_law_y", "_law_cell", "_law_mixed"] ["_law_script"] (am iX):=⟨rfl,rfl,rfl,by decide +kernel,rfl,by decide +kernel,by decide +kernel⟩
theorem tD:FnScope ["_law_spots_here", "_law_taken", "_law_ends", "_law_there", "_law_spot", "_law_x", "_law_y"] ["_law_spots_here", "_law_taken", "_law_ends"] (am gh):=⟨rfl,rfl,rfl,by decide +kernel,rfl,by decide +kernel,by decide +kernel⟩
theorem pW:FnScope ["picture", "cells", "y", "a", "b"] ["picture"] (am d7):=⟨rfl,rfl,rfl,by decide +kernel,rfl,by decide +kernel,by decide +kernel⟩
theorem nT:FnScope ["kept", "free", "ends", "taken", "cell"] ["kept", "free", "ends"] (am eB):=⟨rfl,rfl,rfl,by decide +kernel,rfl,by decide +kernel,by decide +kernel⟩
theorem l8:FnScope ["kept", "ends", "taken", "dx", "dy"] ["kept", "ends"] (am du):=⟨rfl,rfl,rfl,by decide +kernel,rfl,by decide +kernel,by decide +kernel⟩
theorem tE:FnScope ["picture", "ends", "kept", "taken", "taken_before"] ["picture", "ends"] (am bC):=⟨rfl,rfl,rfl,by decide +kernel,rfl,by decide +kernel,by decide +kernel⟩
theorem zC:FnScope ["_law_picture_here", "_law_way"] ["_law_picture_here", "_law_way"] (am lw):=⟨rfl,rfl,rfl,by decide +kernel,rfl,by decide +kernel,by decide +kernel⟩
theorem Gc:FnScope ["_law_script", "_law_way", "_law_far", "_law_spots_here", "_law_found", "_law_left", "_law_kept", "_law_again"] ["_law_script"] (am l4):=⟨rfl,rfl,rfl,by decide +kernel,rfl,by decide +kernel,by decide +kernel⟩
theorem y3 {f:Addr} {fd:FuncData} (F:Fun K "_law_cell_at" "_law_cell_at" fk f fd) (T:Txt K mg):FnOk P w K mg base CX0 1 f fd ["_law_script", "_law_k"] (fU K):=by
 refine F.ok pU (fun vs H Q E h=>h.1) (fun cdv A outer s H vs Q E hr h=>?_)
 have nd:=(pU).nd
 exact ⟨_,ap (gN (bf IM (pv 1) (bm ee (by rfl) T.len kr (ab (pv 0) ah)) (bg _)) (az (bo (bA a5 (pv 0) (pv 1) (fun _ _=>rfl)))) dr) (az (bo ai)),zp h⟩
theorem A4 {f:Addr} {fd:FuncData} (F:Fun K "_law_may_go" "_law_may_go" fm f fd) (T:Txt K mg):FnOk P w K mg base CX0 1 f fd ["_law_there", "_law_x", "_law_y", "_law_ends"] (jK K):=by
 refine F.ok tz (fun vs H Q E h=>h.1) (fun cdv A outer s H vs Q E hr h=>?_)
 have nd:=(tz).nd
 exact ⟨_,ap (a9 (i:=4) nd rfl (.inl rfl) (dZ (ab (aU (ab ai (ab (f7 dE ai) ah))) (ab (aU (ab (f7 dE ai) (ab (f7 dE ai) ah))) (ab (aU (ab (f7 dE ai) (ab ai ah))) (ab (aU (ab (f7 dE ai) (ab ai ah))) (ab (aU (ab ai (ab ai ah))) (ab (aU (ab ai (ab ai ah))) (ab (aU (ab ai (ab ai ah))) (ab (aU (ab ai (ab (f7 dE ai) ah))) ah)))))))))) (ap (Cs (i:=5) (hN:=nd) (hi0:=rfl) (hx:=Or.inl rfl) (ck:=(show CmpOk ["_law_there", "_law_x", "_law_y", "_law_ends", "_law_steps", "_law_bits", "_law_total", "_law_k"] (am fm) _ ["_law_dx", "_law_dy", "_law_there", "_law_x", "_law_y"] [none,none,some 0,some 1,some 2] from fM)) (hi:=bz (pv 4)) (hg:=fun _=>cZ rfl (aC (aw (i:=0) (show List.Nodup (["_law_dx", "_law_dy", "_law_there", "_law_x", "_law_y"]:List Str) from by decide +kernel) rfl (.inl rfl)) (aC (aw (i:=1) (show List.Nodup (["_law_dx", "_law_dy", "_law_there", "_law_x", "_law_y"]:List Str) from by decide +kernel) rfl (.inl rfl)) bR))) (hs:=fY (aP aQ (aP aQ dX aF) aF)) (ht:=fun _=>fF) (he:=fun _=>eA C4 (by rfl) T.int JA (ab (J7 (Fu (un1 hr.units) (aU (ab (aO bu (pv 3) (pv 0)) (ab (aO bu (pv 4) (pv 1)) ah))) (pv 2))) ah))) (ap (gN (PW.pt (pi (dJ (pv 3) (fun _=>rfl)) (lv (bf IM (bm (lf rfl) (by rfl) T.sum wz (ab (pv 5) ah)) ai (bg _))))) (az (bo zh)) dr) (ap (a9 (i:=6) nd rfl (.inl rfl) ai) (ap (d6 Pq rfl (bz (dZ (ab ai (ab ai (ab ai (ab ai ah)))))) (aw (i:=7) nd rfl (.inl rfl)) (az (gN (PW.pt (pi (bf (fi hr.units) (bA a5 (pv 5) (pv 7) (fun _ _=>rfl)) ai (bg _)) (lv (bf Ch (aO bu (bA a5 (pv 5) (aO bu (pv 7) ai) (fun _ _=>rfl)) (bA a5 (pv 5) (aO fW (aO bu (pv 7) ai) ai) (fun _ _=>rfl))) ai (bg _))))) (az (a9 (i:=6) nd rfl (.inl rfl) (aO bu (pv 6) ai))) dr))) (az (bo (ig (fi hr.units) (pv 6) ai (bg _)))))))),Bi h⟩
theorem y6 {f:Addr} {fd:FuncData} (F:Fun K "_law_picture" "_law_picture" df f fd) (T:Txt K mg):FnOk P w K mg base CX0 1 f fd ["_law_spots_here"] (ik K):=by
 refine F.ok pV (fun vs H Q E h=>h.1) (fun cdv A outer s H vs Q E hr h=>?_)
 have nd:=(pV).nd
 exact ⟨_,ap (a9 (i:=1) nd rfl (.inl rfl) (dZ ah)) (ap (d6 Pq rfl (bz (sW T.sorted T.set (cP (show CmpOk ["_law_spots_here", "_law_rows", "_law_y", "_law_row", "_law_x"] (am df) _ ["_law_spot"] [none] from fM) (bz (pv 0)) (fun _=>aw (i:=0) (show List.Nodup (["_law_spot"]:List Str) from by decide +kernel) rfl (.inl rfl)) aQ (fun _=>fF) (fun _=>bA a5 (pv 0) ai (fun _ _=>rfl))))) (aw (i:=2) nd rfl (.inr rfl)) (ap (a9 (i:=3) nd rfl (.inl rfl) (dZ ah)) (ap (d6 Pq rfl (bz (sW T.sorted T.set (cP (show CmpOk ["_law_spots_here", "_law_rows", "_law_y", "_law_row", "_law_x"] (am df) _ ["_law_spot", "_law_y"] [none,some 2] from fM) (bz (pv 0)) (fun _=>aw (i:=0) (show List.Nodup (["_law_spot", "_law_y"]:List Str) from by decide +kernel) rfl (.inl rfl)) aQ (fun _=>jF (bf (fi hr.units) (bA a5 (pv 0) ai (fun _ _=>rfl)) (pv 1) (bg _))) (fun _=>bA a5 (pv 0) ai (fun _ _=>rfl))))) (aw (i:=4) nd rfl (.inl rfl)) (az (gN (PW.pt (pi (bf Ch (bm ee (by rfl) T.len kr (ab (pv 3) ah)) ai (bg _)) (lv (bf (fi hr.units) (aO bu (bA a5 (bA a5 (pv 3) (f7 dE ai) (fun _ _=>rfl)) ai (fun _ _=>rfl)) ai) (pv 4) (bg _))))) (az (FH (aU (ab (bA a5 (bA a5 (pv 3) (f7 dE ai) (fun _ _=>rfl)) ai (fun _ _=>rfl)) (ab (pv 4) ah))) (Fz (pv 3) (f7 dE ai) zE))) (az (cQ (gM PD Qf Qg cX (pv 3) (ab (aU (ab (pv 4) (ab (pv 4) ah))) ah))))))) (az (cQ (gM PD Qf Qg cX (pv 1) (ab (aU (ab (pv 2) (ab (eA fB (by rfl) T.tuple gy (ab (pv 3) ah)) ah))) ah))))))) (az (bo (eA fB (by rfl) T.tuple gy (ab (pv 1) ah))))),zq h⟩
theorem qK {f:Addr} {fd:FuncData} (F:Fun K "count_around" "count_around" bN f fd) (T:Txt K mg):FnOk P w K mg base CX0 1 f fd ["number"] (dU K):=by
 refine F.ok jY (fun vs H Q E h=>h.1) (fun cdv A outer s H vs Q E hr h=>?_)
 have nd:=(jY).nd
 exact ⟨_,az (bo (bm ee (by rfl) T.len kr (ab (cP (show CmpOk ["number"] (am bN) _ ["dx", "dy", "worth", "number"] [none,none,none,some 0] from fM) (bz (nO (by rfl) T.ROUND.choose_spec.choose_spec.1 T.ROUND.choose_spec.choose_spec.2.1 T.ROUND.choose_spec.choose_spec.2.2)) (fun _=>cZ rfl (aC (aw (i:=0) (show List.Nodup (["dx", "dy", "worth", "number"]:List Str) from by decide +kernel) rfl (.inl rfl)) (aC (aw (i:=1) (show List.Nodup (["dx", "dy", "worth", "number"]:List Str) from by decide +kernel) rfl (.inl rfl)) (aC (aw (i:=2) (show List.Nodup (["dx", "dy", "worth", "number"]:List Str) from by decide +kernel) rfl (.inl rfl)) bR)))) (fY (aP aQ (aP aQ (aP aQ dX aF) aF) aF)) (fun _=>jF (bf (mP hr.units) (aO A8 (pv 3) (pv 2)) ai (bg _))) (fun _=>pv 2)) ah))),qO h⟩
theorem uA {f:Addr} {fd:FuncData} (F:Fun K "free_cells" "free_cells" cS f fd) (T:Txt K mg):FnOk P w K mg base CX0 1 f fd ["kept", "dx", "dy"] (fG K):=by
 refine F.ok l6 (fun vs H Q E h=>h.1) (fun cdv A outer s H vs Q E hr h=>?_)
 have nd:=(l6).nd
 exact ⟨_,az (bo (cP (show CmpOk ["kept", "dx", "dy"] (am cS) _ ["x", "y", "kept", "dx", "dy"] [none,none,some 0,some 1,some 2] from fM) (Bc (pv 0)) (fun _=>cZ rfl (aC (aw (i:=0) (show List.Nodup (["x", "y", "kept", "dx", "dy"]:List Str) from by decide +kernel) rfl (.inl rfl)) (aC (aw (i:=1) (show List.Nodup (["x", "y", "kept", "dx", "dy"]:List Str) from by decide +kernel) rfl (.inl rfl)) bR))) (fY (aP aQ (aP aQ dX aF) aF)) (fun _=>jF (Bg (vG (un1 hr.units) (aU (ab (aO bu (pv 0) (pv 3)) (ab (aO bu (pv 1) (pv 4)) ah))) (pv 2)))) (fun _=>aU (ab (pv 0) (ab (pv 1) ah))))),uG h⟩
theorem xg {f:Addr} {fd:FuncData} (F:Fun K "row_count" "row_count" dg f fd) (T:Txt K mg):FnOk P w K mg base CX0 1 f fd ["row"] (gb K):=by
 refine F.ok nS (fun vs H Q E h=>h.1) (fun cdv A outer s H vs Q E hr h=>?_)
 have nd:=(nS).nd
 exact ⟨_,az (bo (bm (lf rfl) (by rfl) T.sum wz (ab (cP (show CmpOk ["row"] (am dg) _ ["a", "b"] [none,none] from fM) (bz (pv 0)) (fun _=>cZ rfl (aC (aw (i:=0) (show List.Nodup (["a", "b"]:List Str) from by decide +kernel) rfl (.inl rfl)) (aC (aw (i:=1) (show List.Nodup (["a", "b"]:List Str) from by decide +kernel) rfl (.inl rfl)) bR))) (fY (aP aQ (aP aQ dX aF) aF)) (fun _=>fF) (fun _=>aO bu (aO xi (pv 1) (pv 0)) ai)) ah))),xo h⟩
theorem DI {f:Addr} {fd:FuncData} (F:Fun K "row_of" "row_of" gP f fd) (T:Txt K mg):FnOk P w K mg base CX0 1 f fd ["pairs"] (lA K):=by
 refine F.ok vV (fun vs H Q E h=>h.1) (fun cdv A outer s H vs Q E hr h=>?_)
 have nd:=(vV).nd
 exact ⟨_,ap (a9 (i:=1) nd rfl (.inl rfl) (dZ ah)) (ap (d6 Pq rfl (bz (bm m8 (by rfl) T.sorted oB (ab (cP (show CmpOk ["pairs", "stretches", "a", "b"] (am gP) _ ["a", "b"] [none,none] from fM) (bz (pv 0)) (fun _=>cZ rfl (aC (aw (i:=0) (show List.Nodup (["a", "b"]:List Str) from by decide +kernel) rfl (.inl rfl)) (aC (aw (i:=1) (show List.Nodup (["a", "b"]:List Str) from by decide +kernel) rfl (.inl rfl)) bR))) (fY (aP aQ (aP aQ dX aF) aF)) (fun _=>jF (bf Ft (pv 0) (pv 1) (bg _))) (fun _=>aU (ab (pv 0) (ab (pv 1) ah)))) ah))) (cZ rfl (aC (aw (i:=2) nd rfl (.inl rfl)) (aC (aw (i:=3) nd rfl (.inl rfl)) bR))) (az (gN (PW.pt (pi (dJ (pv 1) (fun _=>rfl)) (lv (bf Ft (pv 2) (aO bu (bA a5 (bA a5 (pv 1) (f7 dE ai) (fun _ _=>rfl)) ai (fun _ _=>rfl)) ai) (bg _))))) (az (FH (aU (ab (bA a5 (bA a5 (pv 1) (f7 dE ai) (fun _ _=>rfl)) ai (fun _ _=>rfl)) (ab (bm (C5 rfl) (by rfl) T.max JB (ab (bA a5 (bA a5 (pv 1) (f7 dE ai) (fun _ _=>rfl)) ai (fun _ _=>rfl)) (ab (pv 3) ah))) ah))) (Fz (pv 1) (f7 dE ai) zE))) (az (cQ (gM PD Qf Qg cX (pv 1) (ab (aU (ab (pv 2) (ab (pv 3) ah))) ah))))))) (az (bo (eA fB (by rfl) T.tuple gy (ab (pv 1) ah))))),DT h⟩
theorem qL {f:Addr} {fd:FuncData} (F:Fun K "stretches_of" "stretches_of" bO f fd) (T:Txt K mg):FnOk P w K mg base CX0 1 f fd ["picture"] (dW K):=by
 refine F.ok jZ (fun vs H Q E h=>h.1) (fun cdv A outer s H vs Q E hr h=>?_)
 have nd:=(jZ).nd
 exact ⟨_,ap (a9 (i:=1) nd rfl (.inl rfl) (dZ ah)) (ap (d6 Pq rfl (bz (pv 0)) (cZ rfl (aC (aw (i:=2) nd rfl (.inr rfl)) (aC (aw (i:=3) nd rfl (.inl rfl)) bR))) (az (cQ (gM PD R8 R9 qX (pv 1) (ab (cP (show CmpOk ["picture", "stretches", "y", "row"] (am bO) _ ["a", "b", "y"] [none,none,some 2] from fM) (bz (pv 3)) (fun _=>cZ rfl (aC (aw (i:=0) (show List.Nodup (["a", "b", "y"]:List Str) from by decide +kernel) rfl (.inl rfl)) (aC (aw (i:=1) (show List.Nodup (["a", "b", "y"]:List Str) from by decide +kernel) rfl (.inl rfl)) bR))) (fY (aP aQ (aP aQ dX aF) aF)) (fun _=>fF) (fun _=>aU (ab (pv 2) (ab (pv 0) (ab (pv 1) ah))))) ah))))) (az (bo (pv 1)))),qP h⟩
theorem Fs {f:Addr} {fd:FuncData} (F:Fun K "turns" "turns" jI f fd) (T:Txt K mg):FnOk P w K mg base CX0 1 f fd ["number"] (nW K):=by
 refine F.ok zD (fun vs H Q E h=>h.1) (fun cdv A outer s H vs Q E hr h=>?_)
 have nd:=(zD).nd
 exact ⟨_,ap (a9 (i:=1) nd rfl (.inr rfl) (aO bu (pv 0) (aO o9 ai (pv 0)))) (az (bo (bm ee (by rfl) T.len kr (ab (cP (show CmpOk ["number", "twice"] (am jI) _ ["worth", "number", "twice"] [none,some 0,some 1] from fM) (bz (nO (by rfl) T.STRAIGHT.choose_spec.choose_spec.1 T.STRAIGHT.choose_spec.choose_spec.2.1 T.STRAIGHT.choose_spec.choose_spec.2.2)) (fun _=>aw (i:=0) (show List.Nodup (["worth", "number", "twice"]:List Str) from by decide +kernel) rfl (.inl rfl)) aQ (fun _=>jF (PW.pt (pi (bf (fi hr.units) (aO A8 (pv 1) (pv 0)) ai (bg _)) (lv (bf (mP hr.units) (aO A8 (pv 2) (aO bu (aO o9 ai (pv 0)) (aO o9 ai (pv 0)))) ai (bg _)))))) (fun _=>pv 0)) ah)))),FS h⟩
theorem DH {f:Addr} {fd:FuncData} (F:Fun K "_law_spots" "_law_spots" iX f fd) (T:Txt K mg) {bD:Addr} {fP:FuncData} (c7:FnOk P w K mg base CX0 1 bD fP ["_law_script", "_law_k"] (fU K)) (aN:mg "_law_cell_at" = some (.ref bD)) (bK:W.keepIn K (.ref bD) = true) (c8:Binds K fP ["_law_script", "_law_k"] []):FnOk P w K mg base CX0 2 f fd ["_law_script"] (lz K):=by
 refine F.ok vU (fun vs H Q E h=>h.1) (fun cdv A outer s H vs Q E hr h=>?_)
 have nd:=(vU).nd
 exact ⟨_,ap (a9 (i:=1) nd rfl (.inl rfl) (aX c7 (hr.mono (by decide)) (by rfl) aN bK c8 .nil cf (ab (pv 0) (ab ai ah)))) (ap (a9 (i:=2) nd rfl (.inl rfl) (dZ ah)) (ap (a9 (i:=3) nd rfl (.inl rfl) (aO bu ai (aO fW (aO ie (pv 1) ai) ai))) (ap (a9 (i:=4) nd rfl (.inl rfl) (aO bu ai (aO fW (aO ie (pv 1) ai) ai))) (ap (a9 (i:=5) nd rfl (.inl rfl) (aO fW (pv 1) ai)) (ap (d6 Pq rfl (vH (by rfl) T.range (ab (aO o9 (pv 3) (pv 4)) ah)) (aw (i:=6) nd rfl (.inl rfl)) (ap (a9 (i:=7) nd rfl (.inl rfl) (aO fW (pv 6) (pv 3))) (ap (a9 (i:=8) nd rfl (.inl rfl) (aO ie (pv 6) (pv 3))) (az (gN (PW.pt (nR (bf (fi hr.units) (pv 5) ai (bg _)) (pj (PW.pt (pi (bf (fi hr.units) (pv 5) ai (bg _)) (lv (PW.pt (nR (bf vE (pv 7) (aU (ab ai (ab (aO xi (pv 3) ai) ah))) rfl) (pj (bf vE (pv 8) (aU (ab ai (ab (aO xi (pv 4) ai) ah))) rfl)))))))))) (az (cQ (gM PD Qf Qg cX (pv 2) (ab (aU (ab (pv 7) (ab (pv 8) ah))) ah)))) dr))))) (ap (d6 Pq rfl (bz (Fw ME (pv 0) (Cr ai) (Cr ai))) (aw (i:=9) nd rfl (.inl rfl)) (ap (a9 (i:=10) nd rfl (.inl rfl) (aO ie (aO fW (aO o9 (pv 9) ai) ai) ai)) (az (d6 Pq rfl (vH (by rfl) T.range (ab (aO bu ai (aO fW (aO ie (pv 10) ai) ai)) ah)) (aw (i:=6) nd rfl (.inl rfl)) (az (cQ (gM PD Qf Qg cX (pv 2) (ab (aU (ab (aO bu (aO fW (pv 10) ai) (pv 6)) (ab (aO fW (aO ie (pv 10) ai) ai) ah))) ah)))))))) (az (bo (pv 2))))))))),DS h⟩
theorem A5 {f:Addr} {fd:FuncData} (F:Fun K "_law_walked" "_law_walked" gh f fd) (T:Txt K mg) {eh:Addr} {r8:FuncData} (kY:FnOk P w K mg base CX0 1 eh r8 ["_law_there", "_law_x", "_law_y", "_law_ends"] (jK K)) (dq:mg "_law_may_go" = some (.ref eh)) (fb:W.keepIn K (.ref eh) = true) (k9:Binds K r8 ["_law_there", "_law_x", "_law_y", "_law_ends"] []):FnOk P w K mg base CX0 2 f fd ["_law_spots_here", "_law_taken", "_law_ends"] (jL K):=by
 refine F.ok tD (fun vs H Q E h=>h.1) (fun cdv A outer s H vs Q E hr h=>?_)
 have nd:=(tD).nd
 exact ⟨_,ap (a9 (i:=3) nd rfl (.inl rfl) Fv) (ap (d6 Pq rfl (bz (pv 0)) (aw (i:=4) nd rfl (.inl rfl)) (az (HQ (un1 hr.units) (pv 3) (pv 4) zh (by rfl)))) (ap (d6 Pq rfl (bz (pv 1)) (aw (i:=4) nd rfl (.inl rfl)) (ap (gN (PW.pt (nR (ph (dJ (bm ld (by rfl) T.isinstance fA (ab (pv 4) (ab (qZ (v:=.ty "tuple") (by rfl) T.tuple gy rfl) ah))) (fun _=>rfl))) (nR (bf (mP hr.units) (bm ee (by rfl) T.len kr (ab (pv 4) ah)) ai (bg _)) (pj (Bg (vG (un1 hr.units) (pv 4) (pv 3))))))) (az (bo (xk))) dr) (ap (gN (ph (dJ (q9 3 (aX kY (hr.mono (by decide)) (by rfl) dq fb k9 .nil cf (ab (pv 3) (ab (bA a5 (pv 4) ai (fun _ _=>rfl)) (ab (bA a5 (pv 4) ai (fun _ _=>rfl)) (ab (pv 2) ah)))))) (fun _=>rfl))) (az (bo (xk))) dr) (az (cQ (gM PySem.F.plainAttrs_dict PySem.F.slot_dict_pop PySem.F.type_dict_pop (Ce (CB hr.units)) (pv 3) (ab (pv 4) ah))))))) (ap (HR 3 (d6 Pq rfl (Bc (pv 3)) (cZ rfl (aC (aw (i:=5) nd rfl (.inl rfl)) (aC (aw (i:=6) nd rfl (.inl rfl)) bR))) (az (gN (dJ (aX kY (hr.mono (by decide)) (by rfl) dq fb k9 .nil cf (ab (pv 3) (ab (pv 5) (ab (pv 6) (ab (pv 2) ah))))) (fun _=>rfl)) (az (bo (xk))) dr)))) (az (bo (eA (An rfl) (by rfl) T.list wx (ab (pv 3) ah))))))),Bj h⟩
theorem sT {f:Addr} {fd:FuncData} (F:Fun K "count_cells" "count_cells" cu f fd) (T:Txt K mg) {cI:Addr} {nz:FuncData} (ke:FnOk P w K mg base CX0 1 cI nz ["row"] (gb K)) (cK:mg "row_count" = some (.ref cI)) (eu:W.keepIn K (.ref cI) = true) (ko:Binds K nz ["row"] []):FnOk P w K mg base CX0 2 f fd ["picture"] (eP K):=by
 refine F.ok kQ (fun vs H Q E h=>h.1) (fun cdv A outer s H vs Q E hr h=>?_)
 have nd:=(kQ).nd
 exact ⟨_,az (bo (bm (lf rfl) (by rfl) T.sum wz (ab (cP (show CmpOk ["picture"] (am cu) _ ["y", "row"] [none,none] from fM) (bz (pv 0)) (fun _=>cZ rfl (aC (aw (i:=0) (show List.Nodup (["y", "row"]:List Str) from by decide +kernel) rfl (.inl rfl)) (aC (aw (i:=1) (show List.Nodup (["y", "row"]:List Str) from by decide +kernel) rfl (.inl rfl)) bR))) (fY (aP aQ (aP aQ dX aF) aF)) (fun _=>fF) (fun _=>aX ke (hr.mono (by decide)) (by rfl) cK eu ko .nil cf (ab (pv 1) ah))) ah))),tq h⟩
theorem HJ {f:Addr} {fd:FuncData} (F:Fun K "goes" "goes" mT f fd) (T:Txt K mg) {hU:Addr} {yo:FuncData} (we:FnOk P w K mg base CX0 1 hU yo ["number"] (nW K)) (jB:mg "turns" = some (.ref hU)) (ll:W.keepIn K (.ref hU) = true) (ww:Binds K yo ["number"] []) {bw:Addr} {jQ:FuncData} (gk:FnOk P w K mg base CX0 1 bw jQ ["number"] (dU K)) (bL:mg "count_around" = some (.ref bw)) (cD:W.keepIn K (.ref bw) = true) (gw:Binds K jQ ["number"] []):FnOk P w K mg base CX0 2 f fd ["kept", "x", "y", "ends"] (re K):=by
 refine F.ok CF (fun vs H Q E h=>h.1) (fun cdv A outer s H vs Q E hr h=>?_)
 have nd:=(CF).nd
 exact ⟨_,ap (a9 (i:=4) nd rfl (.inl rfl) (bm (lf rfl) (by rfl) T.sum wz (ab (cP (show CmpOk ["kept", "x", "y", "ends", "number"] (am mT) _ ["dx", "dy", "worth", "kept", "x", "y"] [none,none,none,some 0,some 1,some 2] from fM) (bz (nO (by rfl) T.ROUND.choose_spec.choose_spec.1 T.ROUND.choose_spec.choose_spec.2.1 T.ROUND.choose_spec.choose_spec.2.2)) (fun _=>cZ rfl (aC (aw (i:=0) (show List.Nodup (["dx", "dy", "worth", "kept", "x", "y"]:List Str) from by decide +kernel) rfl (.inl rfl)) (aC (aw (i:=1) (show List.Nodup (["dx", "dy", "worth", "kept", "x", "y"]:List Str) from by decide +kernel) rfl (.inl rfl)) (aC (aw (i:=2) (show List.Nodup (["dx", "dy", "worth", "kept", "x", "y"]:List Str) from by decide +kernel) rfl (.inl rfl)) bR)))) (fY (aP aQ (aP aQ (aP aQ dX aF) aF) aF)) (fun _=>jF (Bg (Fu (un1 hr.units) (aU (ab (aO bu (pv 4) (pv 0)) (ab (aO bu (pv 5) (pv 1)) ah))) (pv 3)))) (fun _=>pv 2)) ah))) (az (bo (Ba (ig (fi hr.units) (aX we (hr.mono (by decide)) (by rfl) jB ll ww .nil cf (ab (pv 4) ah)) ai (bg _)) (Bb (Lb (J8 (pv 3)) (Bb (ig La (aX gk (hr.mono (by decide)) (by rfl) bL cD gw .nil cf (ab (pv 4) ah)) ai (bg _)))))))),HU h⟩
theorem uB {f:Addr} {fd:FuncData} (F:Fun K "picture_of" "picture_of" cg f fd) (T:Txt K mg) {fO:Addr} {u5:FuncData} (rA:FnOk P w K mg base CX0 1 fO u5 ["pairs"] (lA K)) (fS:mg "row_of" = some (.ref fO)) (iL:W.keepIn K (.ref fO) = true) (rL:Binds K u5 ["pairs"] []):FnOk P w K mg base CX0 2 f fd ["stretches"] (fH K):=by
 refine F.ok l7 (fun vs H Q E h=>h.1) (fun cdv A outer s H vs Q E hr h=>?_)
 have nd:=(l7).nd
 exact ⟨_,ap (a9 (i:=1) nd rfl (.inl rfl) (dZ ah)) (ap (d6 Pq rfl (bz (bm m8 (by rfl) T.sorted oB (ab (cP (show CmpOk ["stretches", "pairs_by_row", "y", "a", "b"] (am cg) _ ["y", "a", "b"] [none,none,none] from fM) (bz (pv 0)) (fun _=>cZ rfl (aC (aw (i:=0) (show List.Nodup (["y", "a", "b"]:List Str) from by decide +kernel) rfl (.inl rfl)) (aC (aw (i:=1) (show List.Nodup (["y", "a", "b"]:List Str) from by decide +kernel) rfl (.inl rfl)) (aC (aw (i:=2) (show List.Nodup (["y", "a", "b"]:List Str) from by decide +kernel) rfl (.inl rfl)) bR)))) (fY (aP aQ (aP aQ (aP aQ dX aF) aF) aF)) (fun _=>jF (bf Ft (pv 1) (pv 2) (bg _))) (fun _=>aU (ab (pv 0) (ab (pv 1) (ab (pv 2) ah))))) ah))) (cZ rfl (aC (aw (i:=2) nd rfl (.inl rfl)) (aC (aw (i:=3) nd rfl (.inl rfl)) (aC (aw (i:=4) nd rfl (.inl rfl)) bR)))) (ap (gN (PW.pt (nR (ph (dJ (pv 1) (fun _=>rfl))) (pj (bf (mP hr.units) (bA a5 (bA a5 (pv 1) (f7 dE ai) (fun _ _=>rfl)) ai (fun _ _=>rfl)) (pv 2) (bg _))))) (az (cQ (gM PD Qf Qg cX (pv 1) (ab (aU (ab (pv 2) (ab (dZ ah) ah))) ah)))) dr) (az (cQ (gM PD Qf Qg cX (bA a5 (bA a5 (pv 1) (f7 dE ai) (fun _ _=>rfl)) ai (fun _ _=>rfl)) (ab (aU (ab (pv 3) (ab (pv 4) ah))) ah)))))) (az (bo (eA fB (by rfl) T.tuple gy (ab (cP (show CmpOk ["stretches", "pairs_by_row", "y", "a", "b"] (am cg) _ ["y", "pairs"] [none,none] from fM) (bz (pv 1)) (fun _=>cZ rfl (aC (aw (i:=0) (show List.Nodup (["y", "pairs"]:List Str) from by decide +kernel) rfl (.inl rfl)) (aC (aw (i:=1) (show List.Nodup (["y", "pairs"]:List Str) from by decide +kernel) rfl (.inl rfl)) bR))) (fY (aP aQ (aP aQ dX aF) aF)) (fun _=>fF) (fun _=>aU (ab (pv 0) (ab (aX rA (hr.mono (by decide)) (by rfl) fS iL rL .nil cf (ab (pv 1) ah)) ah)))) ah))))),uH h⟩
theorem y7 {f:Addr} {fd:FuncData} (F:Fun K "cells_of" "cells_of" d7 f fd) (T:Txt K mg) {bF:Addr} {kB:FuncData} (iq:FnOk P w K mg base CX0 2 bF kB ["picture"] (eP K)) (cm:mg "count_cells" = some (.ref bF)) (cW:W.keepIn K (.ref bF) = true) (iw:Binds K kB ["picture"] []) {bx:Addr} {jR:FuncData} (gm:FnOk P w K mg base CX0 1 bx jR ["picture"] (dW K)) (bM:mg "stretches_of" = some (.ref bx)) (cE:W.keepIn K (.ref bx) = true) (gx:Binds K jR ["picture"] []):FnOk P w K mg base CX0 3 f fd ["picture"] (il K):=by
 refine F.ok pW (fun vs H Q E h=>h.1) (fun cdv A outer s H vs Q E hr h=>?_)
 have nd:=(pW).nd
 exact ⟨_,ap (gN (bf Ch (aX iq (hr.mono (by decide)) (by rfl) cm cW iw .nil cf (ab (pv 0) ah)) (Cm (v:=.int (1000)) (by rfl) T.MOST_CELLS.choose_spec ⟨_,rfl⟩) (bg _)) (az (FI)) dr) (ap (a9 (i:=1) nd rfl (.inl rfl) (dZ ah)) (ap (d6 Pq rfl (bz (aX gm (hr.mono (by decide)) (by rfl) bM cE gx .nil cf (ab (pv 0) ah))) (cZ rfl (aC (aw (i:=2) nd rfl (.inr rfl)) (aC (aw (i:=3) nd rfl (.inl rfl)) (aC (aw (i:=4) nd rfl (.inl rfl)) bR)))) (az (cQ (gM PD R8 R9 qX (pv 1) (ab (cP (show CmpOk ["picture", "cells", "y", "a", "b"] (am d7) _ ["x", "y"] [none,some 2] from fM) (DJ (by rfl) T.range (ab (pv 3) (ab (aO bu (pv 4) ai) ah))) (fun _=>aw (i:=0) (show List.Nodup (["x", "y"]:List Str) from by decide +kernel) rfl (.inl rfl)) aQ (fun _=>fF) (fun _=>aU (ab (pv 0) (ab (pv 1) ah)))) ah))))) (az (bo (pv 1))))),zr h⟩
theorem xh {f:Addr} {fd:FuncData} (F:Fun K "take_pass" "take_pass" eB f fd) (T:Txt K mg) {kA:Addr} {B2:FuncData} (Ab:FnOk P w K mg base CX0 2 kA B2 ["kept", "x", "y", "ends"] (re K)) (jz:mg "goes" = some (.ref kA)) (oT:W.keepIn K (.ref kA) = true) (Aj:Binds K B2 ["kept", "x", "y", "ends"] []):FnOk P w K mg base CX0 3 f fd ["kept", "free", "ends"] (gc K):=by
 refine F.ok nT (fun vs H Q E h=>h.1) (fun cdv A outer s H vs Q E hr h=>?_)
 have nd:=(nT).nd
 exact ⟨_,ap (a9 (i:=3) nd rfl (.inl rfl) (dZ ah)) (ap (d6 Pq rfl (bz (pv 1)) (aw (i:=4) nd rfl (.inl rfl)) (az (gN (dJ (q9 0 (aX Ab (hr.mono (by decide)) (by rfl) jz oT Aj .nil cf (ab (pv 0) (ab (bA a5 (pv 4) ai (fun _ _=>rfl)) (ab (bA a5 (pv 4) ai (fun _ _=>rfl)) (ab (pv 2) ah)))))) (fun _=>rfl)) (ap (cQ (gM PySem.F.plainAttrs_dict PySem.F.slot_dict_pop PySem.F.type_dict_pop (Ce (CB hr.units)) (pv 0) (ab (pv 4) ah))) (az (cQ (gM PD Qf Qg cX (pv 3) (ab (pv 4) ah))))) dr))) (az (bo (pv 3)))),xp h⟩
theorem uC {f:Addr} {fd:FuncData} (F:Fun K "take_round" "take_round" du f fd) (T:Txt K mg) {cJ:Addr} {nA:FuncData} (kf:FnOk P w K mg base CX0 3 cJ nA ["kept", "free", "ends"] (gc K)) (kG:mg "take_pass" = some (.ref cJ)) (ez:W.keepIn K (.ref cJ) = true) (kq:Binds K nA ["kept", "free", "ends"] []) {bW:Addr} {lR:FuncData} (i7:FnOk P w K mg base CX0 1 bW lR ["kept", "dx", "dy"] (fG K)) (bj:mg "free_cells" = some (.ref bW)) (dh:W.keepIn K (.ref bW) = true) (jj:Binds K lR ["kept", "dx", "dy"] []):FnOk P w K mg base CX0 4 f fd ["kept", "ends"] (fI K):=by
 refine F.ok l8 (fun vs H Q E h=>h.1) (fun cdv A outer s H vs Q E hr h=>?_)
 have nd:=(l8).nd
 exact ⟨_,ap (a9 (i:=2) nd rfl (.inl rfl) (dZ ah)) (ap (d6 Pq rfl (bz (nO (by rfl) T.SIDES.choose_spec.choose_spec.1 T.SIDES.choose_spec.choose_spec.2.1 T.SIDES.choose_spec.choose_spec.2.2)) (cZ rfl (aC (aw (i:=3) nd rfl (.inl rfl)) (aC (aw (i:=4) nd rfl (.inl rfl)) bR))) (az (cQ (gM PD R8 R9 qX (pv 2) (ab (aX kf (hr.mono (by decide)) (by rfl) kG ez kq .nil cf (ab (pv 0) (ab (q9 0 (aX i7 (hr.mono (by decide)) (by rfl) bj dh jj .nil cf (ab (pv 0) (ab (pv 3) (ab (pv 4) ah))))) (ab (pv 1) ah)))) ah))))) (az (bo (pv 2)))),uI h⟩
theorem A6 {f td:Addr} {fd:FuncData} (F:FunD K "thinned" "thinned" bC td f fd) (T:Txt K mg) {dc:Addr} {pM:FuncData} (me:FnOk P w K mg base CX0 3 dc pM ["picture"] (il K)) (cj:mg "cells_of" = some (.ref dc)) (fc:W.keepIn K (.ref dc) = true) (mo:Binds K pM ["picture"] []) {b8:Addr} {lU:FuncData} (i9:FnOk P w K mg base CX0 4 b8 lU ["kept", "ends"] (fI K)) (jA:mg "take_round" = some (.ref b8)) (dl:W.keepIn K (.ref b8) = true) (jl:Binds K lU ["kept", "ends"] []) {bX:Addr} {lS:FuncData} (i8:FnOk P w K mg base CX0 2 bX lS ["stretches"] (fH K)) (cc:mg "picture_of" = some (.ref bX)) (di:W.keepIn K (.ref bX) = true) (jk:Binds K lS ["stretches"] []):FnOk P w K mg base CX0 5 f fd ["picture", "ends"] (gT K):=by
 refine F.ok tE (fun vs H Q E h=>h.1) (fun cdv A outer s H vs Q E hr h=>?_)
 have nd:=(tE).nd
 exact ⟨_,ap (a9 (i:=2) nd rfl (.inl rfl) (eA (Am (HV hr.units) rfl) (by rfl) T.dict G3 (ab (cP (show CmpOk ["picture", "ends", "kept", "taken", "taken_before"] (am bC) _ ["cell"] [none] from fM) (bz (aX me (hr.mono (by decide)) (by rfl) cj fc mo .nil cf (ab (pv 0) ah))) (fun _=>aw (i:=0) (show List.Nodup (["cell"]:List Str) from by decide +kernel) rfl (.inl rfl)) aQ (fun _=>fF) (fun _=>aU (ab (pv 0) (ab zh ah)))) ah))) (ap (a9 (i:=3) nd rfl (.inl rfl) (dZ ah)) (ap (a9 (i:=4) nd rfl (.inl rfl) (f7 dE ai)) (ap (FJ Pq (bf Ch (bm ee (by rfl) T.len kr (ab (pv 3) ah)) (pv 4) (bg _)) (ap (a9 (i:=4) nd rfl (.inl rfl) (bm ee (by rfl) T.len kr (ab (pv 3) ah))) (az (cQ (gM PD R8 R9 qX (pv 3) (ab (aX i9 (hr.mono (by decide)) (by rfl) jA dl jl .nil cf (ab (pv 2) (ab (pv 1) ah))) ah)))))) (az (bo (aU (ab (aX i8 (hr.mono (by decide)) (by rfl) cc di jk .nil cf (ab (q9 2 (cP (show CmpOk ["picture", "ends", "kept", "taken", "taken_before"] (am bC) _ ["x", "y"] [none,none] from fM) (Bc (pv 2)) (fun _=>cZ rfl (aC (aw (i:=0) (show List.Nodup (["x", "y"]:List Str) from by decide +kernel) rfl (.inl rfl)) (aC (aw (i:=1) (show List.Nodup (["x", "y"]:List Str) from by decide +kernel) rfl (.inl rfl)) bR))) (fY (aP aQ (aP aQ dX aF) aF)) (fun _=>fF) (fun _=>aU (ab (pv 1) (ab (pv 0) (ab (pv 0) ah)))))) ah)) (ab (pv 3) ah)))))))),Bk h⟩
theorem Fq {f:Addr} {fd:FuncData} (F:Fun K "_law_told" "_law_told" lw f fd) (T:Txt K mg) {bG:Addr} {dY:FuncData} (eZ:FnOk P w K mg base CX0 5 bG dY ["picture", "ends"] (gT K)) (cF:mg "thinned" = some (.ref bG)) (dn:W.keepIn K (.ref bG) = true) (iG:Binds K dY ["picture", "ends"] []) (e9:Binds K dY ["picture", "ends"] [.bool true]):FnOk P w K mg base CX0 6 f fd ["_law_picture_here", "_law_way"] (nV K):=by
 refine F.ok zC (fun vs H Q E h=>h.1) (fun cdv A outer s H vs Q E hr h=>?_)
 have nd:=(zC).nd
 exact ⟨_,ap (gN (bf (fi hr.units) (pv 1) ai (bg _)) (az (bo (aX eZ (hr.mono (by decide)) (by rfl) cF dn e9 (.cons (show RelV (.bl true) (Value.bool true) from rfl) .nil) cf (ab (pv 0) ah)))) dr) (az (bo (aX eZ (hr.mono (by decide)) (by rfl) cF dn iG .nil cf (ab (pv 0) (ab (ig (fi hr.units) (pv 1) ai (bg _)) ah))))),FQ h⟩
theorem JY {f:Addr} {fd:FuncData} (F:Fun K "law" "law" l4 f fd) (T:Txt K mg) {bD:Addr} {fP:FuncData} (c7:FnOk P w K mg base CX0 1 bD fP ["_law_script", "_law_k"] (fU K)) (aN:mg "_law_cell_at" = some (.ref bD)) (bK:W.keepIn K (.ref bD) = true) (c8:Binds K fP ["_law_script", "_law_k"] []) {fN:Addr} {u4:FuncData} (rq:FnOk P w K mg base CX0 2 fN u4 ["_law_script"] (lz K)) (iP:mg "_law_spots" = some (.ref fN)) (iK:W.keepIn K (.ref fN) = true) (rK:Binds K u4 ["_law_script"] []) {hJ:Addr} {yn:FuncData} (m5:FnOk P w K mg base CX0 6 hJ yn ["_law_picture_here", "_law_way"] (nV K)) (dQ:mg "_law_told" = some (.ref hJ)) (hX:W.keepIn K (.ref hJ) = true) (m6:Binds K yn ["_law_picture_here", "_law_way"] []) {c9:Addr} {pL:FuncData} (gj:FnOk P w K mg base CX0 1 c9 pL ["_law_spots_here"] (ik K)) (ci:mg "_law_picture" = some (.ref c9)) (de:W.keepIn K (.ref c9) = true) (gv:Binds K pL ["_law_spots_here"] []) {ei:Addr} {r9:FuncData} (oh:FnOk P w K mg base CX0 2 ei r9 ["_law_spots_here", "_law_taken", "_law_ends"] (jL K)) (lu:mg "_law_walked" = some (.ref ei)) (gf:W.keepIn K (.ref ei) = true) (oA:Binds K r9 ["_law_spots_here", "_law_taken", "_law_ends"] []) {bG:Addr} {dY:FuncData} (eZ:FnOk P w K mg base CX0 5 bG dY ["picture", "ends"] (gT K)) (cF:mg "thinned" = some (.ref bG)) (dn:W.keepIn K (.ref bG) = true) (iG:Binds K dY ["picture", "ends"] []) (e9:Binds K dY ["picture", "ends"] [.bool true]):FnOk P w K mg base CX0 7 f fd ["_law_script"] (tN K):=by
 refine F.ok Gc (fun vs H Q E h=>h.1) (fun cdv A outer s H vs Q E hr h=>?_)
 have nd:=(Gc).nd
 exact ⟨_,ap (a9 (i:=1) nd rfl (.inl rfl) (aO fW (aO ie (aX c7 (hr.mono (by decide)) (by rfl) aN bK c8 .nil cf (ab (pv 0) (ab ai ah))) ai) ai)) (ap (a9 (i:=2) nd rfl (.inr rfl) (aO o9 (aO fW (aO ie (aX c7 (hr.mono (by decide)) (by rfl) aN bK c8 .nil cf (ab (pv 0) (ab ai ah))) ai) ai) (aO fW (aX c7 (hr.mono (by decide)) (by rfl) aN bK c8 .nil cf (ab (pv 0) (ab ai ah))) (aO J4 ai ai)))) (ap (Cs (i:=3) (hN:=nd) (hi0:=rfl) (hx:=Or.inl rfl) (ck:=(show CmpOk ["_law_script", "_law_way", "_law_far", "_law_spots_here", "_law_found", "_law_left", "_law_kept", "_law_again"] (am l4) _ ["_law_x", "_law_y", "_law_far"] [none,none,some 2] from fM)) (hi:=bz (aX rq (hr.mono (by decide)) (by rfl) iP iK rK .nil cf (ab (pv 0) ah))) (hg:=fun _=>cZ rfl (aC (aw (i:=0) (show List.Nodup (["_law_x", "_law_y", "_law_far"]:List Str) from by decide +kernel) rfl (.inl rfl)) (aC (aw (i:=1) (show List.Nodup (["_law_x", "_law_y", "_law_far"]:List Str) from by decide +kernel) rfl (.inl rfl)) bR))) (hs:=fY (aP aQ (aP aQ dX aF) aF)) (ht:=fun _=>fF) (he:=fun _=>aU (ab (aO bu (pv 0) (pv 2)) (ab (aO xi (pv 1) (pv 2)) ah)))) (ap (a9 (i:=4) nd rfl (.inl rfl) (aX m5 (hr.mono (by decide)) (by rfl) dQ hX m6 .nil cf (ab (aX gj (hr.mono (by decide)) (by rfl) ci de gv .nil cf (ab (pv 3) ah)) (ab (pv 1) ah)))) (ap (gN (PW.pt (nR (ph (dJ (bm ld (by rfl) T.isinstance fA (ab (pv 4) (ab (qZ (v:=.ty "tuple") (by rfl) T.tuple gy rfl) ah))) (fun _=>rfl))) (nR (bf (mP hr.units) (bm ee (by rfl) T.len kr (ab (pv 4) ah)) ai (bg _)) (pj (ph (dJ (bm ld (by rfl) T.isinstance fA (ab (bA a5 (pv 4) ai (fun _ _=>rfl)) (ab (qZ (v:=.ty "list") (by rfl) T.list wx rfl) ah))) (fun _=>rfl))))))) (az (bo zh)) dr) (ap (a9 (i:=5) nd rfl (.inl rfl) (aX oh (hr.mono (by decide)) (by rfl) lu gf oA .nil cf (ab (pv 3) (ab (bA a5 (pv 4) ai (fun _ _=>rfl)) (ab (ig (mP hr.units) (pv 1) ai (bg _)) ah))))) (ap (gN (PW.pt (nR (bf J2 (pv 5) (xk) (bg _)) (nR (bf (mP hr.units) (bA a5 (pv 4) ai (fun _ _=>rfl)) (aX gj (hr.mono (by decide)) (by rfl) ci de gv .nil cf (ab (pv 5) ah)) (bg _)) (pj (ph (dJ (bm ld (by rfl) T.isinstance fA (ab (bA a5 (pv 4) ai (fun _ _=>rfl)) (ab (qZ (v:=.ty "tuple") (by rfl) T.tuple gy rfl) ah))) (fun _=>rfl))))))) (az (bo zh)) dr) (ap (a9 (i:=6) nd rfl (.inl rfl) (eA wA (by rfl) T.list wx (ab (bA a5 (pv 4) ai (fun _ _=>rfl)) ah))) (ap (cQ (gM PD Qf Qg cX (bA a5 (pv 4) ai (fun _ _=>rfl)) (ab (aU (ab ai (ab ai ah))) ah))) (ap (a9 (i:=7) nd rfl (.inl rfl) (aX m5 (hr.mono (by decide)) (by rfl) dQ hX m6 .nil cf (ab (aX gj (hr.mono (by decide)) (by rfl) ci de gv .nil cf (ab (pv 3) ah)) (ab (pv 1) ah)))) (az (bo (Ba (ig (fi hr.units) (pv 7) (aU (ab (bA a5 (pv 4) ai (fun _ _=>rfl)) (ab (pv 6) ah))) (bg _)) (Ba (ig (fi hr.units) (aX m5 (hr.mono (by decide)) (by rfl) dQ hX m6 .nil cf (ab (bA a5 (pv 4) ai (fun _ _=>rfl)) (ab (pv 1) ah))) (aU (ab (bA a5 (pv 4) ai (fun _ _=>rfl)) (ab (dZ ah) ah))) (bg _)) (Bb (ig (fi hr.units) (aX eZ (hr.mono (by decide)) (by rfl) cF dn e9 (.cons (show RelV (.bl true) (Value.bool true) from rfl) .nil) cf (ab (aU ah) ah)) (aU (ab (aU ah) (ab (dZ ah) ah))) (bg _)))))))))))))))),Ke h⟩
end
theorem usS {us:List Value} {n:Nat} (h:us.length = n + 1):∃ a v,us = a :: v /\ v.length = n:=by
 cases us with
 | nil=>cases h
 | cons a v=>exact ⟨a,v,rfl,Nat.succ.inj h⟩
theorem us1 {us:List Value} (h:us.length = 1):∃ a0,us = [a0]:=by
 obtain ⟨a0,v0,rfl,h0⟩:=usS h
 cases v0 with
 | nil=>exact ⟨a0,rfl⟩
 | cons a v=>cases h0
theorem us2 {us:List Value} (h:us.length = 2):∃ a0 a1,us = [a0,a1]:=by
 obtain ⟨a0,v0,rfl,h0⟩:=usS h
 obtain ⟨a1,v1,rfl,h1⟩:=usS h0
 cases v1 with
 | nil=>exact ⟨a0,a1,rfl⟩
 | cons a v=>cases h1
theorem us3 {us:List Value} (h:us.length = 3):∃ a0 a1 a2,us = [a0,a1,a2]:=by
 obtain ⟨a0,v0,rfl,h0⟩:=usS h
 obtain ⟨a1,v1,rfl,h1⟩:=usS h0
 obtain ⟨a2,v2,rfl,h2⟩:=usS h1
 cases v2 with
 | nil=>exact ⟨a0,a1,a2,rfl⟩
 | cons a v=>cases h2
theorem us4 {us:List Value} (h:us.length = 4):∃ a0 a1 a2 a3,us = [a0,a1,a2,a3]:=by
 obtain ⟨a0,v0,rfl,h0⟩:=usS h
 obtain ⟨a1,v1,rfl,h1⟩:=usS h0
 obtain ⟨a2,v2,rfl,h2⟩:=usS h1
 obtain ⟨a3,v3,rfl,h3⟩:=usS h2
 cases v3 with
 | nil=>exact ⟨a0,a1,a2,a3,rfl⟩
 | cons a v=>cases h3
theorem Js {l:W.OpenLaw} {w:World} {K:W.Frag} {h:Heap} {mg:Str -> Option Value} {fa:Addr} (X:K.In h) (G:h.Ns mainGlobals mg) (hfa:mg "law" = some (.ref fa))
  {fO:Addr} {DF C1:Option Addr} {D0:Array (Option Value)} {DD Dq Dc DM u0 C9:Value}
  {cI:Addr} {wZ wo:Option Addr} {xy:Array (Option Value)} {wX wS wF xm m9 wD:Value}
  {bX:Addr} {uy t7:Option Addr} {uK:Array (Option Value)} {uv ul ug uE lN uc:Value}
  {bx:Addr} {qJ p9:Option Addr} {qR:Array (Option Value)} {qH qB qv qN jP qq:Value}
  {bF:Addr} {sQ rF:Option Addr} {tH:Array (Option Value)} {sP sr rS tf kt rR:Value}
  {dc:Addr} {y0 xS:Option Addr} {zJ:Array (Option Value)} {yX yH yg zm pH yb:Value}
  {hU:Addr} {Fp El:Option Addr} {Gj:Array (Option Value)} {Fn E5 Ew FF x0 Et:Value}
  {bw:Addr} {qI p8:Option Addr} {qQ:Array (Option Value)} {qG qA qu qM jO qf:Value}
  {bG:Addr} {A3 mn:Option Addr} {Bs:Array (Option Value)} {A0 mH mw mR jm mt:Value}
  {gz:Addr} {dc_thinned_:Value} {Ax:Option Addr} {AA:Nat} {AB:Array (Option Value)}
  {b8:Addr} {uz t8:Option Addr} {uL:Array (Option Value)} {uw um uh uF lO ud:Value}
  {bW:Addr} {ux t5:Option Addr} {uJ:Array (Option Value)} {uu uk uf uD lM ub:Value}
  {cJ:Addr} {w8 wp:Option Addr} {xz:Array (Option Value)} {wY wT wG xn nc wE:Value}
  {kA:Addr} {HE G0:Option Addr} {Ii:Array (Option Value)} {HD Hv He HP BW G7:Value}
  {bD:Addr} {yY xQ:Option Addr} {zH:Array (Option Value)} {yV yF ye zk pF x9:Value}
  {fN:Addr} {DE C0:Option Addr} {DZ:Array (Option Value)} {DC Dp Db DK uZ C8:Value}
  {c9:Addr} {yZ xR:Option Addr} {zI:Array (Option Value)} {yW yG yf zl pG ya:Value}
  {eh:Addr} {A1 Ah:Option Addr} {Bq:Array (Option Value)} {AY AM Av Be rN Ar:Value}
  {hJ:Addr} {Fo Ej:Option Addr} {Gi:Array (Option Value)} {Fm E3 Eu FD xZ Ep:Value}
  {ei:Addr} {A2 Ai:Option Addr} {Br:Array (Option Value)} {AZ AN Aw Bf rO As:Value}
  {EI:Addr} {JX Ek:Option Addr} {Ku:Array (Option Value)} {JW E4 Ev FE Ap Er:Value}
  {t_MOST_CELLS:Tok}
  {g_ROUND_0:Addr} {od_ROUND_0:Option Addr} {n_ROUND_0:Nat} {sl_ROUND_0:Array (Option Value)}
  {g_ROUND_1:Addr} {od_ROUND_1:Option Addr} {n_ROUND_1:Nat} {sl_ROUND_1:Array (Option Value)}
  {t_ROUND_1_0:Tok}
  {t_ROUND_1_1:Tok}
  {t_ROUND_1_2:Tok}
  {g_ROUND_2:Addr} {od_ROUND_2:Option Addr} {n_ROUND_2:Nat} {sl_ROUND_2:Array (Option Value)}
  {t_ROUND_2_0:Tok}
  {t_ROUND_2_1:Tok}
  {t_ROUND_2_2:Tok}
  {g_ROUND_3:Addr} {od_ROUND_3:Option Addr} {n_ROUND_3:Nat} {sl_ROUND_3:Array (Option Value)}
  {t_ROUND_3_0:Tok}
  {t_ROUND_3_1:Tok}
  {t_ROUND_3_2:Tok}
  {g_ROUND_4:Addr} {od_ROUND_4:Option Addr} {n_ROUND_4:Nat} {sl_ROUND_4:Array (Option Value)}
  {t_ROUND_4_0:Tok}
  {t_ROUND_4_1:Tok}
  {t_ROUND_4_2:Tok}
  {g_ROUND_5:Addr} {od_ROUND_5:Option Addr} {n_ROUND_5:Nat} {sl_ROUND_5:Array (Option Value)}
  {t_ROUND_5_0:Tok}
  {t_ROUND_5_1:Tok}
  {t_ROUND_5_2:Tok}
  {g_ROUND_6:Addr} {od_ROUND_6:Option Addr} {n_ROUND_6:Nat} {sl_ROUND_6:Array (Option Value)}
  {t_ROUND_6_0:Tok}
  {t_ROUND_6_1:Tok}
  {t_ROUND_6_2:Tok}
  {g_ROUND_7:Addr} {od_ROUND_7:Option Addr} {n_ROUND_7:Nat} {sl_ROUND_7:Array (Option Value)}
  {t_ROUND_7_0:Tok}
  {t_ROUND_7_1:Tok}
  {t_ROUND_7_2:Tok}
  {g_ROUND_8:Addr} {od_ROUND_8:Option Addr} {n_ROUND_8:Nat} {sl_ROUND_8:Array (Option Value)}
  {t_ROUND_8_0:Tok}
  {t_ROUND_8_1:Tok}
  {t_ROUND_8_2:Tok}
  {g_SIDES_0:Addr} {od_SIDES_0:Option Addr} {n_SIDES_0:Nat} {sl_SIDES_0:Array (Option Value)}
  {g_SIDES_1:Addr} {od_SIDES_1:Option Addr} {n_SIDES_1:Nat} {sl_SIDES_1:Array (Option Value)}
  {t_SIDES_1_0:Tok}
  {t_SIDES_1_1:Tok}
  {g_SIDES_2:Addr} {od_SIDES_2:Option Addr} {n_SIDES_2:Nat} {sl_SIDES_2:Array (Option Value)}
  {t_SIDES_2_0:Tok}
  {t_SIDES_2_1:Tok}
  {g_SIDES_3:Addr} {od_SIDES_3:Option Addr} {n_SIDES_3:Nat} {sl_SIDES_3:Array (Option Value)}
  {t_SIDES_3_0:Tok}
  {t_SIDES_3_1:Tok}
  {g_SIDES_4:Addr} {od_SIDES_4:Option Addr} {n_SIDES_4:Nat} {sl_SIDES_4:Array (Option Value)}
  {t_SIDES_4_0:Tok}
  {t_SIDES_4_1:Tok}
  {g_STRAIGHT_0:Addr} {od_STRAIGHT_0:Option Addr} {n_STRAIGHT_0:Nat} {sl_STRAIGHT_0:Array (Option Value)}
  {t_STRAIGHT_0_0:Tok}
  {t_STRAIGHT_0_1:Tok}
  {t_STRAIGHT_0_2:Tok}
  {t_STRAIGHT_0_3:Tok}
  (rD:W.nsIn K mainGlobals "row_of" = some (some (.ref fO))) (sw:K.lookup fO = some ⟨DD,DF,.func (W.fnOf "row_of" "row_of" (aZ gP) (aV gP) (am gP) .none Dq Dc DM C1 u0 C9),D0⟩) (rX:W.codeIn K u0 "row_of" = true) (iL:W.keepIn K (.ref fO) = true)
  (kl:W.nsIn K mainGlobals "row_count" = some (some (.ref cI))) (kE:K.lookup cI = some ⟨wX,wZ,.func (W.fnOf "row_count" "row_count" (aZ dg) (aV dg) (am dg) .none wS wF xm wo m9 wD),xy⟩) (kw:W.codeIn K m9 "row_count" = true) (eu:W.keepIn K (.ref cI) = true)
  (jg:W.nsIn K mainGlobals "picture_of" = some (some (.ref bX))) (jx:K.lookup bX = some ⟨uv,uy,.func (W.fnOf "picture_of" "picture_of" (aZ cg) (aV cg) (am cg) .none ul ug uE t7 lN uc),uK⟩) (jt:W.codeIn K lN "picture_of" = true) (di:W.keepIn K (.ref bX) = true)
  (gu:W.nsIn K mainGlobals "stretches_of" = some (some (.ref bx))) (gG:K.lookup bx = some ⟨qH,qJ,.func (W.fnOf "stretches_of" "stretches_of" (aZ bO) (aV bO) (am bO) .none qB qv qN p9 jP qq),qR⟩) (gD:W.codeIn K jP "stretches_of" = true) (cE:W.keepIn K (.ref bx) = true)
  (iu:W.nsIn K mainGlobals "count_cells" = some (some (.ref bF))) (iz:K.lookup bF = some ⟨sP,sQ,.func (W.fnOf "count_cells" "count_cells" (aZ cu) (aV cu) (am cu) .none sr rS tf rF kt rR),tH⟩) (iy:W.codeIn K kt "count_cells" = true) (cW:W.keepIn K (.ref bF) = true)
  (mm:W.nsIn K mainGlobals "cells_of" = some (some (.ref dc))) (mK:K.lookup dc = some ⟨yX,y0,.func (W.fnOf "cells_of" "cells_of" (aZ d7) (aV d7) (am d7) .none yH yg zm xS pH yb),zJ⟩) (mD:W.codeIn K pH "cells_of" = true) (fc:W.keepIn K (.ref dc) = true)
  (wm:W.nsIn K mainGlobals "turns" = some (some (.ref hU))) (wV:K.lookup hU = some ⟨Fn,Fp,.func (W.fnOf "turns" "turns" (aZ jI) (aV jI) (am jI) .none E5 Ew FF El x0 Et),Gj⟩) (wK:W.codeIn K x0 "turns" = true) (ll:W.keepIn K (.ref hU) = true)
  (gr:W.nsIn K mainGlobals "count_around" = some (some (.ref bw))) (gF:K.lookup bw = some ⟨qG,qI,.func (W.fnOf "count_around" "count_around" (aZ bN) (aV bN) (am bN) .none qA qu qM p8 jO qf),qQ⟩) (gC:W.codeIn K jO "count_around" = true) (cD:W.keepIn K (.ref bw) = true)
  (oo:W.nsIn K mainGlobals "thinned" = some (some (.ref bG))) (oX:K.lookup bG = some ⟨A0,A3,.func (W.fnOf "thinned" "thinned" (aZ bC) (aV bC) (am bC) (.ref gz) mH mw mR mn jm mt),Bs⟩) (oI:W.codeIn K jm "thinned" = true) (dn:W.keepIn K (.ref bG) = true)
  (jq:K.lookup gz = some ⟨dc_thinned_,Ax,.seq #[.bool true] AA,AB⟩)
  (jh:W.nsIn K mainGlobals "take_round" = some (some (.ref b8))) (jy:K.lookup b8 = some ⟨uw,uz,.func (W.fnOf "take_round" "take_round" (aZ du) (aV du) (am du) .none um uh uF t8 lO ud),uL⟩) (ju:W.codeIn K lO "take_round" = true) (dl:W.keepIn K (.ref b8) = true)
  (jf:W.nsIn K mainGlobals "free_cells" = some (some (.ref bW))) (jw:K.lookup bW = some ⟨uu,ux,.func (W.fnOf "free_cells" "free_cells" (aZ cS) (aV cS) (am cS) .none uk uf uD t5 lM ub),uJ⟩) (jr:W.codeIn K lM "free_cells" = true) (dh:W.keepIn K (.ref bW) = true)
  (km:W.nsIn K mainGlobals "take_pass" = some (some (.ref cJ))) (kF:K.lookup cJ = some ⟨wY,w8,.func (W.fnOf "take_pass" "take_pass" (aZ eB) (aV eB) (am eB) .none wT wG xn wp nc wE),xz⟩) (kx:W.codeIn K nc "take_pass" = true) (ez:W.keepIn K (.ref cJ) = true)
  (Ae:W.nsIn K mainGlobals "goes" = some (some (.ref kA))) (AQ:K.lookup kA = some ⟨HD,HE,.func (W.fnOf "goes" "goes" (aZ mT) (aV mT) (am mT) .none Hv He HP G0 BW G7),Ii⟩) (AC:W.codeIn K BW "goes" = true) (oT:W.keepIn K (.ref kA) = true)
  (mj:W.nsIn K mainGlobals "_law_cell_at" = some (some (.ref bD))) (mI:K.lookup bD = some ⟨yV,yY,.func (W.fnOf "_law_cell_at" "_law_cell_at" (aZ fk) (aV fk) (am fk) .none yF ye zk xQ pF x9),zH⟩) (mz:W.codeIn K pF "_law_cell_at" = true) (bK:W.keepIn K (.ref bD) = true)
  (rC:W.nsIn K mainGlobals "_law_spots" = some (some (.ref fN))) (sv:K.lookup fN = some ⟨DC,DE,.func (W.fnOf "_law_spots" "_law_spots" (aZ iX) (aV iX) (am iX) .none Dp Db DK C0 uZ C8),DZ⟩) (rV:W.codeIn K uZ "_law_spots" = true) (iK:W.keepIn K (.ref fN) = true)
  (ml:W.nsIn K mainGlobals "_law_picture" = some (some (.ref c9))) (mJ:K.lookup c9 = some ⟨yW,yZ,.func (W.fnOf "_law_picture" "_law_picture" (aZ df) (aV df) (am df) .none yG yf zl xR pG ya),zI⟩) (mB:W.codeIn K pG "_law_picture" = true) (de:W.keepIn K (.ref c9) = true)
  (oi:W.nsIn K mainGlobals "_law_may_go" = some (some (.ref eh))) (oV:K.lookup eh = some ⟨AY,A1,.func (W.fnOf "_law_may_go" "_law_may_go" (aZ fm) (aV fm) (am fm) .none AM Av Be Ah rN Ar),Bq⟩) (oG:W.codeIn K rN "_law_may_go" = true) (fb:W.keepIn K (.ref eh) = true)
  (wl:W.nsIn K mainGlobals "_law_told" = some (some (.ref hJ))) (wU:K.lookup hJ = some ⟨Fm,Fo,.func (W.fnOf "_law_told" "_law_told" (aZ lw) (aV lw) (am lw) .none E3 Eu FD Ej xZ Ep),Gi⟩) (wJ:W.codeIn K xZ "_law_told" = true) (hX:W.keepIn K (.ref hJ) = true)
  (oj:W.nsIn K mainGlobals "_law_walked" = some (some (.ref ei))) (oW:K.lookup ei = some ⟨AZ,A2,.func (W.fnOf "_law_walked" "_law_walked" (aZ gh) (aV gh) (am gh) .none AN Aw Bf Ai rO As),Br⟩) (oH:W.codeIn K rO "_law_walked" = true) (gf:W.keepIn K (.ref ei) = true)
  (Ei:W.nsIn K mainGlobals "law" = some (some (.ref EI))) (E8:K.lookup EI = some ⟨JW,JX,.func (W.fnOf "law" "law" (aZ l4) (aV l4) (am l4) .none E4 Ev FE Ek Ap Er),Ku⟩) (EE:W.codeIn K Ap "law" = true) (E6:W.keepIn K (.ref EI) = true)
  (z_dict:W.nsIn K mainGlobals "dict" = some none)
  (z_int:W.nsIn K mainGlobals "int" = some none)
  (z_isinstance:W.nsIn K mainGlobals "isinstance" = some none)
  (z_len:W.nsIn K mainGlobals "len" = some none)
  (z_list:W.nsIn K mainGlobals "list" = some none)
  (z_max:W.nsIn K mainGlobals "max" = some none)
  (z_range:W.nsIn K mainGlobals "range" = some none)
  (z_set:W.nsIn K mainGlobals "set" = some none)
  (z_sorted:W.nsIn K mainGlobals "sorted" = some none)
  (z_sum:W.nsIn K mainGlobals "sum" = some none)
  (z_tuple:W.nsIn K mainGlobals "tuple" = some none)
  (y_MOST_CELLS:W.nsIn K mainGlobals "MOST_CELLS" = some (some (.int (1000) t_MOST_CELLS)))
  (y_ROUND:W.nsIn K mainGlobals "ROUND" = some (some (.ref g_ROUND_0)))
  (v_ROUND_0:K.lookup g_ROUND_0 = some ⟨.type "tuple",od_ROUND_0,.seq #[.ref g_ROUND_1,.ref g_ROUND_2,.ref g_ROUND_3,.ref g_ROUND_4,.ref g_ROUND_5,.ref g_ROUND_6,.ref g_ROUND_7,.ref g_ROUND_8] n_ROUND_0,sl_ROUND_0⟩)
  (v_ROUND_1:K.lookup g_ROUND_1 = some ⟨.type "tuple",od_ROUND_1,.seq #[.int (0) t_ROUND_1_0,.int (-1) t_ROUND_1_1,.int (1) t_ROUND_1_2] n_ROUND_1,sl_ROUND_1⟩)
  (v_ROUND_2:K.lookup g_ROUND_2 = some ⟨.type "tuple",od_ROUND_2,.seq #[.int (-1) t_ROUND_2_0,.int (-1) t_ROUND_2_1,.int (2) t_ROUND_2_2] n_ROUND_2,sl_ROUND_2⟩)
  (v_ROUND_3:K.lookup g_ROUND_3 = some ⟨.type "tuple",od_ROUND_3,.seq #[.int (-1) t_ROUND_3_0,.int (0) t_ROUND_3_1,.int (4) t_ROUND_3_2] n_ROUND_3,sl_ROUND_3⟩)
  (v_ROUND_4:K.lookup g_ROUND_4 = some ⟨.type "tuple",od_ROUND_4,.seq #[.int (-1) t_ROUND_4_0,.int (1) t_ROUND_4_1,.int (8) t_ROUND_4_2] n_ROUND_4,sl_ROUND_4⟩)
  (v_ROUND_5:K.lookup g_ROUND_5 = some ⟨.type "tuple",od_ROUND_5,.seq #[.int (0) t_ROUND_5_0,.int (1) t_ROUND_5_1,.int (16) t_ROUND_5_2] n_ROUND_5,sl_ROUND_5⟩)
  (v_ROUND_6:K.lookup g_ROUND_6 = some ⟨.type "tuple",od_ROUND_6,.seq #[.int (1) t_ROUND_6_0,.int (1) t_ROUND_6_1,.int (32) t_ROUND_6_2] n_ROUND_6,sl_ROUND_6⟩)
  (v_ROUND_7:K.lookup g_ROUND_7 = some ⟨.type "tuple",od_ROUND_7,.seq #[.int (1) t_ROUND_7_0,.int (0) t_ROUND_7_1,.int (64) t_ROUND_7_2] n_ROUND_7,sl_ROUND_7⟩)
  (v_ROUND_8:K.lookup g_ROUND_8 = some ⟨.type "tuple",od_ROUND_8,.seq #[.int (1) t_ROUND_8_0,.int (-1) t_ROUND_8_1,.int (128) t_ROUND_8_2] n_ROUND_8,sl_ROUND_8⟩)
  (y_SIDES:W.nsIn K mainGlobals "SIDES" = some (some (.ref g_SIDES_0)))
  (v_SIDES_0:K.lookup g_SIDES_0 = some ⟨.type "tuple",od_SIDES_0,.seq #[.ref g_SIDES_1,.ref g_SIDES_2,.ref g_SIDES_3,.ref g_SIDES_4] n_SIDES_0,sl_SIDES_0⟩)
  (v_SIDES_1:K.lookup g_SIDES_1 = some ⟨.type "tuple",od_SIDES_1,.seq #[.int (0) t_SIDES_1_0,.int (-1) t_SIDES_1_1] n_SIDES_1,sl_SIDES_1⟩)
  (v_SIDES_2:K.lookup g_SIDES_2 = some ⟨.type "tuple",od_SIDES_2,.seq #[.int (-1) t_SIDES_2_0,.int (0) t_SIDES_2_1] n_SIDES_2,sl_SIDES_2⟩)
  (v_SIDES_3:K.lookup g_SIDES_3 = some ⟨.type "tuple",od_SIDES_3,.seq #[.int (0) t_SIDES_3_0,.int (1) t_SIDES_3_1] n_SIDES_3,sl_SIDES_3⟩)
  (v_SIDES_4:K.lookup g_SIDES_4 = some ⟨.type "tuple",od_SIDES_4,.seq #[.int (1) t_SIDES_4_0,.int (0) t_SIDES_4_1] n_SIDES_4,sl_SIDES_4⟩)
  (y_STRAIGHT:W.nsIn K mainGlobals "STRAIGHT" = some (some (.ref g_STRAIGHT_0)))
  (v_STRAIGHT_0:K.lookup g_STRAIGHT_0 = some ⟨.type "tuple",od_STRAIGHT_0,.seq #[.int (1) t_STRAIGHT_0_0,.int (4) t_STRAIGHT_0_1,.int (16) t_STRAIGHT_0_2,.int (64) t_STRAIGHT_0_3] n_STRAIGHT_0,sl_STRAIGHT_0⟩)
  : ∃ fd:FuncData,(∀ (s:Shared) (v:Value),BindsTo s fd ⟨[v],[]⟩ [("_law_script",v)]) /\ ∀ base:Heap,K.In base -> base.Ns mainGlobals mg -> FnOk l.prog w K mg base CX0 7 fa fd ["_law_script"] (tN K):=by
 have e:=hfa.symm.trans (O9 X G Ei)
 cases e
 have T:Txt K mg:=⟨PY X G z_dict,PY X G z_int,PY X G z_isinstance,PY X G z_len,PY X G z_list,PY X G z_max,PY X G z_range,PY X G z_set,PY X G z_sorted,PY X G z_sum,PY X G z_tuple,⟨_,O9 X G y_MOST_CELLS⟩,⟨_,.ref _,O9 X G y_ROUND,rfl,fun S=>bI (xs:=[.ref g_ROUND_1,.ref g_ROUND_2,.ref g_ROUND_3,.ref g_ROUND_4,.ref g_ROUND_5,.ref g_ROUND_6,.ref g_ROUND_7,.ref g_ROUND_8]) v_ROUND_0 rfl rfl (OW (show 8 <= 1000 by decide) (by rw [O2];decide)) (.cons rfl (.cons rfl (.cons rfl (.cons rfl (.cons rfl (.cons rfl (.cons rfl (.cons rfl (.nil))))))))) (fun S=>Dens.cons (bI (xs:=[.int (0),.int (-1),.int (1)]) v_ROUND_1 rfl rfl (OW (show 3 <= 1000 by decide) (by rw [O2];decide)) (.cons ⟨_,rfl⟩ (.cons ⟨_,rfl⟩ (.cons ⟨_,rfl⟩ (.nil)))) (fun S=>Dens.cons (den_int.mpr rfl) (Dens.cons (den_int.mpr rfl) (Dens.cons (den_int.mpr rfl) (Dens.nil)))) S) (Dens.cons (bI (xs:=[.int (-1),.int (-1),.int (2)]) v_ROUND_2 rfl rfl (OW (show 3 <= 1000 by decide) (by rw [O2];decide)) (.cons ⟨_,rfl⟩ (.cons ⟨_,rfl⟩ (.cons ⟨_,rfl⟩ (.nil)))) (fun S=>Dens.cons (den_int.mpr rfl) (Dens.cons (den_int.mpr rfl) (Dens.cons (den_int.mpr rfl) (Dens.nil)))) S) (Dens.cons (bI (xs:=[.int (-1),.int (0),.int (4)]) v_ROUND_3 rfl rfl (OW (show 3 <= 1000 by decide) (by rw [O2];decide)) (.cons ⟨_,rfl⟩ (.cons ⟨_,rfl⟩ (.cons ⟨_,rfl⟩ (.nil)))) (fun S=>Dens.cons (den_int.mpr rfl) (Dens.cons (den_int.mpr rfl) (Dens.cons (den_int.mpr rfl) (Dens.nil)))) S) (Dens.cons (bI (xs:=[.int (-1),.int (1),.int (8)]) v_ROUND_4 rfl rfl (OW (show 3 <= 1000 by decide) (by rw [O2];decide)) (.cons ⟨_,rfl⟩ (.cons ⟨_,rfl⟩ (.cons ⟨_,rfl⟩ (.nil)))) (fun S=>Dens.cons (den_int.mpr rfl) (Dens.cons (den_int.mpr rfl) (Dens.cons (den_int.mpr rfl) (Dens.nil)))) S) (Dens.cons (bI (xs:=[.int (0),.int (1),.int (16)]) v_ROUND_5 rfl rfl (OW (show 3 <= 1000 by decide) (by rw [O2];decide)) (.cons ⟨_,rfl⟩ (.cons ⟨_,rfl⟩ (.cons ⟨_,rfl⟩ (.nil)))) (fun S=>Dens.cons (den_int.mpr rfl) (Dens.cons (den_int.mpr rfl) (Dens.cons (den_int.mpr rfl) (Dens.nil)))) S) (Dens.cons (bI (xs:=[.int (1),.int (1),.int (32)]) v_ROUND_6 rfl rfl (OW (show 3 <= 1000 by decide) (by rw [O2];decide)) (.cons ⟨_,rfl⟩ (.cons ⟨_,rfl⟩ (.cons ⟨_,rfl⟩ (.nil)))) (fun S=>Dens.cons (den_int.mpr rfl) (Dens.cons (den_int.mpr rfl) (Dens.cons (den_int.mpr rfl) (Dens.nil)))) S) (Dens.cons (bI (xs:=[.int (1),.int (0),.int (64)]) v_ROUND_7 rfl rfl (OW (show 3 <= 1000 by decide) (by rw [O2];decide)) (.cons ⟨_,rfl⟩ (.cons ⟨_,rfl⟩ (.cons ⟨_,rfl⟩ (.nil)))) (fun S=>Dens.cons (den_int.mpr rfl) (Dens.cons (den_int.mpr rfl) (Dens.cons (den_int.mpr rfl) (Dens.nil)))) S) (Dens.cons (bI (xs:=[.int (1),.int (-1),.int (128)]) v_ROUND_8 rfl rfl (OW (show 3 <= 1000 by decide) (by rw [O2];decide)) (.cons ⟨_,rfl⟩ (.cons ⟨_,rfl⟩ (.cons ⟨_,rfl⟩ (.nil)))) (fun S=>Dens.cons (den_int.mpr rfl) (Dens.cons (den_int.mpr rfl) (Dens.cons (den_int.mpr rfl) (Dens.nil)))) S) (Dens.nil))))))))) S⟩,⟨_,.ref _,O9 X G y_SIDES,rfl,fun S=>bI (xs:=[.ref g_SIDES_1,.ref g_SIDES_2,.ref g_SIDES_3,.ref g_SIDES_4]) v_SIDES_0 rfl rfl (OW (show 4 <= 1000 by decide) (by rw [O2];decide)) (.cons rfl (.cons rfl (.cons rfl (.cons rfl (.nil))))) (fun S=>Dens.cons (bI (xs:=[.int (0),.int (-1)]) v_SIDES_1 rfl rfl (OW (show 2 <= 1000 by decide) (by rw [O2];decide)) (.cons ⟨_,rfl⟩ (.cons ⟨_,rfl⟩ (.nil))) (fun S=>Dens.cons (den_int.mpr rfl) (Dens.cons (den_int.mpr rfl) (Dens.nil))) S) (Dens.cons (bI (xs:=[.int (-1),.int (0)]) v_SIDES_2 rfl rfl (OW (show 2 <= 1000 by decide) (by rw [O2];decide)) (.cons ⟨_,rfl⟩ (.cons ⟨_,rfl⟩ (.nil))) (fun S=>Dens.cons (den_int.mpr rfl) (Dens.cons (den_int.mpr rfl) (Dens.nil))) S) (Dens.cons (bI (xs:=[.int (0),.int (1)]) v_SIDES_3 rfl rfl (OW (show 2 <= 1000 by decide) (by rw [O2];decide)) (.cons ⟨_,rfl⟩ (.cons ⟨_,rfl⟩ (.nil))) (fun S=>Dens.cons (den_int.mpr rfl) (Dens.cons (den_int.mpr rfl) (Dens.nil))) S) (Dens.cons (bI (xs:=[.int (1),.int (0)]) v_SIDES_4 rfl rfl (OW (show 2 <= 1000 by decide) (by rw [O2];decide)) (.cons ⟨_,rfl⟩ (.cons ⟨_,rfl⟩ (.nil))) (fun S=>Dens.cons (den_int.mpr rfl) (Dens.cons (den_int.mpr rfl) (Dens.nil))) S) (Dens.nil))))) S⟩,⟨_,.ref _,O9 X G y_STRAIGHT,rfl,fun S=>bI (xs:=[.int (1),.int (4),.int (16),.int (64)]) v_STRAIGHT_0 rfl rfl (OW (show 4 <= 1000 by decide) (by rw [O2];decide)) (.cons ⟨_,rfl⟩ (.cons ⟨_,rfl⟩ (.cons ⟨_,rfl⟩ (.cons ⟨_,rfl⟩ (.nil))))) (fun S=>Dens.cons (den_int.mpr rfl) (Dens.cons (den_int.mpr rfl) (Dens.cons (den_int.mpr rfl) (Dens.cons (den_int.mpr rfl) (Dens.nil))))) S⟩⟩
 have xO:=cN (st:=gP) sw rX iL
 have rL:=(xO).binds (ps:=["pairs"]) fun _ _ _ _ _ _ us hl=>by obtain ⟨a0,rfl⟩:=us1 hl;rfl
 have fS:=O9 X G rD
 have pB:=cN (st:=dg) kE kw eu
 have ko:=(pB).binds (ps:=["row"]) fun _ _ _ _ _ _ us hl=>by obtain ⟨a0,rfl⟩:=us1 hl;rfl
 have cK:=O9 X G kl
 have kc:=cN (st:=bO) gG gD cE
 have gx:=(kc).binds (ps:=["picture"]) fun _ _ _ _ _ _ us hl=>by obtain ⟨a0,rfl⟩:=us1 hl;rfl
 have bM:=O9 X G gu
 have BJ:=cN (st:=jI) wV wK ll
 have ww:=(BJ).binds (ps:=["number"]) fun _ _ _ _ _ _ us hl=>by obtain ⟨a0,rfl⟩:=us1 hl;rfl
 have jB:=O9 X G wm
 have kb:=cN (st:=bN) gF gC cD
 have gw:=(kb).binds (ps:=["number"]) fun _ _ _ _ _ _ us hl=>by obtain ⟨a0,rfl⟩:=us1 hl;rfl
 have bL:=O9 X G gr
 have mX:=cN (st:=cS) jw jr dh
 have jj:=(mX).binds (ps:=["kept", "dx", "dy"]) fun _ _ _ _ _ _ us hl=>by obtain ⟨a0,a1,a2,rfl⟩:=us3 hl;rfl
 have bj:=O9 X G jf
 have rh:=cN (st:=fk) mI mz bK
 have c8:=(rh).binds (ps:=["_law_script", "_law_k"]) fun _ _ _ _ _ _ us hl=>by obtain ⟨a0,a1,rfl⟩:=us2 hl;rfl
 have aN:=O9 X G mj
 have rm:=cN (st:=df) mJ mB de
 have gv:=(rm).binds (ps:=["_law_spots_here"]) fun _ _ _ _ _ _ us hl=>by obtain ⟨a0,rfl⟩:=us1 hl;rfl
 have ci:=O9 X G ml
 have uP:=cN (st:=fm) oV oG fb
 have k9:=(uP).binds (ps:=["_law_there", "_law_x", "_law_y", "_law_ends"]) fun _ _ _ _ _ _ us hl=>by obtain ⟨a0,a1,a2,a3,rfl⟩:=us4 hl;rfl
 have dq:=O9 X G oi
 have mY:=cN (st:=cg) jx jt di
 have jk:=(mY).binds (ps:=["stretches"]) fun _ _ _ _ _ _ us hl=>by obtain ⟨a0,rfl⟩:=us1 hl;rfl
 have cc:=O9 X G jg
 have lL:=cN (st:=cu) iz iy cW
 have iw:=(lL).binds (ps:=["picture"]) fun _ _ _ _ _ _ us hl=>by obtain ⟨a0,rfl⟩:=us1 hl;rfl
 have cm:=O9 X G iu
 have Ef:=cN (st:=mT) AQ AC oT
 have Aj:=(Ef).binds (ps:=["kept", "x", "y", "ends"]) fun _ _ _ _ _ _ us hl=>by obtain ⟨a0,a1,a2,a3,rfl⟩:=us4 hl;rfl
 have jz:=O9 X G Ae
 have xN:=cN (st:=iX) sv rV iK
 have rK:=(xN).binds (ps:=["_law_script"]) fun _ _ _ _ _ _ us hl=>by obtain ⟨a0,rfl⟩:=us1 hl;rfl
 have iP:=O9 X G rC
 have uQ:=cN (st:=gh) oW oH gf
 have oA:=(uQ).binds (ps:=["_law_spots_here", "_law_taken", "_law_ends"]) fun _ _ _ _ _ _ us hl=>by obtain ⟨a0,a1,a2,rfl⟩:=us3 hl;rfl
 have lu:=O9 X G oj
 have rn:=cN (st:=d7) mK mD fc
 have mo:=(rn).binds (ps:=["picture"]) fun _ _ _ _ _ _ us hl=>by obtain ⟨a0,rfl⟩:=us1 hl;rfl
 have cj:=O9 X G mm
 have pD:=cN (st:=eB) kF kx ez
 have kq:=(pD).binds (ps:=["kept", "free", "ends"]) fun _ _ _ _ _ _ us hl=>by obtain ⟨a0,a1,a2,rfl⟩:=us3 hl;rfl
 have kG:=O9 X G km
 have mZ:=cN (st:=du) jy ju dl
 have jl:=(mZ).binds (ps:=["kept", "ends"]) fun _ _ _ _ _ _ us hl=>by obtain ⟨a0,a1,rfl⟩:=us2 hl;rfl
 have jA:=O9 X G jh
 have CW:FunD K "thinned" "thinned" bC gz bG _:=⟨⟨_,_,_,_,_,_,_,_,_,rfl,oX,oI⟩⟩
 have iG:Binds K (W.fnOf "thinned" "thinned" (aZ bC) (aV bC) (am bC) (.ref gz) mH mw mR mn jm mt) ["picture", "ends"] []:=fun s us X hl=>match us,(show us.length = 2 by simpa using hl) with | [_,_],_=>W.binds_K X rfl jq rfl rfl rfl
 have e9:Binds K (W.fnOf "thinned" "thinned" (aZ bC) (aV bC) (am bC) (.ref gz) mH mw mR mn jm mt) ["picture", "ends"] [.bool true]:=fun s us X hl=>match us,(show us.length = 1 by simpa using hl) with | [_],_=>W.binds_K X rfl jq rfl rfl rfl
 have cF:=O9 X G oo
 have BI:=cN (st:=lw) wU wJ hX
 have m6:=(BI).binds (ps:=["_law_picture_here", "_law_way"]) fun _ _ _ _ _ _ us hl=>by obtain ⟨a0,a1,rfl⟩:=us2 hl;rfl
 have dQ:=O9 X G wl
 have KK:=cN (st:=l4) E8 EE E6
 refine ⟨W.fnOf "law" "law" (aZ l4) (aV l4) (am l4) .none E4 Ev FE Ek Ap Er,fun s v=>.of_eq rfl,fun base _ _=>?_⟩
 have c7:FnOk l.prog w K mg base CX0 1 bD _ ["_law_script", "_law_k"] (fU K):=y3 rh T
 have kY:FnOk l.prog w K mg base CX0 1 eh _ ["_law_there", "_law_x", "_law_y", "_law_ends"] (jK K):=A4 uP T
 have gj:FnOk l.prog w K mg base CX0 1 c9 _ ["_law_spots_here"] (ik K):=y6 rm T
 have gk:FnOk l.prog w K mg base CX0 1 bw _ ["number"] (dU K):=qK kb T
 have i7:FnOk l.prog w K mg base CX0 1 bW _ ["kept", "dx", "dy"] (fG K):=uA mX T
 have ke:FnOk l.prog w K mg base CX0 1 cI _ ["row"] (gb K):=xg pB T
 have rA:FnOk l.prog w K mg base CX0 1 fO _ ["pairs"] (lA K):=DI xO T
 have gm:FnOk l.prog w K mg base CX0 1 bx _ ["picture"] (dW K):=qL kc T
 have we:FnOk l.prog w K mg base CX0 1 hU _ ["number"] (nW K):=Fs BJ T
 have rq:FnOk l.prog w K mg base CX0 2 fN _ ["_law_script"] (lz K):=DH xN T c7 aN bK c8
 have oh:FnOk l.prog w K mg base CX0 2 ei _ ["_law_spots_here", "_law_taken", "_law_ends"] (jL K):=A5 uQ T kY dq fb k9
 have iq:FnOk l.prog w K mg base CX0 2 bF _ ["picture"] (eP K):=sT lL T ke cK eu ko
 have Ab:FnOk l.prog w K mg base CX0 2 kA _ ["kept", "x", "y", "ends"] (re K):=HJ Ef T we jB ll ww gk bL cD gw
 have i8:FnOk l.prog w K mg base CX0 2 bX _ ["stretches"] (fH K):=uB mY T rA fS iL rL
 have me:FnOk l.prog w K mg base CX0 3 dc _ ["picture"] (il K):=y7 rn T iq cm cW iw gm bM cE gx
 have kf:FnOk l.prog w K mg base CX0 3 cJ _ ["kept", "free", "ends"] (gc K):=xh pD T Ab jz oT Aj
 have i9:FnOk l.prog w K mg base CX0 4 b8 _ ["kept", "ends"] (fI K):=uC mZ T kf kG ez kq i7 bj dh jj
 have eZ:FnOk l.prog w K mg base CX0 5 bG _ ["picture", "ends"] (gT K):=A6 CW T me cj fc mo i9 jA dl jl i8 cc di jk
 have m5:FnOk l.prog w K mg base CX0 6 hJ _ ["_law_picture_here", "_law_way"] (nV K):=Fq BI T eZ cF dn iG e9
 exact JY KK T c7 aN bK c8 rq iP iK rK m5 dQ hX m6 gj ci de gv oh lu gf oA eZ cF dn iG e9
theorem M4 {l:W.OpenLaw} {q:Program} {loose:List Str} {XP:(Str -> Option Value) -> Heap -> Prop} {YP:World -> Heap -> Prop} {d:DefRec} {K:Params -> W.Frag} (hn:l.most = some 63) (hdf:d.params.defaults = [])
  (hY:∀ (w:World) (h:Heap),YP w h -> (K w.params).In h)
  (F:∀ (w:World) (mg:Str -> Option Value) (fa:Addr) (h:Heap),(K w.params).In h -> h.Ns mainGlobals mg -> mg d.name = some (.ref fa) ->
   ∃ fd:FuncData,(∀ (s:Shared) (u:Value),BindsTo s fd ⟨[u],[]⟩ [("_law_script",u)]) /\ ∀ base:Heap,(K w.params).In base -> base.Ns mainGlobals mg -> FnOk l.prog w (K w.params) mg base CX0 7 fa fd ["_law_script"] (tN (K w.params))) :
  W.WalkO q loose XP YP l.row.toRowW d [] (fun f vs=>PySem.call f vs):=
 L2.Iw (n:=63) (k:=7) (x := "_law_script") (CX:=fun _=>CX0) (sp:=fun w=>tN (K w.params)) hn (by decide) hdf ⟨rfl,by decide,by decide⟩ hY F (fun _ H a ns hl _ hS=>M.D2 hS (Fd ns hl)) fun _ _ _ _ _ z=>z
end Lw
open PySem PySem.W PyProof.Rows
set_option maxRecDepth 100000 in
set_option maxHeartbeats 0 in
theorem PySem.Challenge.cw_shapethin_k53_thinned_cell_by_cell_holds : PySem.Challenge.rw_shapethin_k53_thinned_cell_by_cell.Holds := by
 w_on;refine holds_law Hd.e2 fun said=>?_
 refine holds_open (q:=Hd.q) (XP:=XL Hd.q []) (YP:=Hook.says Hd.H) (N:=100000) Hd.e1 (Hook.of Hd.H) (Hook.keeps Hd.H) (fun s e=>xl_of s (Sq.mp e).1) XL.keeps (by rfl) (by rfl) (by rfl) (fun s e=>recFacts_of (Sq.mp e).2) (by rfl) (by assumption) (by decide +kernel) ⟨rfl,rfl,rfl,rfl,rfl,by decide +kernel⟩ ?hw ?hc
 case hw=>w_witness2
 refine Lw.M4 (l := PySem.Challenge.rw_shapethin_k53_thinned_cell_by_cell) rfl rfl (fun w h Y => W.kIn_of Y) ?F
 case F=>
  intro w mg fa h KX G hmg
  refine' Lw.Js KX G hmg ?rD ?sw ?rX ?iL ?kl ?kE ?kw ?eu ?jg ?jx ?jt ?di ?gu ?gG ?gD ?cE ?iu ?iz ?iy ?cW ?mm ?mK ?mD ?fc ?wm ?wV ?wK ?ll ?gr ?gF ?gC ?cD ?oo ?oX ?oI ?dn ?jq ?jh ?jy ?ju ?dl ?jf ?jw ?jr ?dh ?km ?kF ?kx ?ez ?Ae ?AQ ?AC ?oT ?mj ?mI ?mz ?bK ?rC ?sv ?rV ?iK ?ml ?mJ ?mB ?de ?oi ?oV ?oG ?fb ?wl ?wU ?wJ ?hX ?oj ?oW ?oH ?gf ?Ei ?E8 ?EE ?E6 ?z_dict ?z_int ?z_isinstance ?z_len ?z_list ?z_max ?z_range ?z_set ?z_sorted ?z_sum ?z_tuple ?y_MOST_CELLS ?y_ROUND ?v_ROUND_0 ?v_ROUND_1 ?v_ROUND_2 ?v_ROUND_3 ?v_ROUND_4 ?v_ROUND_5 ?v_ROUND_6 ?v_ROUND_7 ?v_ROUND_8 ?y_SIDES ?v_SIDES_0 ?v_SIDES_1 ?v_SIDES_2 ?v_SIDES_3 ?v_SIDES_4 ?y_STRAIGHT ?v_STRAIGHT_0
  (case rD=>k_is)
  (case sw=>k_is)
  (case rX=>k_is)
  (case iL=>k_is)
  (case kl=>k_is)
  (case kE=>k_is)
  (case kw=>k_is)
  (case eu=>k_is)
  (case jg=>k_is)
  (case jx=>k_is)
  (case jt=>k_is)
  (case di=>k_is)
  (case gu=>k_is)
  (case gG=>k_is)
  (case gD=>k_is)
  (case cE=>k_is)
  (case iu=>k_is)
  (case iz=>k_is)
  (case iy=>k_is)
  (case cW=>k_is)
  (case mm=>k_is)
  (case mK=>k_is)
  (case mD=>k_is)
  (case fc=>k_is)
  (case wm=>k_is)
  (case wV=>k_is)
  (case wK=>k_is)
  (case ll=>k_is)
  (case gr=>k_is)
  (case gF=>k_is)
  (case gC=>k_is)
  (case cD=>k_is)
  (case oo=>k_is)
  (case oX=>k_is)
  (case oI=>k_is)
  (case dn=>k_is)
  (case jq=>k_is)
  (case jh=>k_is)
  (case jy=>k_is)
  (case ju=>k_is)
  (case dl=>k_is)
  (case jf=>k_is)
  (case jw=>k_is)
  (case jr=>k_is)
  (case dh=>k_is)
  (case km=>k_is)
  (case kF=>k_is)
  (case kx=>k_is)
  (case ez=>k_is)
  (case Ae=>k_is)
  (case AQ=>k_is)
  (case AC=>k_is)
  (case oT=>k_is)
  (case mj=>k_is)
  (case mI=>k_is)
  (case mz=>k_is)
  (case bK=>k_is)
  (case rC=>k_is)
  (case sv=>k_is)
  (case rV=>k_is)
  (case iK=>k_is)
  (case ml=>k_is)
  (case mJ=>k_is)
  (case mB=>k_is)
  (case de=>k_is)
  (case oi=>k_is)
  (case oV=>k_is)
  (case oG=>k_is)
  (case fb=>k_is)
  (case wl=>k_is)
  (case wU=>k_is)
  (case wJ=>k_is)
  (case hX=>k_is)
  (case oj=>k_is)
  (case oW=>k_is)
  (case oH=>k_is)
  (case gf=>k_is)
  (case Ei=>k_is)
  (case E8=>k_is)
  (case EE=>k_is)
  (case E6=>k_is)
  (case z_dict=>k_is)
  (case z_int=>k_is)
  (case z_isinstance=>k_is)
  (case z_len=>k_is)
  (case z_list=>k_is)
  (case z_max=>k_is)
  (case z_range=>k_is)
  (case z_set=>k_is)
  (case z_sorted=>k_is)
  (case z_sum=>k_is)
  (case z_tuple=>k_is)
  (case y_MOST_CELLS=>k_is)
  (case y_ROUND=>k_is)
  (case v_ROUND_0=>k_is)
  (case v_ROUND_1=>k_is)
  (case v_ROUND_2=>k_is)
  (case v_ROUND_3=>k_is)
  (case v_ROUND_4=>k_is)
  (case v_ROUND_5=>k_is)
  (case v_ROUND_6=>k_is)
  (case v_ROUND_7=>k_is)
  (case v_ROUND_8=>k_is)
  (case y_SIDES=>k_is)
  (case v_SIDES_0=>k_is)
  (case v_SIDES_1=>k_is)
  (case v_SIDES_2=>k_is)
  (case v_SIDES_3=>k_is)
  (case v_SIDES_4=>k_is)
  (case y_STRAIGHT=>k_is)
  (case v_STRAIGHT_0=>k_is)

import PyProof.Rows.All
import Wide.All
import OpenK.AllK
import Wide.FinOn
import Lean
import PyProof.EqAt
import PyProof.EqKinds
import PyProof.TupleCall
import PySem.Challenge.RW_shapethin_k55_passes_in_their_order
set_option genSizeOf false
set_option bootstrap.genMatcherCode false
set_option compiler.extract_closed false
set_option linter.all false
set_option maxHeartbeats 4000000
set_option maxRecDepth 100000
def Oh:=@PySem.wpAny_bind
def Oi:=@if_neg
def Oj:=@if_pos
def Ol:=@PyProof.Rows.wpS_bind
def Om:=@PySem.wpAny_pure
def Oo:=@PyProof.Rows.wpS_pure
def Op:=@Nat.le_refl
def Oq:=@List.mem_cons_self
def Os:=@List.length_map
def Ot:=@List.mem_singleton
def Ou:=@List.mem_cons_of_mem
def Ov:=@List.length_append
def Ow:=@List.length_cons
def Ox:=@List.map_cons
def Oy:=@List.mem_cons
def Oz:=@PySem.Heap.lt_size
def OA:=@PySem.Heap.get?_push_of_some
def OB:=@List.mem_append_right
def OC:=@List.mem_append
def OD:=@Nat.le_trans
def OE:=@Nat.ne_of_lt
def OG:=@congrArg
def OH:=@List.mem_append_left
def OI:=@List.mem_map
def OJ:=@PySem.sizeLine_eq
def OK:=@List.size_toArray
def OL:=@List.nodup_cons
def OM:=@List.map_map
def OO:=@PySem.Heap.get?_push_size
def OP:=@List.foldl_cons
def OQ:=@Ne.symm
def OS:=@PySem.W.mg_of
def OT:=@Nat.lt_of_lt_of_le
def OU:=@List.getElem?_map
def OV:=@List.append_assoc
def OW:=@List.filterMap_cons
def OX:=@List.pairwise_append
def OY:=@decide_eq_false
def OZ:=@List.append_nil
def O0:=@Array.length_toList
def O1:=@Int.le_refl
def O2:=@Option.some.inj
def O3:=@List.mem_filter
def O4:=@Nat.le_of_lt
def O5:=@List.getElem?_eq_some_iff
def O6:=@PyProof.Rows.wpS_mono
def O7:=@PyProof.Rows.wpS_forRange
def O8:=@PySem.wpAny_holding
def O9:=@Nat.zero_le
def Pa:=@PySem.PassesOwn.never
def Pb:=@decide_eq_true
def Pc:=@PySem.wpAny_newObj_type
def Pd:=@PySem.Heap.get?_update_self
def Pe:=@PyProof.Rows.wpS_modify
def Pf:=@Nat.lt_of_le_of_lt
def Pg:=@List.getElem?_set_ne
def Ph:=@Bool.false_ne_true
def Pi:=@PySem.W.kia_one
def Pj:=@Nat.le_of_eq
def Pk:=@PyProof.Rows.wpS_get
def Pl:=@PySem.F.plainAttrs_list
def Pm:=@List.lookup_cons
def Pn:=@PySem.wpAny_rule
def Po:=@Array.map_push
def Pp:=@Array.getElem?_toList
def Pq:=@of_decide_eq_false
def Pr:=@List.nodup_append
def Ps:=@Array.getElem?_eq_getElem
def Pt:=@PySem.wpAny_call_entry
def Pu:=@Bool.and_eq_true
def Pv:=@List.length_singleton
def Pw:=@List.pairwise_map
def Px:=@PySem.Heap.get?_update_ne
def Py:=@Iff.rfl
def Pz:=@List.filter_cons
def PB:=@PySem.W.mg_none_of
def PD:=@PySem.wpAny_mono
def PF:=@List.getElem?_eq_getElem
def PH:=@List.pairwise_cons
def PK:=@Option.bind_some
def PL:=@PySem.Paired.length
def PM:=@List.mem_range
def PN:=@PySem.wpAny_typeOf
def PP:=@List.map_nil
def PQ:=@List.length_set
def PR:=@Array.toList_append
def PU:=@Array.map_reverse
def PV:=@Int.toNat_natCast
def PX:=@List.getElem?_cons_succ
def PY:=@List.getElem?_cons_zero
def PZ:=@PySem.F.slot_list_append
def P0:=@PySem.F.type_list_append
def P5:=@Nat.ne_of_gt
def P6:=@List.length_take
def P7:=@if_false
def P8:=@beq_iff_eq
def P9:=@PyProof.Rows.wpS_lift
def Qa:=@Array.toList_push
def Qb:=@Nat.zero_add
def Qc:=@of_decide_eq_true
def Qd:=@PySem.wpAny_of_eq
def Qe:=@PySem.Obj.data_mapFields
def Qf:=@PySem.codeAny_builtin
def Qg:=@List.filter_cons_of_neg
def Qh:=@PySem.F.called_set
def Qi:=@List.eq_nil_or_concat
def Qj:=@List.concat_eq_append
def Qk:=@Nat.lt_irrefl
def Ql:=@PySem.wpAny_passesOwn
def Qm:=@List.getElem?_append_right
def Qn:=@List.getElem?_append_left
def Qo:=@List.length_eq_zero_iff
def Qp:=@PySem.typeLookup_type
def Qq:=@PySem.builtinLookup_eq_fast
def Qr:=@PySem.Around.under_plainId
def Qs:=@PySem.plainId_quiet
def Qt:=@List.foldl_append
def Qu:=@List.mem_flatMap
def Qv:=@List.getElem?_set_self
def Qw:=@PySem.wpAny_truthy_bool
def Qx:=@PySem.mem_of_lookup
def Qy:=@PySem.wpAny_callSpecial?_slot
def Qz:=@PyProof.Rows.slot_tuple_getitem
def QA:=@List.any_cons
def QB:=@Nat.lt_succ_of_lt
def QC:=@Array.perm_iff_toList_perm
def QD:=@List.pairwise_singleton
def QE:=@List.drop_of_length_le
def QF:=@Nat.lt_succ_self
def QG:=@List.take_of_length_le
def QH:=@List.ext_getElem?
def QI:=@Nat.succ_pos
def QJ:=@List.getElem?_eq_none_iff
def QK:=@List.find?_cons
def QL:=@PySem.isSubtype_type
def QM:=@PySem.wpAny_throw
def QN:=@PySem.wpAny_isInstance
def QO:=@List.map_append
def QP:=@Array.getElem?_eq_some_iff
def QR:=@List.filter_cons_of_pos
def QS:=@PySem.wpAny_fieldsOf
def QT:=@List.sum_cons
def QU:=@PySem.codeAny_mono
def QV:=@PySem.wpAny_Call_Name_kw
def QW:=@List.mem_of_getElem?
def QX:=@Nat.le_of_not_lt
def QY:=@PySem.Heap.size_push
def QZ:=@PySem.wpAny_attempt
def Q0:=@List.drop_eq_getElem_cons
def Q1:=@Array.toList_extract
def Q2:=@List.extract_eq_take_drop
def Q3:=@List.getElem?_drop
def Q4:=@Array.size_map
def Q5:=@List.zip_cons_cons
def Q6:=@Nat.lt_trans
def Q7:=@List.not_mem_nil
def Q8:=@List.length_filter_le
def Q9:=@PySem.tupleKind_room_in1
def Ra:=@List.nodup_nil
def Rb:=@PySem.Obj.isFreed_of_fields
def Rc:=@Classical.byContradiction
def Re:=@Array.size_extract
def Rf:=@PySem.wpAny_dictEntries
def Rg:=@PySem.Heap.SameBut.update
def Rh:=@PySem.F.slot_dict_keyiterator_next
def Ri:=@PySem.wpAny_setField
def Rj:=@List.eq_nil_of_length_eq_zero
def Rk:=@PySem.wpAny_askSetting
def Rm:=@PySem.wpAny_updateSeq
def Ro:=@List.length_range'
def Rp:=@PySem.wpAny_execs_nil
def Rq:=@PyProof.Rows.callWith_type1
def Rr:=@List.mem_filterMap
def Rs:=@Option.isSome_iff_exists
def Rt:=@List.length_replicate
def Ru:=@List.length_drop
def Rv:=@PySem.Heap.get?_update_other
def Rx:=@List.pairwise_iff_getElem
def Ry:=@List.take_append_drop
def Rz:=@List.getElem?_take
def RA:=@List.mem_reverse
def RB:=@List.length_nil
def RC:=@PySem.Obj.cls_mapFields
def RD:=@PySem.F.slot_list_getattribute
def RE:=@List.map_congr_left
def RF:=@List.length_range
def RG:=@Array.getD_eq_getD_getElem?
def RH:=@List.filter_sublist
def RI:=@PySem.wpAny_typeNameOfWhole_keyiter
def RJ:=@PySem.wpAny_typeNameOf_keyiter
def RK:=@Array.getElem?_eq_none
def RL:=@PySem.wpAny_setState_of
def RM:=@List.mem_map_of_mem
def RN:=@PySem.F.slot_list_extend
def RP:=@PySem.F.type_list_extend
def RQ:=@List.getElem?_replicate
def RS:=@PySem.F.slot_tuple_add
def RT:=@PySem.F.entry_tuple_add
def RU:=@PySem.F.args_tuple_add_2
def RV:=@List.Perm.append_left
def RX:=@List.getElem?_of_mem
def RY:=@List.pairwise_reverse
def RZ:=@List.getD_eq_getElem?_getD
def R0:=@List.Perm.eq_of_pairwise
def R5:=@PySem.codeAny_call_builtin
def R6:=@List.contains_iff_mem
def R7:=@List.mem_erase_of_ne
def R8:=@List.length_erase_of_mem
def R9:=@PySem.wpAny_notOrdered_dict
def Sa:=@PySem.wpAny_isOneOf_keyiter
def Sb:=@Bool.and_eq_true_iff
def Sc:=@PyProof.Rows.F.plain_set_update_loop
namespace Hd
open PySem PySem.W PySem.Calls PyProof.Rows
noncomputable def FM (stp:SharedT -> Thread -> Option (SharedT × Thread)) (ok:Thread -> Bool):Nat -> SharedT -> Thread -> Option SharedT
 | 0,_,_=>none
 | n + 1,s,t=>match through t with
  | true=>some s
  | false=>match ok t with
   | false=>none
   | true=>match stp s t with
    | some (s',t')=>FM stp ok n s' t'
    | none=>none
theorem vO {tb:String -> Option Builtin} {p:Program} {w:World} {n₀:Nat} {ann:Option Value}:∀ (n:Nat) (s:SharedT) (t:Thread) (r:SharedT),FM (stepT (denote tb) p w) (stepOk n₀ ann) n s t = some r -> topRun tb p w n₀ ann n s.abs t = some r.abs
 | 0,_,_,_,h=>by cases h
 | n + 1,s,t,r,h=>by
  unfold FM at h
  unfold topRun
  cases ht:through t with
  | true=>rw [ht] at h;cases h;rfl
  | false=>
   rw [ht] at h
   cases hk:stepOk n₀ ann t with
   | false=>rw [hk] at h;cases h
   | true=>
    rw [hk] at h
    cases hs:stepT (denote tb) p w s t with
    | none=>rw [hs] at h;cases h
    | some x=>
     obtain ⟨s',t'⟩:=x
     rw [hs] at h
     rw [stepT_spec hs]
     exact vO n s' t' r h
noncomputable def Gh:List Obj -> Nat -> BT -> BT
 | [],_,t=>t
 | o :: l,n,t=>Gh l (n + 1) (t.ins n o)
noncomputable def T0 (P:Params):BT:=Gh (boot_heap P).objs.toList 0 .nil
theorem Kr (P:Params):absHeap (T0 P) 11 (boot_heap P).life = boot_heap P:=by kernel_rfl
theorem sz (P:Params):((boot_heap P).isNs mainGlobals,(boot_heap P).objs.size,(boot_heap P).nsMap mainGlobals "__annotations__") = (true,11,some (.ref 6)):=by kernel_rfl
noncomputable def S0 (w:World) (os:OsState):SharedT:=⟨T0 w.params,11,(boot_heap w.params).life,Array.mk [],boot_drawn,boot_toks,os⟩
theorem Hf {p q:Program} {loose:List Str} {Xt:Shared -> Bool} {α:Type} {Yf:Shared -> α} {Ya:World -> α} {N M:Nat} {g0:Bool}
  (open_:∀ w:World,(fencedOpening treeTable p w N).map (fun s=>(s.heap,s.gens,s.drawn,s.toks)) = some (boot_heap w.params,Array.mk [],boot_drawn,boot_toks)) (le:Nat.ble M N = true)
  (big:∀ w:World,(fun os=>(FM (stepT (denote treeTable) p w) (stepOk 11 (some (.ref 6))) M (S0 w os) (topStub p)).map fun r=>((staticsOk (importedModules p.main.body) (boot_heap w.params) r.abs.heap && namesBound p r.abs.heap && gensDone r.abs && laidKept (boot_heap w.params) r.abs.heap),
    openSeen q loose (importedModules p.main.body) Xt g0 r.abs,Yf r.abs)) = fun _=>some (true,openGood q loose,Ya w)):LeftO p q loose Xt Yf Ya N g0:=fun w=>by
 obtain ⟨⟨h,gs,d,k,os⟩,e,e'⟩:=Option.map_eq_some_iff.mp (open_ w)
 obtain ⟨rfl,rfl,rfl,rfl⟩:h = boot_heap w.params /\ gs = Array.mk [] /\ d = boot_drawn /\ k = boot_toks:=by simpa using e'
 obtain ⟨z1,z2,z3⟩:_ /\ _ /\ _:=by simpa only [Prod.mk.injEq] using sz w.params
 obtain ⟨r,hr,hb⟩:=Option.map_eq_some_iff.mp (congrFun (big w) os)
 obtain ⟨l1,l2,l3⟩:_ /\ _ /\ _:=by simpa only [Prod.mk.injEq] using hb
 have ha:(S0 w os).abs = ⟨boot_heap w.params,Array.mk [],boot_drawn,boot_toks,os⟩:=by
  unfold S0 SharedT.abs
  dsimp only
  rw [Kr]
 have t:=topRun_mono (N - M) _ _ _ _ (vO _ _ _ _ hr)
 rw [show M + (N - M) = N by have:=Nat.le_of_ble_eq_true le;lia,ha] at t
 have t2:topFrom treeTable p w N ⟨boot_heap w.params,Array.mk [],boot_drawn,boot_toks,os⟩ = some r.abs:=by
  unfold topFrom
  dsimp only
  rw [z1,z2,z3,t]
  show (match staticsOk (importedModules p.main.body) (boot_heap w.params) r.abs.heap && namesBound p r.abs.heap && gensDone r.abs && laidKept (boot_heap w.params) r.abs.heap with | true=>_ | false=>_) = _
  rw [l1]
 unfold openEnds
 rw [e]
 show (topFrom treeTable p w N _).map _ = _
 rw [t2]
 exact OG some (Prod.ext l2 l3)
theorem Hg {p q:Program} {loose:List Str} {Xt:Shared -> Bool} {α:Type} {Yf:Shared -> α} {Ya:World -> α} {g0:Bool}
  (open_:∀ w:World,(fencedOpening treeTable p w 100000).map (fun s=>(s.heap,s.gens,s.drawn,s.toks)) = some (boot_heap w.params,Array.mk [],boot_drawn,boot_toks))
  (big:∀ w:World,(fun os=>(FM (Fast.tw10156331382660048174 (Fast.tw11892475500146522536 Fast.tw14364793385576792824) p w) (Fast.tw6613529449190102663 11 (some (.ref 6))) 100000 (S0 w os) (topStub p)).map fun r=>((staticsOk (Fast.tw5923862056798008813 p.main.body) (boot_heap w.params) r.abs.heap && namesBound p r.abs.heap && gensDone r.abs && laidKept (boot_heap w.params) r.abs.heap),
    Fast.tw4187177175401517315 q loose (Fast.tw5923862056798008813 p.main.body) Xt g0 r.abs,Yf r.abs)) = fun _=>some (true,openGood q loose,Ya w)):LeftO p q loose Xt Yf Ya 100000 g0:=by
 rw [<- Fast.te10156331382660048174,<- Fast.te11892475500146522536,<- Fast.te14364793385576792824,<- Fast.te6613529449190102663,<- Fast.te5923862056798008813,<- Fast.te4187177175401517315] at big
 exact Hf open_ rfl big
theorem HL {l:OpenLaw} (h:Fast.tw9446332074065402090 l = true):l.wellSaid = true:=by
 rw [Fast.te9446332074065402090]
 exact h
end Hd
set_option Elab.async false
section
open PySem PySem.W PyProof.Rows
noncomputable def Hd.q : Program := view PySem.Challenge.pw_shapethin_k55_passes_in_their_order [1, 2, 4, 5, 7, 8, 9, 10, 11, 13, 14, 15, 16, 18, 20, 21, 22, 23, 25, 26, 27, 28, 29, 30, 31]
local macro_rules | `(tactic| o_head $_)=>`(tactic| assumption)
set_option maxHeartbeats 0 in
theorem Hd.e0 : PySem.Challenge.rw_shapethin_k55_passes_in_their_order.row.Holds -> PySem.Challenge.rw_shapethin_k55_passes_in_their_order.row.Holds := by intro h; w_on; k_head
noncomputable def Hd.as:List Addr:=(Hd.e0.heap_1 { strHash:=fun _=>0,shareClass:=fun _=>0,mergeTok:=id,idOf:=fun _=>0,idOfShared:=fun _ _=>0,followText:=fun _=>true,idOfImm:=fun _=>0 }).map (·.1)
theorem Hd.ae (P:Params):Hd.as = (Hd.e0.heap_1 P).map (·.1):=by kernel_rfl
noncomputable abbrev Hd.H:Hook:=kHook Hd.e0.heap_1 Hd.as Hd.ae
set_option maxHeartbeats 0 in
theorem Hd.e1 : LeftO PySem.Challenge.rw_shapethin_k55_passes_in_their_order.row.prog Hd.q ["thinned"] (fun s => xlAt Hd.q [] s && recOk (RowW.records (OpenRow.toRowW (OpenLaw.row PySem.Challenge.rw_shapethin_k55_passes_in_their_order))) s) (Hook.obs Hd.H) (Hook.val Hd.H) 100000 := Hd.Hg (boot_open (by rfl) rfl (fun s => rfl)) (by intro w; kernel_rfl)
set_option maxHeartbeats 0 in
theorem Hd.e2 : PySem.Challenge.rw_shapethin_k55_passes_in_their_order.wellSaid = true := Hd.HL (by kernel_rfl)
end
set_option Elab.async false
set_option linter.all false
set_option maxRecDepth 100000
namespace L2
open PySem PySem.Spec PyProof.Rows
noncomputable abbrev Key:=Sum Int Str
noncomputable def vm:Key -> Value -> Bool
 | .inl k,v=>Value.isInt k v
 | .inr x,v=>Value.isStrOf x v
noncomputable def Mb (w:World):Key -> Int
 | .inl k=>hashInt k
 | .inr x=>hashStr w x
theorem b8:∀ {k:Key} {v:Value},vm k v = true -> (∃ i t,k = Sum.inl i /\ v = Value.int i t) \/ (∃ x t,k = Sum.inr x /\ v = Value.str x t)
 | .inl i,v,h=>by
  obtain ⟨t,e⟩:=Value.isInt_shape (k:=i) (v:=v) h
  exact .inl ⟨i,t,rfl,e⟩
 | .inr x,v,h=>by
  obtain ⟨t,e⟩:=Value.isStrOf_shape (x:=x) (v:=v) h
  exact .inr ⟨x,t,rfl,e⟩
theorem C7 (i:Int) (t:Tok):vm (.inl i) (.int i t) = true:=by simp [vm,Value.isInt]
theorem C8 (x:Str) (t:Tok):vm (.inr x) (.str x t) = true:=by simp [vm,Value.isStrOf]
theorem Jr (a b:Int):decide ((Sum.inl a:Key) = Sum.inl b) = (a == b):=by
 by_cases e:a = b
 ·subst e;simp
 ·have h:¬ (Sum.inl a:Key) = Sum.inl b:=fun q=>e (Sum.inl.inj q)
  rw [OY h]
  exact (beq_eq_false_iff_ne.mpr e).symm
theorem Ju (a b:Str):decide ((Sum.inr a:Key) = Sum.inr b) = decide (a = b):=by
 by_cases e:a = b
 ·subst e;simp
 ·have h:¬ (Sum.inr a:Key) = Sum.inr b:=fun q=>e (Sum.inr.inj q)
  rw [OY h,OY e]
theorem Js (a:Int) (b:Str):decide ((Sum.inl a:Key) = Sum.inr b) = false:=OY (fun q=>nomatch q)
theorem Jt (a:Str) (b:Int):decide ((Sum.inr a:Key) = Sum.inl b) = false:=OY (fun q=>nomatch q)
noncomputable def bp (prog:Program) (w:World):PySem.KeyKind prog w Key where
 is:=vm
 hash:=Mb w
 inj:=fun v a b ha hb=>by
  rcases b8 ha with ⟨i,t,rfl,rfl⟩ | ⟨x,t,rfl,rfl⟩
  ·rcases b8 hb with ⟨j,u,rfl,e⟩ | ⟨y,u,rfl,e⟩
   ·injection e with e1 _;rw [e1]
   ·exact nomatch e
  ·rcases b8 hb with ⟨j,u,rfl,e⟩ | ⟨y,u,rfl,e⟩
   ·exact nomatch e
   ·injection e with e1 _;rw [e1]
 byValue:=fun k v h=>by
  rcases b8 h with ⟨i,t,rfl,rfl⟩ | ⟨x,t,rfl,rfl⟩ <;> rfl
 pyHash:=fun hv h=>by
  rcases b8 hv with ⟨i,t,rfl,rfl⟩ | ⟨x,t,rfl,rfl⟩
  ·exact wpAny_pyHash_int h
  ·exact wpAny_pyHash_str h
 eqBool:=fun hu hv h=>by
  rcases b8 hu with ⟨i,t,rfl,rfl⟩ | ⟨x,t,rfl,rfl⟩
  ·rcases b8 hv with ⟨j,u,rfl,rfl⟩ | ⟨y,u,rfl,rfl⟩
   ·rw [Jr] at h;exact wpAny_eqBool_int h
   ·rw [Js] at h;exact SeqAt.EqAt.int_str i t y u _ _ _ _ h
  ·rcases b8 hv with ⟨j,u,rfl,rfl⟩ | ⟨y,u,rfl,rfl⟩
   ·rw [Jt] at h;exact SeqAt.EqAt.str_int x t j u _ _ _ _ h
   ·rw [Ju] at h;exact wpAny_eqBool_str h
 «strs»:=fun k x t v h=>by
  rcases b8 h with ⟨i,u,rfl,e⟩ | ⟨y,u,rfl,e⟩
  ·exact nomatch e
  ·injection e with e1 _
   subst e1
   cases v <;> rfl
theorem yD (prog:Program) (w:World) (i:Int) (t:Tok):(bp prog w).is (.inl i) (.int i t) = true:=C7 i t
theorem yE (prog:Program) (w:World) (x:Str) (t:Tok):(bp prog w).is (.inr x) (.str x t) = true:=C8 x t
inductive V where
 | non | bl (b:Bool) | int (i:Int) | str (x:Str) | byt (b:Array UInt8) | flt (b:UInt64) | ref (a:Addr) | ty (n:String)
 deriving DecidableEq
noncomputable def RelV:V -> Value -> Prop
 | .non,u=>u = Value.none
 | .bl b,u=>u = Value.bool b
 | .int i,u=>∃ t,u = Value.int i t
 | .str x,u=>∃ t,u = Value.str x t
 | .byt b,u=>∃ t,u = Value.bytes b t
 | .flt b,u=>∃ t,u = Value.float b t
 | .ref a,u=>u = Value.ref a
 | .ty n,u=>u = Value.type n
noncomputable abbrev Vals:List V -> List Value -> Prop:=Paired RelV
theorem Vals.length {xs:List V} {us:List Value} (r:Vals xs us):xs.length = us.length:=PL r
theorem Vals.get:∀ {xs:List V} {us:List Value} {i:Nat} {x:V},Vals xs us -> xs[i]? = some x -> ∃ u,us[i]? = some u /\ RelV x u
 | _,_,_,_,.nil,e=>by simp at e
 | _,_,0,_,.cons r _,e=>by simp at e;subst e;exact ⟨_,rfl,r⟩
 | _,_,i + 1,x,.cons _ t,e=>by
  obtain ⟨u,h1,h2⟩:=Vals.get (i:=i) (x:=x) t (by simpa using e)
  exact ⟨u,by simpa using h1,h2⟩
theorem Vals.set {x:V} {u:Value} (r:RelV x u):∀ {xs:List V} {us:List Value} (i:Nat),Vals xs us -> Vals (xs.set i x) (us.set i u)
 | _,_,_,.nil=>.nil
 | _,_,0,.cons _ t=>.cons r t
 | _,_,i + 1,.cons q t=>.cons q (Vals.set r i t)
theorem Vals.append:∀ {xs ys:List V} {us ws:List Value},Vals xs us -> Vals ys ws -> Vals (xs ++ ys) (us ++ ws)
 | _,_,_,_,.nil,s=>s
 | _,_,_,_,.cons r t,s=>.cons r (Vals.append t s)
theorem Vals.take:∀ {xs:List V} {us:List Value} (n:Nat),Vals xs us -> Vals (xs.take n) (us.take n)
 | _,_,0,_=>.nil
 | _,_,_ + 1,.nil=>.nil
 | _,_,n + 1,.cons r t=>.cons r (Vals.take n t)
theorem Vals.drop:∀ {xs:List V} {us:List Value} (n:Nat),Vals xs us -> Vals (xs.drop n) (us.drop n)
 | _,_,0,r=>r
 | _,_,_ + 1,.nil=>.nil
 | _,_,n + 1,.cons _ t=>Vals.drop n t
noncomputable def RelO:Option V -> Option Value -> Prop
 | some v,some u=>RelV v u
 | none,none=>True
 | _,_=>False
noncomputable def KV {κ:Type}:List (κ × V) -> List (κ × Value) -> Prop:=Paired fun (p:κ × V) (q:κ × Value)=>p.1 = q.1 /\ RelV p.2 q.2
noncomputable def kV:Key -> V
 | .inl i=>.int i
 | .inr x=>.str x
inductive HO where
  | lst (xs:List V)
  | tup (xs:List V)
  | dK (kvs:List (Key × V)) | dT (kvs:List (List Key × V))
  | set (S:Int -> Bool) (n:Nat)
  | ins (C dx:Addr) (fs:List (Str × V))
  | own (x:Addr)
  | xd (fs:List (Str × V))
  | met (f x:Addr)
  | rng (lo hi:Int)
  | frz (o:Obj) (u:HO)
  | tbl (ps:Array Value)
  | ext (φ:Heap -> Prop)
noncomputable abbrev Hp:=Addr -> Option HO
noncomputable def upd (H:Hp) (a:Addr) (o:HO):Hp:=fun b=>if b = a then some o else H b
theorem aD {H:Hp} {a:Addr} {o:HO}:upd H a o a = some o:=by unfold upd;rw [Oj rfl]
theorem aB {H:Hp} {a b:Addr} {o:HO} (h:b ≠ a):upd H a o b = H b:=by unfold upd;rw [Oi h]
theorem Cp {H:Hp} {a:Addr} {o u:HO}:upd (upd H a o) a u = upd H a u:=by
 funext b;unfold upd;split <;> rfl
theorem vz {H:Hp} {a b:Addr} {o u:HO} (h:H a = some o) (h':H b = some u) (d:o ≠ u):a ≠ b:=by
 intro e;subst e;rw [h] at h';exact d (O2 h')
theorem ba {H:Hp} {a b:Addr} {o:HO} (h:H a = some o) (h':H b = none):a ≠ b:=by
 intro e;subst e;rw [h] at h';cases h'
section
variable (P:Program) (w:World)
noncomputable def ObjOk (H:Hp) (h:Heap) (a:Addr):HO -> Prop
 | .lst xs=>xs.length <= sizeLine /\ ∃ (its:List Value) (n:Nat),Vals xs its /\ h.get? a = some { cls:=.type "list",data:=.seq its.toArray n }
 | .tup xs=>xs.length <= sizeLine /\ ∃ its:List Value,Vals xs its /\ IsTup h a its.toArray
 | .dK kvs=>kvs.length <= sizeLine /\ (a == sysModules) = false /\ ∃ vs,KV kvs vs /\ h.DictOf (bp P w) a vs
 | .dT kvs=>kvs.length <= sizeLine /\ (a == sysModules) = false /\ ∃ xs:List (List Key × Addr × Value),
   Paired (fun (p:List Key × V) (q:List Key × Addr × Value)=>p.1 = q.1 /\ H q.2.1 = some (.tup (p.1.map kV)) /\ RelV p.2 q.2.2) kvs xs /\
   ∃ o es ep,h.get? a = some o /\ o.ExactDict /\ o.data = .dict es ep /\ es.toList = xs.map (entryOfKey (tupleKind (bp P w))) /\ (xs.map (·.1)).Nodup
 | .set S n=>h.SetOf (intKind P w) a S n
 | .ins C dx fs=>H dx = some (.own a) /\ fs.length <= 1000 /\ dx ≠ a /\ h.get? a = some (W.instObj C dx) /\
   ∃ mA,h.Ns1 dx mA /\ (∀ f,RelO (fs.lookup f) (mA f)) /\ PySem.Within mA (fs.map (·.1))
 | .own _=>∃ o,h.get? a = some o
 | .xd fs=>∃ mA,h.Ns1 a mA /\ ∀ f,RelO (fs.lookup f) (mA f)
 | .rng lo hi=>∃ t u v,h.get? a = some { cls:=.type "range",data:=.fields #[.int lo t,.int hi u,.int 1 v] }
 | .frz o u=>h.get? a = some o /\ ObjOk H h a u
 | .tbl ps=>h.get? a = some { cls:=.none,data:=.fields ps }
 | .met f x=>h.get? a = some (W.methodObj (.ref f) (.ref x))
 | .ext φ=>φ h /\ (∃ o,h.get? a = some o) /\ ∀ h1 h2:Heap,φ h1 -> (∀ o,h1.get? a = some o -> h2.get? a = some o) -> φ h2
def HOk (H:Hp) (h:Heap):Prop:=∀ a o,H a = some o -> ObjOk P w H h a o
end
section
variable {P:Program} {w:World} {H H':Hp} {h h':Heap} {a:Addr} {o:HO}
theorem ObjOk.lt (x:ObjOk P w H h a o):a < h.objs.size:=by
 cases o with
 | lst xs=>obtain ⟨_,_,_,_,e⟩:=x;exact Oz e
 | tup xs=>obtain ⟨_,_,_,p⟩:=x;exact p.lt
 | dK kvs=>obtain ⟨_,_,_,_,o,_,_,e,_⟩:=x;exact Oz e
 | dT kvs=>obtain ⟨_,_,_,_,o,_,_,e,_⟩:=x;exact Oz e
 | set S n=>obtain ⟨o,_,_,_,e,_⟩:=x;exact Oz e
 | ins C dx fs=>obtain ⟨_,_,_,e,_⟩:=x;exact Oz e
 | own y=>obtain ⟨_,e⟩:=x;exact Oz e
 | xd fs=>obtain ⟨_,⟨_,_,_,e,_⟩,_⟩:=x;exact Oz e
 | rng lo hi=>obtain ⟨_,_,_,e⟩:=x;exact Oz e
 | frz ob u=>obtain ⟨e,_⟩:=x;exact Oz e
 | tbl ps=>exact Oz (show h.get? a = some _ from x)
 | met f y=>exact Oz (show h.get? a = some _ from x)
 | ext φ=>obtain ⟨_,⟨_,e⟩,_⟩:=x;exact Oz e
theorem Paired.mapP {α β:Type} {F G:α -> β -> Prop}:∀ {l₁:List α} {l₂:List β},Paired F l₁ l₂ -> (∀ a b,F a b -> G a b) -> Paired G l₁ l₂
 | _,_,.nil,_=>.nil
 | _,_,.cons r t,f=>.cons (f _ _ r) (Paired.mapP t f)
theorem ObjOk.stay (x:ObjOk P w H h a o) (k:∀ b u,(b = a \/ H b = some (.own a)) -> h.get? b = some u -> h'.get? b = some u)
  (ho:∀ b,H b = some (.own a) -> H' b = some (.own a)) (ht:∀ b xs,H b = some (.tup xs) -> H' b = some (.tup xs)):ObjOk P w H' h' a o:=by
 induction o with
 | lst xs=>obtain ⟨z,its,n,r,e⟩:=x;exact ⟨z,its,n,r,k _ _ (.inl rfl) e⟩
 | tup xs=>obtain ⟨z,its,r,ob,e,c⟩:=x;exact ⟨z,its,r,ob,k _ _ (.inl rfl) e,c⟩
 | dK kvs=>obtain ⟨z,y,vs,r,ob,es,ep,e,c⟩:=x;exact ⟨z,y,vs,r,ob,es,ep,k _ _ (.inl rfl) e,c⟩
 | dT kvs=>
  obtain ⟨z,y,xs,r,ob,es,ep,e,c⟩:=x
  exact ⟨z,y,xs,Paired.mapP r fun p q z=>⟨z.1,ht _ _ z.2.1,z.2.2⟩,ob,es,ep,k _ _ (.inl rfl) e,c⟩
 | set S n=>obtain ⟨ob,es,ep,t,e,c⟩:=x;exact ⟨ob,es,ep,t,k _ _ (.inl rfl) e,c⟩
 | ins C dx fs=>
  obtain ⟨d,z,ne,e,mA,⟨od,es,ep,e2,c⟩,r⟩:=x
  exact ⟨ho _ d,z,ne,k _ _ (.inl rfl) e,mA,⟨od,es,ep,k _ _ (.inr d) e2,c⟩,r⟩
 | own y=>obtain ⟨ob,e⟩:=x;exact ⟨ob,k _ _ (.inl rfl) e⟩
 | xd fs=>obtain ⟨mA,⟨od,es,ep,e,c⟩,r⟩:=x;exact ⟨mA,⟨od,es,ep,k _ _ (.inl rfl) e,c⟩,r⟩
 | rng lo hi=>obtain ⟨t,u,v,e⟩:=x;exact ⟨t,u,v,k _ _ (.inl rfl) e⟩
 | frz ob u ih=>obtain ⟨e,q⟩:=x;exact ⟨k _ _ (.inl rfl) e,ih q⟩
 | tbl ps=>
  have e:h.get? a = some { cls:=.none,data:=.fields ps }:=x
  show h'.get? a = some { cls:=.none,data:=.fields ps }
  exact k a _ (.inl rfl) e
 | met f y=>
  have e:h.get? a = some (W.methodObj (.ref f) (.ref y)):=x
  show h'.get? a = some (W.methodObj (.ref f) (.ref y))
  exact k a _ (.inl rfl) e
 | ext φ=>obtain ⟨p,⟨o,e⟩,st⟩:=x;exact ⟨st _ _ p fun o q=>k _ _ (.inl rfl) q,⟨o,k _ _ (.inl rfl) e⟩,st⟩
theorem HOk.lt (x:HOk P w H h) (e:H a = some o):a < h.objs.size:=(x a o e).lt
theorem HOk.fresh (x:HOk P w H h) (e:h.objs.size <= a):H a = none:=by
 cases q:H a with
 | none=>rfl
 | some u=>exact absurd (OT (x.lt q) e) (Qk _)
theorem HOk.kept (x:HOk P w H h) (k:∀ b u,h.get? b = some u -> h'.get? b = some u):HOk P w H h':=fun a o e=>
 (x a o e).stay (fun b u _ q=>k b u q) (fun _ q=>q) fun _ _ q=>q
theorem HOk.laid (x:HOk P w H h) (k:∀ b u,h.get? b = some u -> h'.get? b = some u) (hp:h.objs.size <= a) (new:ObjOk P w (upd H a o) h' a o):HOk P w (upd H a o) h':=fun b u e=>by
 have hn:=x.fresh hp
 by_cases hb:b = a
 ·subst hb;rw [aD] at e;cases e;exact new
 ·rw [aB hb] at e
  exact (x b u e).stay (fun c v _ q=>k c v q) (fun c q=>by rw [aB (ba q hn)];exact q) fun c xs q=>by rw [aB (ba q hn)];exact q
end
def Rd (H:Hp) (a:Addr) (u:HO):Prop:=H a = some u \/ ∃ o,H a = some (.frz o u)
theorem Rd.ok {P:Program} {w:World} {H:Hp} {h:Heap} {a:Addr} {u:HO} (r:Rd H a u) (x:HOk P w H h):ObjOk P w H h a u:=by
 rcases r with r | ⟨o,r⟩
 ·exact x a u r
 ·obtain ⟨_,q⟩:=x a _ r
  exact q
noncomputable def Mut:Option HO -> Prop
 | some (.lst _)=>True
 | some (.dK _)=>True
 | some (.dT _)=>True
 | some (.set _ _)=>True
 | some (.ins _ _ _)=>True
 | some (.ext _)=>True
 | _=>False
section
variable {P:Program} {w:World} {H:Hp} {h h':Heap} {x e:Addr} {o':HO}
theorem HOk.write (ok:HOk P w H h) (mu:Mut (H x)) (he:e = x \/ H e = some (.own x)) (k:∀ b u,b ≠ e -> h.get? b = some u -> h'.get? b = some u) (heo:∃ u,h'.get? e = some u)
  (new:ObjOk P w (upd H x o') h' x o'):HOk P w (upd H x o') h':=fun b u q=>by
 have nown:∀ c y,H c = some (.own y) -> c ≠ x:=fun c y r z=>by subst z;rw [r] at mu;exact mu
 have ntup:∀ c xs,H c = some (.tup xs) -> c ≠ x:=fun c xs r z=>by subst z;rw [r] at mu;exact mu
 by_cases hb:b = x
 ·subst hb;rw [aD] at q;cases q;exact new
 ·rw [aB hb] at q
  by_cases hbe:b = e
  ·have q':H b = some (.own x):=by
    rcases he with z | z
    ·exact absurd (hbe.trans z) hb
    ·rw [hbe];exact z
   rw [q] at q';cases q'
   obtain ⟨v,hv⟩:=heo
   exact ⟨v,by rw [hbe];exact hv⟩
  ·refine (ok b u q).stay (fun c v hc r=>k c v ?_ r) (fun c r=>by rw [aB (nown c b r)];exact r) fun c xs r=>by rw [aB (ntup c xs r)];exact r
   rcases hc with rfl | hc
   ·exact hbe
   ·rintro rfl
    rcases he with z | z
    ·exact nown c b hc z
    ·rw [hc] at z;cases z;exact hb rfl
end
structure Un (fs ex:List Addr) (H H':Hp) (h h':Heap):Prop where
 keep:∀ b o,h.get? b = some o -> H b = none -> b ∉ fs -> b ∉ ex -> h'.get? b = some o
 slot:∀ b o,h.get? b = some o -> H b = none -> b ∈ fs -> b ∉ ex -> ∃ sl,h'.get? b = some { o with slots:=sl }
 free:∀ b o,h.get? b = some o -> H b = none -> b ∉ ex -> H' b = none
 there:∀ b o,h.get? b = some o -> b ∉ ex -> ∃ o',h'.get? b = some o'
 tups:∀ b xs,H b = some (.tup xs) -> H' b = some (.tup xs)
 frzs:∀ b o u,H b = some (.frz o u) -> H' b = some (.frz o u)
 tbls:∀ b ps,H b = some (.tbl ps) -> ∃ more,H' b = some (.tbl (ps ++ more))
section
variable {fs fs' ex ex':List Addr} {H H1 H2:Hp} {h h1 h2 h':Heap} {a x e:Addr} {o:HO}
theorem Un.any (u:Un fs ex H H1 h h1) {b:Addr} {ob:Obj} (q:h.get? b = some ob) (n:H b = none) (hx:b ∉ ex):∃ sl,h1.get? b = some { ob with slots:=sl }:=by
 by_cases hb:b ∈ fs
 ·exact u.slot b ob q n hb hx
 ·exact ⟨ob.slots,u.keep b ob q n hb hx⟩
theorem Un.trans (a:Un fs ex H H1 h h1) (b:Un fs ex H1 H2 h1 h2):Un fs ex H H2 h h2 where
 keep:=fun c ob q n hc hx=>b.keep c ob (a.keep c ob q n hc hx) (a.free c ob q n hx) hc hx
 slot:=fun c ob q n hc hx=>by
  obtain ⟨sl,e1⟩:=a.slot c ob q n hc hx
  obtain ⟨sl',e2⟩:=b.slot c _ e1 (a.free c ob q n hx) hc hx
  exact ⟨sl',e2⟩
 free:=fun c ob q n hx=>by
  obtain ⟨o',e1⟩:=a.there c ob q hx
  exact b.free c o' e1 (a.free c ob q n hx) hx
 there:=fun c ob q hx=>by
  obtain ⟨o',e1⟩:=a.there c ob q hx
  exact b.there c o' e1 hx
 tups:=fun c xs q=>b.tups c xs (a.tups c xs q)
 frzs:=fun c ob xs q=>b.frzs c ob xs (a.frzs c ob xs q)
 tbls:=fun c ps q=>by
  obtain ⟨m1,e1⟩:=a.tbls c ps q
  obtain ⟨m2,e2⟩:=b.tbls c _ e1
  exact ⟨m1 ++ m2,by rw [e2,Array.append_assoc]⟩
theorem Un.kept (k:∀ b u,h.get? b = some u -> h'.get? b = some u):Un fs ex H H h h':=
 ⟨fun b ob q _ _ _=>k b ob q,fun b ob q _ _ _=>⟨ob.slots,k b ob q⟩,fun _ _ _ n _=>n,fun b ob q _=>⟨ob,k b ob q⟩,fun _ _ q=>q,fun _ _ _ q=>q,fun _ ps q=>⟨#[],by rw [q];simp⟩⟩
theorem Un.refl:Un fs ex H H h h:=Un.kept fun _ _ q=>q
theorem Un.laid (k:∀ b u,h.get? b = some u -> h'.get? b = some u) (hp:h.objs.size <= a) (hn:H a = none):Un fs ex H (upd H a o) h h' where
 keep:=fun b u q _ _ _=>k b u q
 slot:=fun b u q _ _ _=>⟨u.slots,k b u q⟩
 free:=fun b u q n _=>by rw [aB (OE (OT (Oz q) hp))];exact n
 there:=fun b u q _=>⟨u,k b u q⟩
 tups:=fun b xs q=>by rw [aB (ba q hn)];exact q
 frzs:=fun b u xs q=>by rw [aB (ba q hn)];exact q
 tbls:=fun b ps q=>⟨#[],by rw [aB (ba q hn),q];simp⟩
theorem Un.write (mu:Mut (H x)) (he:e = x \/ H e = some (.own x)) (k:∀ b u,b ≠ e -> h.get? b = some u -> h'.get? b = some u) (heo:∃ u,h'.get? e = some u):Un fs ex H (upd H x o) h h':=by
 have hx:∀ b,H b = none -> b ≠ x:=fun b n z=>by subst z;rw [n] at mu;exact mu
 have hb:∀ b,H b = none -> b ≠ e:=fun b n z=>by
  subst z
  rcases he with r | r
  ·exact hx b n r
  ·rw [n] at r;cases r
 have hm:∀ b u,H b = some u -> ¬ Mut (some u) -> b ≠ x:=fun b u q nm z=>by subst z;rw [q] at mu;exact nm mu
 refine ⟨fun b u q n _ _=>k b u (hb b n) q,fun b u q n _ _=>⟨u.slots,k b u (hb b n) q⟩,fun b u q n _=>by rw [aB (hx b n)];exact n,fun b u q _=>?_,
  fun b xs q=>by rw [aB (hm b _ q fun z=>z)];exact q,fun b u xs q=>by rw [aB (hm b _ q fun z=>z)];exact q,fun b ps q=>⟨#[],by rw [aB (hm b _ q fun z=>z),q];simp⟩⟩
 by_cases hbe:b = e
 ·subst hbe;exact heo
 ·exact ⟨u,k b u hbe q⟩
end
noncomputable def trk (h:Heap) (H:Hp):List Addr:=(List.range h.objs.size).filter fun a=>(H a).isSome
noncomputable def wK (h:Heap) (H:Hp):Heap:=W.hideAll h (trk h H)
theorem C0 (h:Heap) (H:Hp):(wK h H).objs.size = h.objs.size:=W.hideAll_size _ _
theorem EE {h:Heap} {H:Hp} {b:Addr} {o:Obj} (e:h.get? b = some o) (n:H b = none):(wK h H).get? b = some o:=
 W.hideAll_get _ e fun hm=>by
  have q:(H b).isSome = true:=(O3.mp hm).2
  rw [n] at q;simp at q
theorem Hn {h:Heap} {H:Hp} {b:Addr} {o:Obj} (e:(wK h H).get? b = some o):h.get? b = some o /\ H b = none:=by
 have e':h.get? b = some o:=W.of_hideAll (trk h H) e
 refine ⟨e',?_⟩
 cases q:H b with
 | none=>rfl
 | some x=>
  have hm:b ∈ trk h H:=O3.mpr ⟨PM.mpr (Oz e'),by simp [q]⟩
  have z:(wK h H).get? b = none:=W.hideAll_none (trk h H) hm
  rw [z] at e;cases e
noncomputable def GI (g h:Heap) (L:Addr):List (Addr × Obj):=(List.range h.objs.size).filterMap fun a=>if a = L \/ (g.get? a).isSome = true then none else (h.get? a).map fun o=>(a,o)
noncomputable def eW (g h:Heap) (L d:Addr):List (Addr × Obj):=(GI g h L).filter fun p=>decide (p.1 ≠ d)
structure Mod (K:W.Frag) (mg:Str -> Option Value) (base:Heap):Prop where
 kin:K.In base
 glob:base.Ns mainGlobals mg
 blt:∃ mb,base.Ns builtinsNs mb /\ ∀ x:Str,x ≠ "__name__" -> mb x = bootBuiltins x
 nolimit:base.NoLimit
structure Cx where
 prog:Program
 w:World
 K:W.Frag
 mg:Str -> Option Value
 base:Heap
 A:Around
 N:List Str
 s₀:Shared
 H₀:Hp
 env:Env
 outer:List Env
 stack:List Env
 ex:List Addr
 fn:Str -> Bool
 calm:Bool
 pn:List (Addr × Obj)
 xe:Value -> Shared -> Prop
noncomputable def frs (l:List Env):List Addr:=l.filterMap (·.frame)
noncomputable abbrev Cx.fs (X:Cx):List Addr:=frs X.outer
def Vis (sc:Scope) (x:Str):Prop:=sc.names.lookup x = some .local \/ sc.names.lookup x = some .cell \/ sc.names.lookup x = some .free
def Loc (sc:Scope) (x:Str):Prop:=sc.names.lookup x = some .local \/ sc.names.lookup x = some .cell
def L1 (env:Env) (h:Heap) (m:Str -> Option Value) (x:Str) (u:Value):Prop:=
 (env.kindOf x = some .local /\ m x = some u) \/ ((env.kindOf x = some .cell \/ env.kindOf x = some .free) /\ ∃ c,env.cells.lookup x = some c /\ h.IsCell c (some u))
structure Cx.Ok (X:Cx):Prop where
 mod:Mod X.K X.mg X.base
 kind:X.env.scope.kind = .function
 glob:X.env.globals = mainGlobals
 blt:X.env.builtins = builtinsNs
 above:X.s₀.heap.objs.size <= X.env.locals
 inj:∀ x y c,X.env.cells.lookup x = some c -> X.env.cells.lookup y = some c -> x = y
 has:∀ x,(X.env.kindOf x = some .cell \/ X.env.kindOf x = some .free) -> ∃ c,X.env.cells.lookup x = some c
 cab:∀ x c,X.fn x = true -> X.env.cells.lookup x = some c -> X.s₀.heap.objs.size <= c
 hd:X.calm = true -> X.A.handled = none
 frames:X.A.frames = some X.stack
 stk:X.stack = X.outer \/ (X.stack = X.env :: X.outer /\ X.env.frame = some X.env.locals)
 exf:∀ b ∈ X.ex,b ≠ X.env.locals /\ ∀ x c,X.env.cells.lookup x = some c -> c ≠ b
 bs:∀ b o,X.base.get? b = some o -> X.s₀.heap.get? b = some o /\ X.H₀ b = none
 bsz:X.base.objs.size <= X.s₀.heap.objs.size
 noex:∀ b o,X.base.get? b = some o -> b ∉ X.ex
 exfs:∀ b ∈ X.ex,b ∉ X.fs
 funs:X.s₀.heap.FunFrames X.base X.outer
 frf:∀ b ∈ X.fs,X.H₀ b = none
structure Inv (X:Cx) (pins:List (Addr × Obj)) (σ:List (Option V)) (H:Hp) (s:Shared):Prop where
 ok:X.Ok
 os:s.os = X.s₀.os
 bare:AllBare s.gens
 base:Un X.fs X.ex X.H₀ H X.s₀.heap s.heap
 loc:∃ m,s.heap.Ns X.env.locals m /\ ∀ (i:Nat) (x:Str) (v:V),X.N[i]? = some x -> σ[i]? = some (some v) -> Vis X.env.scope x -> ∃ u,RelV v u /\ L1 X.env s.heap m x u
 cell:∀ x c,X.env.cells.lookup x = some c -> ∃ v,s.heap.IsCell c v
 free:H X.env.locals = none
 freeC:∀ x c,X.env.cells.lookup x = some c -> H c = none
 pin:∀ p ∈ X.pn ++ pins,s.heap.get? p.1 = some p.2 /\ H p.1 = none /\ p.1 ≠ X.env.locals /\ p.1 ∉ X.fs /\ ∀ v,p.2.data ≠ .cell v
 hok:HOk X.prog X.w H s.heap
 len:σ.length = X.N.length
section
variable {X:Cx} {pins:List (Addr × Obj)} {σ:List (Option V)} {H H':Hp} {s:Shared} {h':Heap}
theorem Cx.Ok.nofr (ok:X.Ok) {b:Addr} {o:Obj} (e:X.base.get? b = some o):b ∉ X.fs:=fun hb=>by
 have:=(ok.funs.mem hb).1
 rw [e] at this;cases this
theorem Inv.bs (I:Inv X pins σ H s):∀ b o,X.base.get? b = some o -> s.heap.get? b = some o /\ H b = none:=fun b o e=>
 ⟨I.base.keep b o (I.ok.bs b o e).1 (I.ok.bs b o e).2 (I.ok.nofr e) (I.ok.noex b o e),I.base.free b o (I.ok.bs b o e).1 (I.ok.bs b o e).2 (I.ok.noex b o e)⟩
theorem Inv.bk (I:Inv X pins σ H s):∀ b o,X.base.get? b = some o -> s.heap.get? b = some o:=fun b o e=>(I.bs b o e).1
theorem Inv.mod (I:Inv X pins σ H s):Mod X.K X.mg X.base:=I.ok.mod
theorem Inv.kIn (I:Inv X pins σ H s):X.K.In s.heap:=I.ok.mod.kin.keeps I.bk
theorem Inv.fr (I:Inv X pins σ H s):∃ m,Fr X.base X.env.locals s.heap m:=
 let ⟨m,hn,_⟩:=I.loc
 ⟨m,hn,I.bk,OD I.ok.bsz I.ok.above⟩
theorem Inv.lt (I:Inv X pins σ H s):X.env.locals < s.heap.objs.size:=let ⟨_,hn,_⟩:=I.loc;hn.lt
theorem Inv.sz (I:Inv X pins σ H s):X.s₀.heap.objs.size <= s.heap.objs.size:=OD I.ok.above (O4 I.lt)
theorem Inv.nofs (I:Inv X pins σ H s) {a:Addr} (h:s.heap.objs.size <= a):a ∉ X.fs:=fun hb=>by
 obtain ⟨_,o,ho,_⟩:=I.ok.funs.mem hb
 exact absurd (OT (Oz ho) (OD I.sz h)) (Qk _)
theorem Inv.cne (I:Inv X pins σ H s):∀ x c,X.env.cells.lookup x = some c -> c ≠ X.env.locals:=fun x c e z=>by
 obtain ⟨v,o,ho,hd⟩:=I.cell x c e
 obtain ⟨m,⟨o',es,ep,ho',hd',_⟩,_⟩:=I.loc
 rw [z,ho'] at ho;cases ho;rw [hd'] at hd;cases hd
theorem Inv.funs (I:Inv X pins σ H s):s.heap.FunFrames X.base X.outer:=by
 have all:∀ (l:List Env),(∀ b ∈ frs l,b ∈ X.fs) -> X.s₀.heap.FunFrames X.base l -> s.heap.FunFrames X.base l:=by
  intro l
  induction l with
  | nil=>intro _ _;trivial
  | cons env r ih=>
   intro hs hl
   obtain ⟨hk,⟨L,o,hf,hn,ho,hd⟩,hr⟩:=hl
   have hL:L ∈ X.fs:=hs L (by unfold frs;rw [OW,hf];exact Oq)
   obtain ⟨sl,e⟩:=I.base.slot L o ho (I.ok.frf L hL) hL fun z=>I.ok.exfs L z hL
   exact ⟨hk,⟨L,_,hf,hn,e,hd⟩,ih (fun b hb=>hs b (by unfold frs;rw [OW,hf];exact Ou _ hb)) hr⟩
 exact all X.outer (fun _ hb=>hb) I.ok.funs
theorem Inv.stack (I:Inv X pins σ H s):s.heap.FunFrames X.base X.stack:=by
 rcases I.ok.stk with e | ⟨e,hf⟩
 ·rw [e];exact I.funs
 ·rw [e]
  obtain ⟨m,hn,_⟩:=I.loc
  refine .cons (by rw [I.ok.kind];decide) hf hn ?_ I.funs
  exact Heap.get?_none_of_le (OD I.ok.bsz I.ok.above)
theorem Inv.stkSub (I:Inv X pins σ H s):∀ b ∈ frs X.stack,b ∈ X.env.locals :: X.fs:=fun b hb=>by
 rcases I.ok.stk with e | ⟨e,hf⟩
 ·rw [e] at hb;exact Ou _ hb
 ·rw [e] at hb
  unfold frs at hb
  rw [OW,hf] at hb
  exact hb
theorem Inv.stkFree (I:Inv X pins σ H s):∀ b ∈ frs X.stack,H b = none:=fun b hb=>by
 rcases Oy.mp (I.stkSub b hb) with e | hb
 ·rw [e];exact I.free
 ·obtain ⟨_,o,ho,_⟩:=I.ok.funs.mem hb
  exact I.base.free b o ho (I.ok.frf b hb) fun z=>I.ok.exfs b z hb
theorem Inv.step {g':Array GenState} {t':Nat} {d':Drawn} {ch:List Addr} (I:Inv X pins σ H s)
  (hch:∀ b ∈ ch,(b ∈ X.ex \/ X.s₀.heap.objs.size <= b) /\ b ≠ X.env.locals /\ (∀ x c,X.env.cells.lookup x = some c -> c ≠ b) /\ ∀ p ∈ X.pn ++ pins,p.1 ≠ b)
  (keep:∀ b o,b ≠ X.env.locals -> b ∉ X.fs -> b ∉ ch -> s.heap.get? b = some o -> H b = none -> h'.get? b = some o)
  (slot:∀ b o,b ≠ X.env.locals -> b ∈ X.fs -> b ∉ ch -> s.heap.get? b = some o -> H b = none -> ∃ sl,h'.get? b = some { o with slots:=sl }) (free:∀ b o,b ∉ ch -> s.heap.get? b = some o -> H b = none -> H' b = none)
  (there:∀ b o,b ∉ ch -> s.heap.get? b = some o -> ∃ o',h'.get? b = some o')
  (tups:∀ b xs,H b = some (.tup xs) -> H' b = some (.tup xs)) (frzs:∀ b o u,H b = some (.frz o u) -> H' b = some (.frz o u)) (tbls:∀ b ps,H b = some (.tbl ps) -> ∃ more,H' b = some (.tbl (ps ++ more)))
  (ns:∀ m,s.heap.Ns X.env.locals m -> h'.Ns X.env.locals m) (hok:HOk X.prog X.w H' h') (hg:AllBare g') :
  Inv X pins σ H' { s with heap:=h',gens:=g',drawn:=d',toks:=t' }:=by
 have neL:∀ b o,X.s₀.heap.get? b = some o -> b ≠ X.env.locals:=fun b o e=>OE (OT (Oz e) I.ok.above)
 have neC:∀ b o,X.s₀.heap.get? b = some o -> b ∉ X.ex -> b ∉ ch:=fun b o e hx hb=>by
  rcases (hch b hb).1 with z | z
  ·exact hx z
  ·exact absurd (OT (Oz e) z) (Qk _)
 have cellK:∀ x c,X.env.cells.lookup x = some c -> ∀ v,s.heap.IsCell c v -> h'.IsCell c v:=fun x c e v hpt0=>by
  obtain ⟨o,ho,hd⟩:=hpt0
  have nch:c ∉ ch:=fun z=>(hch c z).2.2.1 x c e rfl
  by_cases hc:c ∈ X.fs
  ·obtain ⟨sl,q⟩:=slot c o (I.cne x c e) hc nch ho (I.freeC x c e)
   exact ⟨_,q,hd⟩
  ·exact ⟨o,keep c o (I.cne x c e) hc nch ho (I.freeC x c e),hd⟩
 refine ⟨I.ok,I.os,hg,⟨fun b o e n hb hx=>?_,fun b o e n hb hx=>?_,fun b o e n hx=>?_,fun b o e hx=>?_,fun b xs e=>tups b xs (I.base.tups b xs e),fun b o xs e=>frzs b o xs (I.base.frzs b o xs e),fun b ps e=>?_⟩,?_,fun x c e=>?_,?_,fun x c e=>?_,fun p hp=>?_,hok,I.len⟩
 ·exact keep b o (neL b o e) hb (neC b o e hx) (I.base.keep b o e n hb hx) (I.base.free b o e n hx)
 ·obtain ⟨sl,e1⟩:=I.base.slot b o e n hb hx
  obtain ⟨sl',e2⟩:=slot b _ (neL b o e) hb (neC b o e hx) e1 (I.base.free b o e n hx)
  exact ⟨sl',e2⟩
 ·obtain ⟨o',e1⟩:=I.base.there b o e hx
  exact free b o' (neC b o e hx) e1 (I.base.free b o e n hx)
 ·obtain ⟨o',e1⟩:=I.base.there b o e hx
  exact there b o' (neC b o e hx) e1
 ·obtain ⟨m1,e1⟩:=I.base.tbls b ps e
  obtain ⟨m2,e2⟩:=tbls b _ e1
  exact ⟨m1 ++ m2,by rw [e2,Array.append_assoc]⟩
 ·obtain ⟨m,hn,hl⟩:=I.loc
  refine ⟨m,ns m hn,fun i x v e1 e2 e3=>?_⟩
  obtain ⟨u,r,l⟩:=hl i x v e1 e2 e3
  refine ⟨u,r,?_⟩
  rcases l with l | ⟨k,c,e,z⟩
  ·exact .inl l
  ·exact .inr ⟨k,c,e,cellK x c e _ z⟩
 ·obtain ⟨v,z⟩:=I.cell x c e
  exact ⟨v,cellK x c e v z⟩
 ·obtain ⟨m,⟨o,_,_,ho,_⟩,_⟩:=I.loc
  exact free _ o (fun z=>(hch _ z).2.1 rfl) ho I.free
 ·obtain ⟨v,o,ho,hd⟩:=I.cell x c e
  exact free c o (fun z=>(hch c z).2.2.1 x c e rfl) ho (I.freeC x c e)
 ·obtain ⟨e,n,ne,nf,d⟩:=I.pin p hp
  have nch:p.1 ∉ ch:=fun z=>(hch p.1 z).2.2.2 p hp rfl
  exact ⟨keep p.1 p.2 ne nf nch e n,free p.1 p.2 nch e n,ne,nf,d⟩
theorem Inv.un {t':Nat} (I:Inv X pins σ H s) (u:Un X.fs [] H H' s.heap h') (hok:HOk X.prog X.w H' h'):Inv X pins σ H' { s with heap:=h',toks:=t' }:=by
 obtain ⟨m,⟨o,es,ep,ho,r⟩,_⟩:=id I.loc
 obtain ⟨sl,hL⟩:=u.any ho I.free (by simp)
 exact I.step (g':=s.gens) (d':=s.drawn) (ch:=[]) (fun _ z=>nomatch z) (fun b o _ hb _ e n=>u.keep b o e n hb (by simp)) (fun b o _ hb _ e n=>u.slot b o e n hb (by simp)) (fun b o _ e n=>u.free b o e n (by simp)) (fun b o _ e=>u.there b o e (by simp)) u.tups u.frzs u.tbls (fun m' hm=>by
  obtain ⟨o',es',ep',ho',r'⟩:=hm
  rw [ho] at ho';cases ho'
  exact ⟨_,es',ep',hL,r'⟩) hok I.bare
theorem Inv.call {g':Array GenState} {t':Nat} {d':Drawn} {ch:List Addr} (I:Inv X pins σ H s) (u:Un (frs X.stack) ch H H' s.heap h') (hok:HOk X.prog X.w H' h') (hg:AllBare g')
  (hch:∀ b ∈ ch,(b ∈ X.ex \/ X.s₀.heap.objs.size <= b) /\ b ≠ X.env.locals /\ (∀ x c,X.env.cells.lookup x = some c -> c ≠ b) /\ ∀ p ∈ X.pn ++ pins,p.1 ≠ b) :
  Inv X pins σ H' { s with heap:=h',gens:=g',drawn:=d',toks:=t' }:=by
 obtain ⟨m,⟨o,es,ep,ho,r⟩,_⟩:=id I.loc
 obtain ⟨sl,hL⟩:=u.any ho I.free fun z=>(hch _ z).2.1 rfl
 exact I.step (ch:=ch) hch (fun b o hL hb hc e n=>u.keep b o e n (fun z=>(Oy.mp (I.stkSub b z)).elim hL hb) hc) (fun b o _ _ hc e n=>u.any e n hc) (fun b o hc e n=>u.free b o e n hc) (fun b o hc e=>u.there b o e hc) u.tups u.frzs u.tbls (fun m' hm=>by
  obtain ⟨o',es',ep',ho',r'⟩:=hm
  rw [ho] at ho';cases ho'
  exact ⟨_,es',ep',hL,r'⟩) hok hg
theorem Inv.turned {t':Nat} {it:Addr} (I:Inv X pins σ H s) (k:∀ b o,b ≠ it -> s.heap.get? b = some o -> h'.get? b = some o) (hn:H it = none) (hL:it ≠ X.env.locals)
  (h1:it ∈ X.ex \/ X.s₀.heap.objs.size <= it) (h2:∀ x c,X.env.cells.lookup x = some c -> c ≠ it) (h3:∀ p ∈ X.pn ++ pins,p.1 ≠ it):Inv X pins σ H { s with heap:=h',toks:=t' }:=by
 have nit:∀ b u,H b = some u -> b ≠ it:=fun b u e z=>by rw [z,hn] at e;cases e
 refine I.step (g':=s.gens) (d':=s.drawn) (ch:=[it]) (fun b hb=>?_) (fun b o _ _ hc e _=>k b o (fun z=>hc (by simp [z])) e) (fun b o _ _ hc e _=>⟨o.slots,k b o (fun z=>hc (by simp [z])) e⟩) (fun _ _ _ _ n=>n)
  (fun b o hc e=>⟨o,k b o (fun z=>hc (by simp [z])) e⟩) (fun _ _ e=>e) (fun _ _ _ e=>e) (fun b ps e=>⟨#[],by rw [e];simp⟩) (fun m hm=>?_) (fun b u e=>?_) I.bare
 ·have e:b = it:=by simpa using hb
  subst e
  exact ⟨h1,hL,h2,h3⟩
 ·obtain ⟨o,es,ep,ho,r⟩:=hm
  exact ⟨o,es,ep,k _ o (OQ hL) ho,r⟩
 ·refine (I.hok b u e).stay (fun c v hc q=>k c v ?_ q) (fun _ q=>q) fun _ _ q=>q
  rcases hc with z | z
  ·rw [z];exact nit b u e
  ·exact nit c _ z
theorem Inv.tok (I:Inv X pins σ H s) (t:Nat):Inv X pins σ H { s with toks:=t }:=I.un (h':=s.heap) (t':=t) Un.refl I.hok
theorem Inv.kept {t':Nat} (I:Inv X pins σ H s) (k:∀ b u,s.heap.get? b = some u -> h'.get? b = some u):Inv X pins σ H { s with heap:=h',toks:=t' }:=I.un (Un.kept k) (I.hok.kept k)
theorem Inv.laid {a:Addr} {o:HO} {t':Nat} (I:Inv X pins σ H s) (k:∀ b u,s.heap.get? b = some u -> h'.get? b = some u) (hp:s.heap.objs.size <= a) (new:ObjOk X.prog X.w (upd H a o) h' a o) :
  Inv X pins σ (upd H a o) { s with heap:=h',toks:=t' }:=I.un (Un.laid k hp (I.hok.fresh hp)) (I.hok.laid k hp new)
theorem Inv.write {x e:Addr} {o:HO} {t':Nat} (I:Inv X pins σ H s) (mu:Mut (H x)) (he:e = x \/ H e = some (.own x)) (k:∀ b u,b ≠ e -> s.heap.get? b = some u -> h'.get? b = some u) (heo:∃ u,h'.get? e = some u)
  (new:ObjOk X.prog X.w (upd H x o) h' x o):Inv X pins σ (upd H x o) { s with heap:=h',toks:=t' }:=I.un (Un.write mu he k heo) (I.hok.write mu he k heo new)
theorem Inv.weak {σ':List (Option V)} (I:Inv X pins σ H s) (hl:σ'.length = σ.length) (w:∀ (i:Nat) v,σ'[i]? = some (some v) -> σ[i]? = some (some v)):Inv X pins σ' H s:=
 ⟨I.ok,I.os,I.bare,I.base,let ⟨m,hn,hl'⟩:=I.loc;⟨m,hn,fun i x v e1 e2 e3=>hl' i x v e1 (w i v e2) e3⟩,I.cell,I.free,I.freeC,I.pin,I.hok,hl.trans I.len⟩
theorem Inv.pins_of {pins':List (Addr × Obj)} (I:Inv X pins σ H s) (h:∀ p ∈ pins',s.heap.get? p.1 = some p.2 /\ H p.1 = none /\ p.1 ≠ X.env.locals /\ p.1 ∉ X.fs /\ ∀ v,p.2.data ≠ .cell v):Inv X pins' σ H s:=
 ⟨I.ok,I.os,I.bare,I.base,I.loc,I.cell,I.free,I.freeC,fun p hp=>(OC.mp hp).elim (fun z=>I.pin p (OH _ z)) (h p),I.hok,I.len⟩
theorem yI {N:List Str} (hN:N.Nodup) {i j:Nat} {x:Str} (a:N[i]? = some x) (b:N[j]? = some x):i = j:=by
 obtain ⟨h1,e1⟩:=O5.mp a
 obtain ⟨h2,e2⟩:=O5.mp b
 exact (List.getElem_inj hN).mp (e1.trans e2.symm)
theorem DP {M:Model} {A:Around} {E:Value -> Shared -> Prop} {i:Nat} {x:Str} {v:V} {u:Value} {Q:Unit -> Shared -> Prop} (I:Inv X pins σ H s) (hN:X.N.Nodup) (hi:X.N[i]? = some x) (hx:Loc X.env.scope x) (r:RelV v u)
  (h:∀ s',Inv X pins (σ.set i (some v)) H s' -> (∃ a,Heap.SameBut a s.heap s'.heap /\ (a = X.env.locals \/ X.env.cells.lookup x = some a)) -> Q () s') (hf:X.fn x = true \/ X.env.scope.names.lookup x = some .local:=by first | exact .inl rfl | exact .inr rfl | assumption):wpAny M A (storeName X.env x u) Q E s:=by
 obtain ⟨m,hn,hl⟩:=id I.loc
 have hcls:(X.env.scope.kind == .class || (X.env.scope.kind == .module && X.env.locals != X.env.globals)) = false:=by rw [I.ok.kind];rfl
 have hiσ:i < σ.length:=by rw [I.len];exact (O5.mp hi).1
 have cne:=I.cne
 have tracked:∀ {a:Addr} {h':Heap},(∃ o,s.heap.get? a = some o /\ H a = none) -> Heap.SameBut a s.heap h' -> HOk X.prog X.w H h':=fun {a h'} ha hs b ob e=>by
  obtain ⟨_,_,hfree⟩:=ha
  refine (I.hok b ob e).stay (fun c w' hc q=>(hs.2 c ?_).trans q) (fun _ q=>q) fun _ _ q=>q
  rintro rfl
  rcases hc with rfl | hc
  ·rw [hfree] at e;cases e
  ·rw [hfree] at hc;cases hc
 rcases hx with hk | hk
 ·refine wpAny_storeName_local hk hn (fun h' hn' hs=>?_) hcls
  obtain ⟨oL,_,_,hoL,_⟩:=id hn
  refine h _ ⟨I.ok,I.os,I.bare,⟨fun b o e n hb hx=>?_,fun b o e n hb hx=>?_,I.base.free,fun b o e hx=>?_,I.base.tups,I.base.frzs,I.base.tbls⟩,⟨_,hn',fun j y v' e1 e2 e3=>?_⟩,fun y c e=>?_,I.free,I.freeC,fun p hp=>?_,tracked ⟨oL,hoL,I.free⟩ hs,by simpa using I.len⟩ ⟨_,hs,.inl rfl⟩
  ·exact (hs.2 b (OE (OT (Oz e) I.ok.above))).trans (I.base.keep b o e n hb hx)
  ·obtain ⟨sl,e1⟩:=I.base.slot b o e n hb hx
   exact ⟨sl,(hs.2 b (OE (OT (Oz e) I.ok.above))).trans e1⟩
  ·obtain ⟨o',e1⟩:=I.base.there b o e hx
   exact ⟨o',(hs.2 b (OE (OT (Oz e) I.ok.above))).trans e1⟩
  ·by_cases hj:j = i
   ·subst hj
    rw [hi] at e1;cases e1
    rw [Qv hiσ] at e2
    cases e2
    exact ⟨u,r,.inl ⟨hk,by simp⟩⟩
   ·rw [Pg (OQ hj)] at e2
    obtain ⟨u',r',q⟩:=hl j y v' e1 e2 e3
    refine ⟨u',r',?_⟩
    rcases q with ⟨k,e⟩ | ⟨k,c,e,z⟩
    ·refine .inl ⟨k,?_⟩
     have:y ≠ x:=fun e=>hj (yI hN e1 (e ▸ hi))
     simp [this,e]
    ·exact .inr ⟨k,c,e,z.sameBut hs (cne y c e)⟩
  ·obtain ⟨w',z⟩:=I.cell y c e
   exact ⟨w',z.sameBut hs (cne y c e)⟩
  ·obtain ⟨e,n,ne,nf,d⟩:=I.pin p hp
   exact ⟨(hs.2 p.1 ne).trans e,n,ne,nf,d⟩
 ·have hfn:X.fn x = true:=by
   rcases hf with z | z
   ·exact z
   ·rw [z] at hk;cases hk
  obtain ⟨c,hc⟩:=I.ok.has x (.inl hk)
  obtain ⟨w',z⟩:=I.cell x c hc
  refine wpAny_storeName_cell I.ok.kind hk hc z (fun h' hc' hs=>?_)
  obtain ⟨oc,hoc,hocd⟩:=id z
  refine h { s with heap:=h' } ⟨I.ok,I.os,I.bare,⟨fun b o e n hb hx=>?_,fun b o e n hb hx=>?_,I.base.free,fun b o e hx=>?_,I.base.tups,I.base.frzs,I.base.tbls⟩,⟨m,hn.sameBut hs (OQ (cne x c hc)),fun j y v' e1 e2 e3=>?_⟩,fun y c' e=>?_,I.free,I.freeC,fun p hp=>?_,tracked ⟨oc,hoc,I.freeC x c hc⟩ hs,by simpa using I.len⟩ ⟨c,hs,.inr hc⟩
  ·exact (hs.2 b (OE (OT (Oz e) (I.ok.cab x c hfn hc)))).trans (I.base.keep b o e n hb hx)
  ·obtain ⟨sl,e1⟩:=I.base.slot b o e n hb hx
   exact ⟨sl,(hs.2 b (OE (OT (Oz e) (I.ok.cab x c hfn hc)))).trans e1⟩
  ·obtain ⟨o',e1⟩:=I.base.there b o e hx
   exact ⟨o',(hs.2 b (OE (OT (Oz e) (I.ok.cab x c hfn hc)))).trans e1⟩
  ·by_cases hj:j = i
   ·subst hj
    rw [hi] at e1;cases e1
    rw [Qv hiσ] at e2
    cases e2
    exact ⟨u,r,.inr ⟨.inl hk,c,hc,hc'⟩⟩
   ·rw [Pg (OQ hj)] at e2
    obtain ⟨u',r',q⟩:=hl j y v' e1 e2 e3
    refine ⟨u',r',?_⟩
    rcases q with q | ⟨k,c',e,z'⟩
    ·exact .inl q
    ·refine .inr ⟨k,c',e,z'.sameBut hs ?_⟩
     rintro rfl
     exact hj (yI hN e1 (I.ok.inj _ _ _ e hc ▸ hi))
  ·by_cases hcc:c' = c
   ·subst hcc;exact ⟨_,hc'⟩
   ·obtain ⟨w2,z2⟩:=I.cell y c' e
    exact ⟨w2,z2.sameBut hs hcc⟩
  ·obtain ⟨e,n,ne,nf,d⟩:=I.pin p hp
   refine ⟨(hs.2 p.1 ?_).trans e,n,ne,nf,d⟩
   intro q
   rw [q,hoc] at e
   have q':oc = p.2:=O2 e
   exact d w' (by rw [<- q'];exact hocd)
theorem zC {M:Model} {A:Around} {E:Value -> Shared -> Prop} {i:Nat} {x:Str} {v:V} {u:Value} {Q:Unit -> Shared -> Prop} (I:Inv X pins σ H s) (hN:X.N.Nodup) (hi:X.N[i]? = some x) (hx:Loc X.env.scope x) (r:RelV v u)
  (h:∀ s',Inv X pins (σ.set i (some v)) H s' -> Q () s') (hf:X.fn x = true \/ X.env.scope.names.lookup x = some .local:=by first | exact .inl rfl | exact .inr rfl | assumption):wpAny M A (storeName X.env x u) Q E s:=
 DP I hN hi hx r (fun s' I' _=>h s' I') hf
theorem Inv.call' {s':Shared} {ch:List Addr} (I:Inv X pins σ H s) (ho:s'.os = s.os) (u:Un (frs X.stack) ch H H' s.heap s'.heap) (hok:HOk X.prog X.w H' s'.heap) (hg:AllBare s'.gens)
  (hch:∀ b ∈ ch,(b ∈ X.ex \/ X.s₀.heap.objs.size <= b) /\ b ≠ X.env.locals /\ (∀ x c,X.env.cells.lookup x = some c -> c ≠ b) /\ ∀ p ∈ X.pn ++ pins,p.1 ≠ b):Inv X pins σ H' s':=by
 obtain ⟨h',g',d',t',o'⟩:=s'
 have e:o' = s.os:=ho
 subst e
 exact I.call (g':=g') (t':=t') (d':=d') u hok hg hch
end
noncomputable abbrev XK:=Value -> Option Addr -> Hp -> Prop
noncomputable abbrev St:=List (Option V)
noncomputable abbrev VK:=V -> Hp -> Prop
noncomputable abbrev TE:=St -> Hp -> VK -> Prop
noncomputable abbrev TT:=St -> Hp -> (Bool -> Hp -> Prop) -> Prop
noncomputable abbrev TA:=St -> Hp -> (List V -> Hp -> Prop) -> Prop
structure Ends where
 nx:St -> Hp -> Prop
 rt:VK
 bk:St -> Hp -> Prop:=fun _ _=>False
 ct:St -> Hp -> Prop:=fun _ _=>False
noncomputable abbrev TS:=Ends -> St -> Hp -> Prop
def EP (X:Cx) (pins:List (Addr × Obj)) (σ:St) (Q:VK) (u:Value) (s':Shared):Prop:=∃ v H',Inv X pins σ H' s' /\ RelV v u /\ Q v H'
def TP (X:Cx) (pins:List (Addr × Obj)) (σ:St) (Q:Bool -> Hp -> Prop) (b:Bool) (s':Shared):Prop:=∃ H',Inv X pins σ H' s' /\ Q b H'
def AP (X:Cx) (pins:List (Addr × Obj)) (σ:St) (Q:List V -> Hp -> Prop) (us:List Value) (s':Shared):Prop:=∃ vs H',Inv X pins σ H' s' /\ Vals vs us /\ Q vs H'
def SP (X:Cx) (pins:List (Addr × Obj)) (D:Ends) (f:Flow) (s':Shared):Prop:=
 match f with
 | .next=>∃ σ' H',Inv X pins σ' H' s' /\ D.nx σ' H'
 | .brk=>∃ σ' H',Inv X pins σ' H' s' /\ D.bk σ' H'
 | .cont=>∃ σ' H',Inv X pins σ' H' s' /\ D.ct σ' H'
 | .ret u=>∃ v σ' H',Inv X pins σ' H' s' /\ RelV v u /\ D.rt v H'
def PE (X:Cx) (e:Expr) (t:TE):Prop:=
 ∀ (pins:List (Addr × Obj)) (s:Shared) (σ:St) (H:Hp) (Q:VK),Inv X pins σ H s -> t σ H Q -> wpAny (model X.prog X.w) X.A (eval e X.env) (EP X pins σ Q) X.xe s
def PT (X:Cx) (e:Expr) (t:TT):Prop:=
 ∀ (pins:List (Addr × Obj)) (s:Shared) (σ:St) (H:Hp) (Q:Bool -> Hp -> Prop),Inv X pins σ H s -> t σ H Q -> wpAny (model X.prog X.w) X.A (isTrue e X.env (eval e X.env)) (TP X pins σ Q) X.xe s
def PW (X:Cx) (e:Expr) (t:TT):Prop:=
 ∀ (whole:Sem Value) (pins:List (Addr × Obj)) (s:Shared) (σ:St) (H:Hp) (Q:Bool -> Hp -> Prop),Inv X pins σ H s -> t σ H Q -> wpAny (model X.prog X.w) X.A (isTrue e X.env whole) (TP X pins σ Q) X.xe s
theorem PW.pt {X:Cx} {e:Expr} {t:TT} (h:PW X e t):PT X e t:=h _
def PA (X:Cx) (es:List Expr) (t:TA):Prop:=
 ∀ (pos:Pos) (pins:List (Addr × Obj)) (s:Shared) (σ:St) (H:Hp) (Q:List V -> Hp -> Prop),Inv X pins σ H s -> t σ H Q -> wpAny (model X.prog X.w) X.A (spliced (backTo pos (starEach es X.env))) (AP X pins σ Q) X.xe s
def PS (X:Cx) (st:Stmt) (t:TS):Prop:=
 ∀ (pins:List (Addr × Obj)) (s:Shared) (σ:St) (H:Hp) (D:Ends),Inv X pins σ H s -> t D σ H -> wpAny (model X.prog X.w) X.A (exec st X.env) (SP X pins D) X.xe s
def PSs (X:Cx) (st:List Stmt) (t:TS):Prop:=
 ∀ (pins:List (Addr × Obj)) (s:Shared) (σ:St) (H:Hp) (D:Ends),Inv X pins σ H s -> t D σ H -> wpAny (model X.prog X.w) X.A (execs st X.env) (SP X pins D) X.xe s
theorem thn {α:Type} {t:Sem α} {Q Q':α -> Shared -> Prop} {M:Model} {A:Around} {E:Value -> Shared -> Prop} {s:Shared} (h:wpAny M A t Q E s) (hQ:∀ a s,Q a s -> Q' a s):wpAny M A t Q' E s:=PD h hQ fun _ _ x=>x
section
variable {X:Cx}
noncomputable def jI (i:Nat):TE:=fun σ H Q=>∃ v,σ[i]? = some (some v) /\ Q v H
noncomputable def tC (v:V):TE:=fun _ H Q=>Q v H
theorem JF {i:Nat} {x:Str} {pos:Pos} (hN:X.N[i]? = some x) (hv:Vis X.env.scope x) (hd:(x == ("__debug__" : Str)) = false:=by decide) (hcd:(x == ("__classdict__" : Str)) = false:=by decide):PE X (.Name x pos) (jI i):=by
 intro pins s σ H Q I h
 obtain ⟨v,e,h⟩:=h
 obtain ⟨m,hn,hl⟩:=I.loc
 obtain ⟨u,r,l⟩:=hl i x v hN e hv
 have fin:EP X pins σ Q u s:=⟨v,H,I,r,h⟩
 rcases l with ⟨hk,hm⟩ | ⟨hk,c,hc,hcell⟩
 ·exact wpAny_Name (wpAny_loadName_local I.ok.kind hk hn hm fin) hd
 ·rcases hk with hk | hk
  ·exact wpAny_Name (wpAny_loadName_cell I.ok.kind hk hc hcell fin) hd
  ·exact wpAny_Name (wpAny_loadName_free I.ok.kind hk hc hcell fin hcd) hd
theorem ak {i j pos}:PE X (.Constant (.int i) j pos) (tC (.int i)):=fun _ _ _ H _ I h=>wpAny_Constant_int ⟨.int i,H,I.tok _,⟨_,rfl⟩,h⟩
theorem B3 {b j pos}:PE X (.Constant (.bool b) j pos) (tC (.bl b)):=fun _ _ _ H _ I h=>Constant_bool ⟨.bl b,H,I,rfl,h⟩
theorem Fg {j pos}:PE X (.Constant .none j pos) (tC .non):=fun _ _ _ H _ I h=>Constant_none ⟨.non,H,I,rfl,h⟩
def Gl (X:Cx) (x:Str):Prop:=X.env.kindOf x = some .globalImplicit
theorem BV {E:Value -> Shared -> Prop} {pins:List (Addr × Obj)} {s:Shared} {σ:St} {H:Hp} {x:Str} {u:Value} {pos:Pos} {Q:Value -> Shared -> Prop} (I:Inv X pins σ H s) (hg:Gl X x) (hm:X.mg x = some u) (h:Q u s)
  (hd:(x == ("__debug__" : Str)) = false:=by decide):wpAny (model X.prog X.w) X.A (eval (.Name x pos) X.env) Q E s:=
 Calls.Name_function_global I.ok.kind hg (Calls.loadGlobal_global (by rw [I.ok.glob];exact I.mod.glob.keeps I.bk) hm h) hd
theorem mG {E:Value -> Shared -> Prop} {pins:List (Addr × Obj)} {s:Shared} {σ:St} {H:Hp} {x:Str} {u:Value} {pos:Pos} {Q:Value -> Shared -> Prop} (I:Inv X pins σ H s) (hg:Gl X x) (hm:X.mg x = none) (hv:bootBuiltins x = some u) (h:Q u s)
  (hn:x ≠ "__name__" := by decide) (hd:(x == ("__debug__" : Str)) = false:=by decide):wpAny (model X.prog X.w) X.A (eval (.Name x pos) X.env) Q E s:=by
 obtain ⟨mb,h1,h2⟩:=I.mod.blt
 exact Calls.Name_function_global I.ok.kind hg (Calls.loadGlobal_builtin (by rw [I.ok.glob];exact I.mod.glob.keeps I.bk) hm (by rw [I.ok.blt];exact h1.keeps I.bk) ((h2 x hn).trans hv) h) hd
theorem B5 {x:Str} {v:V} {u:Value} {pos:Pos} (hg:Gl X x) (hm:X.mg x = some u) (r:RelV v u) (hd:(x == ("__debug__" : Str)) = false:=by decide):PE X (.Name x pos) (tC v):=
 fun _ _ _ H _ I h=>BV I hg hm ⟨v,H,I,r,h⟩ hd
theorem B4 {x:Str} {v:V} {u:Value} {pos:Pos} (hg:Gl X x) (hm:X.mg x = none) (hv:bootBuiltins x = some u) (r:RelV v u) (hn:x ≠ "__name__" := by decide) (hd:(x == ("__debug__" : Str)) = false:=by decide):PE X (.Name x pos) (tC v):=
 fun _ _ _ H _ I h=>mG I hg hm hv ⟨v,H,I,r,h⟩ hn hd
variable {a b:Expr} {ta tb:TE} {pos:Pos}
def PC (X:Cx) (op:CmpOp) (a b:Expr) (t:TE):Prop:=
 ∀ (pins:List (Addr × Obj)) (s:Shared) (σ:St) (H:Hp) (Q:VK),Inv X pins σ H s -> t σ H Q ->
  wpAny (model X.prog X.w) X.A (eval a X.env) (fun v s₁=>wpAny (model X.prog X.w) X.A (eval b X.env) (fun u s₂=>wpAny (model X.prog X.w) X.A (compareOp op v u) (EP X pins σ Q) X.xe s₂) X.xe s₁) X.xe s
noncomputable def tB (t:TE):TT:=fun σ H Q=>t σ H fun x H1=>∃ c,x = .bl c /\ Q c H1
theorem JD {op:CmpOp} {t:TE} (h:PC X op a b t) (h1:behindInMarks op b = false:=by first | exact nobehind _ (by decide) (by decide) | rfl):PE X (.Compare a [op] [b] pos) t:=fun pins s σ H Q I hw=>wpAny_Compare1 (h pins s σ H Q I hw) h1
theorem A2 {op:CmpOp} {t:TE} (h:PC X op a b t) (h1:behindInMarks op b = false:=by first | exact nobehind _ (by decide) (by decide) | rfl):PT X (.Compare a [op] [b] pos) (tB t):=by
 intro pins s σ H Q I hw
 refine wpAny_isTrue_Compare1 (thn (h pins s σ H _ I hw) fun v s1 h1=>thn h1 fun u s2 h2=>thn h2 fun c s3 hpt9=>?_) h1
 obtain ⟨x,H1,I1,r1,q1⟩:=hpt9
 obtain ⟨d,rfl,q⟩:=q1
 cases r1
 exact Qw ⟨H1,I1,q⟩
variable {tA tB':TT} {eW:List Expr}
noncomputable def Lo (t u:TT):TT:=fun σ H Q=>t σ H fun c H1=>if c = true then u σ H1 Q else Q false H1
noncomputable def tOr (t u:TT):TT:=fun σ H Q=>t σ H fun c H1=>if c = true then Q true H1 else u σ H1 Q
noncomputable def Ls (t:TT):TT:=fun σ H Q=>t σ H fun c H1=>Q (!c) H1
theorem lg (ha:PT X a tA):PW X (.BoolOp .And [a] pos) tA:=by
 intro wh pins s σ H Q I h
 refine isTrue_and (thn (ha pins s σ H Q I h) fun c s1 e=>?_)
 cases c with
 | true=>exact isTrue_and_nil e
 | false=>exact e
theorem xl (ha:PT X a tA):PW X (.BoolOp .Or [a] pos) tA:=by
 intro wh pins s σ H Q I h
 refine isTrue_or (thn (ha pins s σ H Q I h) fun c s1 e=>?_)
 cases c with
 | false=>exact isTrue_or_nil e
 | true=>exact e
theorem o5 (ha:PT X a tA) (hb:PW X (.BoolOp .And (b :: eW) pos) tB'):PW X (.BoolOp .And (a :: b :: eW) pos) (Lo tA tB'):=by
 intro wh pins s σ H Q I h
 refine isTrue_and (thn (ha pins s σ H _ I h) fun c s1 hpt9=>?_)
 obtain ⟨H1,I1,q1⟩:=hpt9
 cases c with
 | true=>exact hb wh pins s1 σ H1 Q I1 q1
 | false=>exact ⟨H1,I1,q1⟩
theorem za (ha:PT X a tA) (hb:PW X (.BoolOp .Or (b :: eW) pos) tB'):PW X (.BoolOp .Or (a :: b :: eW) pos) (tOr tA tB'):=by
 intro wh pins s σ H Q I h
 refine isTrue_or (thn (ha pins s σ H _ I h) fun c s1 hpt9=>?_)
 obtain ⟨H1,I1,q1⟩:=hpt9
 cases c with
 | true=>exact ⟨H1,I1,q1⟩
 | false=>exact hb wh pins s1 σ H1 Q I1 q1
theorem A3 (ha:PT X a tA):PT X (.UnaryOp .Not a pos) (Ls tA):=by
 intro pins s σ H Q I h
 exact isTrue_not (ha pins s σ H (fun c H1=>Q (!c) H1) I h)
noncomputable def IH (ta tb:TE):TE:=fun σ H Q=>ta σ H fun x H1=>∃ c,x = .bl c /\ if c = true then tb σ H1 Q else Q (.bl false) H1
noncomputable def Lu (ta tb:TE):TE:=fun σ H Q=>ta σ H fun x H1=>∃ c,x = .bl c /\ if c = true then Q (.bl true) H1 else tb σ H1 Q
noncomputable def IJ (ta:TE):TE:=fun σ H Q=>ta σ H fun x H1=>∃ c,x = .bl c /\ Q (.bl (!c)) H1
theorem AY {op} {t:TE} (h:PE X a t):PE X (.BoolOp op [a] pos) t:=fun pins s σ H Q I hw=>BoolOp_one (h pins s σ H Q I hw)
theorem AX (ha:PE X a ta) (hb:PE X (.BoolOp .And (b :: eW) pos) tb):PE X (.BoolOp .And (a :: b :: eW) pos) (IH ta tb):=by
 intro pins s σ H Q I h
 refine BoolOp_and (thn (ha pins s σ H _ I h) fun v s1 hpt9=>?_)
 obtain ⟨x,H1,I1,r1,q1⟩:=hpt9
 obtain ⟨c,rfl,q1⟩:=q1
 cases r1
 refine Qw ?_
 cases c with
 | true=>exact hb pins s1 σ H1 Q I1 q1
 | false=>exact ⟨.bl false,H1,I1,rfl,q1⟩
theorem KO (ha:PE X a ta) (hb:PE X (.BoolOp .Or (b :: eW) pos) tb):PE X (.BoolOp .Or (a :: b :: eW) pos) (Lu ta tb):=by
 intro pins s σ H Q I h
 refine BoolOp_or (thn (ha pins s σ H _ I h) fun v s1 hpt9=>?_)
 obtain ⟨x,H1,I1,r1,q1⟩:=hpt9
 obtain ⟨c,rfl,q1⟩:=q1
 cases r1
 refine Qw ?_
 cases c with
 | false=>exact hb pins s1 σ H1 Q I1 q1
 | true=>exact ⟨.bl true,H1,I1,rfl,q1⟩
theorem JE (ha:PE X a ta):PE X (.UnaryOp .Not a pos) (IJ ta):=by
 intro pins s σ H Q I h
 refine UnaryOp_ (thn (ha pins s σ H _ I h) fun v s1 hpt9=>?_)
 obtain ⟨x,H1,I1,r1,q1⟩:=hpt9
 obtain ⟨c,rfl,q1⟩:=q1
 cases r1
 exact not_of (Qw ⟨.bl (!c),H1,I1,rfl,q1⟩)
end
def SqL (K:W.Frag) (H:Hp) (a:Addr) (xs:List V):Prop:=
 Rd H a (.lst xs) \/
  ∃ (o:Obj) (its:Array Value) (n:Nat),K.lookup a = some o /\ o.cls = .type "list" /\ o.dict = none /\ o.data = .seq its n /\ its.size <= sizeLine /\ Vals xs its.toList
def SqT (K:W.Frag) (H:Hp) (a:Addr) (xs:List V):Prop:=
 Rd H a (.tup xs) \/
  ∃ (o:Obj) (its:Array Value) (n:Nat),K.lookup a = some o /\ o.cls = .type "tuple" /\ o.data = .seq its n /\ its.size <= sizeLine /\ Vals xs its.toList
noncomputable def L5:Value -> Option V
 | .none=>some .non
 | .bool b=>some (.bl b)
 | .int i _=>some (.int i)
 | .str x _=>some (.str x)
 | .bytes b _=>some (.byt b)
 | .float b _=>some (.flt b)
 | .ref a=>some (.ref a)
 | .type n=>some (.ty n)
 | _=>none
theorem RelV.abs {x:V} {u:Value} (r:RelV x u):L5 u = some x:=by
 cases x with
 | non=>cases r;rfl
 | bl _=>cases r;rfl
 | int _=>obtain ⟨t,rfl⟩:=r;rfl
 | str _=>obtain ⟨t,rfl⟩:=r;rfl
 | byt _=>obtain ⟨t,rfl⟩:=r;rfl
 | flt _=>obtain ⟨t,rfl⟩:=r;rfl
 | ref _=>cases r;rfl
 | ty _=>cases r;rfl
theorem RelV.inj {x y:V} {u:Value} (r:RelV x u) (q:RelV y u):x = y:=O2 (r.abs.symm.trans q.abs)
theorem Vals.inj {xs ys:List V} {us:List Value} (h:Vals xs us) (k:Vals ys us):xs = ys:=by
 induction h generalizing ys with
 | nil=>cases k;rfl
 | cons r t ih=>
  cases k with
  | cons r' t'=>rw [r.inj r',ih t']
section
variable {X:Cx} {pins:List (Addr × Obj)} {σ:St} {H:Hp} {s:Shared} {a:Addr} {xs ys:List V}
theorem SqL.of {K:W.Frag} (h:H a = some (.lst xs)):SqL K H a xs:=.inl (.inl h)
theorem SqT.of {K:W.Frag} (h:H a = some (.tup xs)):SqT K H a xs:=.inl (.inl h)
theorem Inv.list (I:Inv X pins σ H s) (h:SqL X.K H a xs):∃ its:List Value,Vals xs its /\ PlainL s.heap a its.toArray /\ xs.length <= sizeLine:=by
 rcases h with h | ⟨o,its,n,hk,hc,hd,hs,hz,r⟩
 ·obtain ⟨z,its,n,r,e⟩:=h.ok I.hok
  exact ⟨its,r,⟨_,n,e,rfl,rfl,rfl⟩,z⟩
 ·refine ⟨its.toList,r,⟨o,n,I.kIn a o hk,hc,hd,by simpa using hs⟩,?_⟩
  have e:=r.length
  simp only [O0] at e
  lia
theorem Inv.tuple (I:Inv X pins σ H s) (h:SqT X.K H a xs):∃ its:List Value,Vals xs its /\ IsTup s.heap a its.toArray /\ xs.length <= sizeLine:=by
 rcases h with h | ⟨o,its,n,hk,hc,hs,hz,r⟩
 ·obtain ⟨z,its,r,p⟩:=h.ok I.hok
  exact ⟨its,r,p,z⟩
 ·refine ⟨its.toList,r,⟨o,I.kIn a o hk,hc,n,by simpa using hs⟩,?_⟩
  have e:=r.length
  simp only [O0] at e
  lia
theorem Inv.list_inj (I:Inv X pins σ H s) (h:SqL X.K H a xs) (h':SqL X.K H a ys):xs = ys:=by
 obtain ⟨its,r,⟨o,n,e,_,_,d⟩,_⟩:=I.list h
 obtain ⟨its',r',⟨o',n',e',_,_,d'⟩,_⟩:=I.list h'
 rw [e] at e';cases e'
 rw [d] at d'
 injection d' with d1 _
 have:its = its':=by simpa using OG Array.toList d1
 subst this
 exact r.inj r'
theorem Inv.tuple_inj (I:Inv X pins σ H s) (h:SqT X.K H a xs) (h':SqT X.K H a ys):xs = ys:=by
 obtain ⟨its,r,⟨o,e,_,n,d⟩,_⟩:=I.tuple h
 obtain ⟨its',r',⟨o',e',_,n',d'⟩,_⟩:=I.tuple h'
 rw [e] at e';cases e'
 rw [d] at d'
 injection d' with d1 _
 have:its = its':=by simpa using OG Array.toList d1
 subst this
 exact r.inj r'
end
noncomputable abbrev Cx.wish (X:Cx) (E:Value -> Shared -> Prop):Cx:={ X with xe:=E }
noncomputable abbrev Cx.nox (X:Cx):Cx:=X.wish fun _ _=>False
theorem Cx.Ok.wish {X:Cx} (ok:X.Ok) (E:Value -> Shared -> Prop):(X.wish E).Ok:=
 ⟨ok.mod,ok.kind,ok.glob,ok.blt,ok.above,ok.inj,ok.has,ok.cab,ok.hd,ok.frames,ok.stk,ok.exf,ok.bs,ok.bsz,ok.noex,ok.exfs,ok.funs,ok.frf⟩
theorem Cx.Ok.unwish {X:Cx} {E:Value -> Shared -> Prop} (ok:(X.wish E).Ok):X.Ok:=
 ⟨ok.mod,ok.kind,ok.glob,ok.blt,ok.above,ok.inj,ok.has,ok.cab,ok.hd,ok.frames,ok.stk,ok.exf,ok.bs,ok.bsz,ok.noex,ok.exfs,ok.funs,ok.frf⟩
section
variable {X:Cx} {pins:List (Addr × Obj)} {σ:St} {H:Hp} {s:Shared} {E:Value -> Shared -> Prop}
theorem Inv.wish (I:Inv X pins σ H s) (E:Value -> Shared -> Prop):Inv (X.wish E) pins σ H s:=⟨I.ok.wish E,I.os,I.bare,I.base,I.loc,I.cell,I.free,I.freeC,I.pin,I.hok,I.len⟩
theorem Inv.unwish (I:Inv (X.wish E) pins σ H s):Inv X pins σ H s:=⟨I.ok.unwish,I.os,I.bare,I.base,I.loc,I.cell,I.free,I.freeC,I.pin,I.hok,I.len⟩
theorem SP.unwish {D:Ends} {f:Flow} {s':Shared} (h:SP (X.wish E) pins D f s'):SP X pins D f s':=by
 cases f with
 | next=>obtain ⟨σ',H',I,q⟩:=h;exact ⟨σ',H',I.unwish,q⟩
 | brk=>obtain ⟨σ',H',I,q⟩:=h;exact ⟨σ',H',I.unwish,q⟩
 | cont=>obtain ⟨σ',H',I,q⟩:=h;exact ⟨σ',H',I.unwish,q⟩
 | ret u=>obtain ⟨v,σ',H',I,r,q⟩:=h;exact ⟨v,σ',H',I.unwish,r,q⟩
theorem PSs.nox {st:List Stmt} {t:TS} (h:PSs X.nox st t):PSs X st t:=fun pins s σ H D I hw=>
 PD (h pins s σ H D (I.wish _) hw) (fun _ _ q=>q.unwish) fun _ _ z=>False.elim z
end
section
variable {X:Cx} {st:Stmt} {eW:List Stmt} {t u:TS} {e:Expr} {te:TE} {pos:Pos}
noncomputable def II:TS:=fun D σ H=>D.nx σ H
noncomputable def Lv (t u:TS):TS:=fun D σ H=>t { D with nx:=u D } σ H
theorem fh:PSs X [] II:=fun _ _ σ H _ I h=>Rp ⟨σ,H,I,h⟩
theorem ap (h1:PS X st t) (h2:PSs X eW u):PSs X (st :: eW) (Lv t u):=by
 intro pins s σ H D I h
 refine wpAny_execs_cons (thn (h1 pins s σ H { D with nx:=u D } I h) fun f s1 q=>?_)
 cases f with
 | next=>
  obtain ⟨σ',H',I',q⟩:=q
  exact h2 pins s1 σ' H' D I' q
 | ret v=>exact q
 | brk=>exact q
 | cont=>exact q
theorem aA (h1:PS X st t):PSs X [st] t:=by
 intro pins s σ H D I h
 refine wpAny_execs_cons (thn (h1 pins s σ H D I h) fun f s1 q=>?_)
 cases f with
 | next=>exact Rp q
 | ret v=>exact q
 | brk=>exact q
 | cont=>exact q
theorem Inv.quiet {pins:List (Addr × Obj)} {σ:St} {H:Hp} {s:Shared} (I:Inv X pins σ H s):interactive X.env = false:=by simp [interactive,I.ok.kind]
noncomputable def zG (te:TE):TS:=fun D σ H=>te σ H fun _ H1=>D.nx σ H1
theorem cM (he:PE X e te) (hs:swapsWith e none pos.line X.env = pure false:=by rfl):PS X (.Expr e pos) (zG te):=by
 intro pins s σ H D I h
 exact wpAny_Expr_any (thn (he pins s σ H _ I h) fun v s1 ⟨x,H1,I1,r1,q1⟩=>⟨σ,H1,I1,q1⟩) I.quiet hs
noncomputable def DR (te:TE):TS:=fun D σ H=>te σ H D.rt
theorem bG (he:PE X e te):PS X (.Return (some e) pos) (DR te):=by
 intro pins s σ H D I h
 exact wpAny_Return_some (thn (he pins s σ H _ I h) fun v s1 ⟨x,H1,I1,r1,q1⟩=>⟨x,σ,H1,I1,r1,q1⟩)
noncomputable def Lr (c:TT) (t u:TS):TS:=fun D σ H=>c σ H fun b H1=>if b = true then t D σ H1 else u D σ H1
theorem jT {c:Expr} {a b:List Stmt} {tc:TT} (hc:PT X c tc) (ha:PSs X a t) (hb:PSs X b u):PS X (.If c a b pos) (Lr tc t u):=by
 intro pins s σ H D I h
 refine wpAny_If (thn (hc pins s σ H _ I h) fun d s1 hpt9=>?_)
 obtain ⟨H1,I1,q1⟩:=hpt9
 cases d with
 | true=>exact ha pins s1 σ H1 D I1 q1
 | false=>exact hb pins s1 σ H1 D I1 q1
noncomputable def Ge:TS:=fun _ _ _=>False
theorem Fu:PS X st Ge:=fun _ _ _ _ _ _ h=>h.elim
end
noncomputable abbrev TG:=V -> St -> Hp -> (St -> Hp -> Prop) -> Prop
noncomputable abbrev TGs:=List V -> St -> Hp -> (St -> Hp -> Prop) -> Prop
def PG (X:Cx) (target:Expr) (t:TG):Prop:=
 ∀ (pins:List (Addr × Obj)) (s:Shared) (σ:St) (H:Hp) (v:V) (u:Value) (Q:St -> Hp -> Prop),Inv X pins σ H s -> RelV v u -> t v σ H Q ->
  wpAny (model X.prog X.w) X.A (assign target X.env u) (fun _ s'=>∃ σ' H',Inv X pins σ' H' s' /\ Q σ' H') X.xe s
def PGs (X:Cx) (ts:List Expr) (t:TGs):Prop:=
 ∀ (pins:List (Addr × Obj)) (s:Shared) (σ:St) (H:Hp) (vs:List V) (us:List Value) (Q:St -> Hp -> Prop),Inv X pins σ H s -> Vals vs us -> t vs σ H Q ->
  wpAny (model X.prog X.w) X.A (assignInOrder ((assignEach ts X.env).map (·.2)) us) (fun _ s'=>∃ σ' H',Inv X pins σ' H' s' /\ Q σ' H') X.xe s
noncomputable abbrev IU:=V -> V -> V -> Hp -> (Hp -> Prop) -> Prop
def Kq (X:Cx) (t:IU):Prop:=
 ∀ (pins:List (Addr × Obj)) (s:Shared) (σ:St) (H:Hp) (o i v:V) (ov iv u:Value) (Q:Hp -> Prop),Inv X pins σ H s -> RelV o ov -> RelV i iv -> RelV v u -> t o i v H Q ->
  wpAny (model X.prog X.w) X.A (setItem ov iv u) (fun _ s'=>∃ H',Inv X pins σ H' s' /\ Q H') X.xe s
section
variable {X:Cx} {pos:Pos}
noncomputable def kx (i:Nat):TG:=fun v σ H Q=>Q (σ.set i (some v)) H
theorem av {i:Nat} {x:Str} (hN:X.N.Nodup) (hi:X.N[i]? = some x) (hx:Loc X.env.scope x) (hf:X.fn x = true \/ X.env.scope.names.lookup x = some .local:=by first | exact .inl rfl | exact .inr rfl | assumption):PG X (.Name x pos) (kx i):=by
 intro pins s σ H v u Q I r h
 exact wpAny_assign_Name (zC I hN hi hx r (fun s' I'=>⟨_,H,I',h⟩) hf)
noncomputable def Jm:TGs:=fun vs σ H Q=>vs = [] /\ Q σ H
noncomputable def EB (t:TG) (u:TGs):TGs:=fun vs σ H Q=>∃ v r,vs = v :: r /\ t v σ H fun σ' H'=>u r σ' H' Q
theorem bz:PGs X [] Jm:=by
 intro pins s σ H vs us Q I r h
 obtain ⟨e,h⟩:=h
 subst e
 cases r
 exact assignInOrder_nil ⟨σ,H,I,h⟩
theorem az {e:Expr} {es:List Expr} {t:TG} {u:TGs} (h1:PG X e t) (h2:PGs X es u)
  (hs:(assignEach (e :: es) X.env).map (·.2) = assign e X.env :: (assignEach es X.env).map (·.2):=by rfl):PGs X (e :: es) (EB t u):=by
 intro pins s σ H vs us Q I r h
 obtain ⟨v,vr,e1,h⟩:=h
 subst e1
 cases r with
 | cons r rr=>
  rw [hs]
  refine assignInOrder_cons (thn (h1 pins s σ H _ _ _ I r h) fun _ s1 hpt9=>?_)
  obtain ⟨σ1,H1,I1,q1⟩:=hpt9
  exact h2 pins s1 σ1 H1 _ _ Q I1 rr q1
noncomputable def G4 (K:W.Frag) (n:Nat) (t:TGs):TG:=fun v σ H Q=>∃ a xs,v = .ref a /\ SqT K H a xs /\ xs.length = n /\ t xs σ H Q
theorem cF {es:List Expr} {k:Nat} {t:TGs} {n:Nat} (hc:X.calm = true) (h:PGs X es t)
  (hn:(assignEach es X.env).length = n:=by rfl) (hst:(assignEach es X.env).findIdx? (·.1) = none:=by rfl):PG X (.Tuple es k pos) (G4 X.K n t):=by
 intro pins s σ H v u Q I r hw
 obtain ⟨a,xs,e1,hq,hl,hw⟩:=hw
 subst e1
 cases r
 obtain ⟨its,rv,ht,hz⟩:=I.tuple hq
 refine assign_Tuple_tuple (I.ok.hd hc) ht (by simp [hn,<- hl,rv.length]) hst fun h' hx=>?_
 have I1:Inv X pins σ H { s with heap:=h' }:=I.kept (t':=s.toks) fun b o e=>hx b o (OE (Oz e)) e
 exact h pins _ σ H xs _ Q I1 (by simpa using rv) hw
noncomputable def KD (to ti:TE) (t:IU):TG:=fun v σ H Q=>to σ H fun o H1=>ti σ H1 fun i H2=>t o i v H2 fun H3=>Q σ H3
theorem Fk {o i:Expr} {to ti:TE} {t:IU} (ho:PE X o to) (hi:PE X i ti) (hs:Kq X t)
  (ha:∀ v,assign (.Subscript o i pos) X.env v = (do
   let ov ← holding [v] (eval o X.env)
   let iv ← holding [v,ov] (eval i X.env)
   standAt pos
   holding [v,ov,iv] (setItem ov iv v)
   release [v,ov,iv] []):=by intro _;rfl):PG X (.Subscript o i pos) (KD to ti t):=by
 intro pins s σ H v u Q I r h
 rw [ha]
 refine Oh (O8 (thn (ho pins s σ H _ I h) fun ov s1 hpt9=>?_))
 obtain ⟨x,H1,I1,r1,q1⟩:=hpt9
 refine Oh (O8 (thn (hi pins s1 σ H1 _ I1 q1) fun iv s2 hpt9=>?_))
 obtain ⟨y,H2,I2,r2,q2⟩:=hpt9
 refine Oh (wpAny_standAt (Oh (O8 (thn (hs pins s2 σ H2 x y v ov iv u _ I2 r1 r2 r q2) fun _ s3 hpt9=>?_))))
 obtain ⟨H3,I3,q3⟩:=hpt9
 exact wpAny_release ⟨σ,H3,I3,q3⟩
noncomputable def zE (te:TE) (g:TG):TS:=fun D σ H=>te σ H fun x H1=>g x σ H1 D.nx
theorem Ft {tg e:Expr} {te:TE} {g:TG} (he:PE X e te) (hg:PG X tg g) (hs:swapsWithSole [tg] e pos.line X.env = pure false:=by rfl) (hw:swappedStores [tg] e X.env = pure none:=by rfl)
  (h1:(assignEach [tg] X.env).map (·.2) = [assign tg X.env]:=by rfl):PS X (.Assign [tg] e pos) (zE te g):=by
 intro pins s σ H D I h
 refine wpAny_Assign_stores (thn (he pins s σ H _ I h) fun v s1 hpt9=>?_) hs hw
 obtain ⟨x,H1,I1,r1,q1⟩:=hpt9
 rw [h1]
 exact thn (hg pins s1 σ H1 x v _ I1 r1 q1) fun _ s2 q=>q
theorem a6 {i:Nat} {x:Str} {e:Expr} {te:TE} {pos':Pos} (hN:X.N.Nodup) (hi:X.N[i]? = some x) (hx:Loc X.env.scope x) (he:PE X e te) (hs:swapsWith e (some (.Name x pos')) pos.line X.env = pure false:=by rfl) (hf:X.fn x = true \/ X.env.scope.names.lookup x = some .local:=by first | exact .inl rfl | exact .inr rfl | assumption) :
  PS X (.Assign [.Name x pos'] e pos) (zE te (kx i)):=by
 intro pins s σ H D I h
 refine wpAny_Assign_Name (thn (he pins s σ H _ I h) fun v s1 hpt9=>?_) hs
 obtain ⟨y,H1,I1,r1,q1⟩:=hpt9
 exact zC I1 hN hi hx r1 (fun s2 I2=>⟨_,H1,I2,q1⟩) hf
end
section
variable {X:Cx} {pos:Pos}
noncomputable def Gf (c:TT) (tb:TS):TS:=fun D σ H=>∃ W:Nat -> St -> Hp -> Prop,(∃ m,W m σ H) /\ ∀ m σ H,W m σ H ->
 c σ H fun b H1=>if b = true then ∃ N:St -> Hp -> Prop,(∀ σ' H',N σ' H' -> ∃ m',m' < m /\ W m' σ' H') /\ tb { D with nx:=N,ct:=N,bk:=D.nx } σ H1 else D.nx σ H1
theorem Fv {c:Expr} {body:List Stmt} {tc:TT} {tb:TS} (hp:PassesOwn (model X.prog X.w) X.A X.env X.xe) (hc:PT X c tc) (hb:PSs X body tb):PS X (.While c body [] pos) (Gf tc tb):=by
 intro pins s σ H D I h
 obtain ⟨W,⟨m0,w0⟩,turn⟩:=h
 refine wpAny_While (codeAny_whileLoop (fun n s'=>∃ σ' H',Inv X pins σ' H' s' /\ W n σ' H') ?_ m0 ⟨σ,H,I,w0⟩)
 rintro n s1 ⟨σ1,H1,I1,w1⟩
 refine Ql hp (thn (hc pins s1 σ1 H1 _ I1 (turn n σ1 H1 w1)) fun b s2 hpt9=>?_)
 obtain ⟨H2,I2,q2⟩:=hpt9
 cases b with
 | true=>
  obtain ⟨N,hN,q2⟩:=q2
  rw [Oj rfl]
  refine Ql hp (thn (hb pins s2 σ1 H2 _ I2 q2) fun f s3 q3=>?_)
  cases f with
  | next=>
   obtain ⟨σ3,H3,I3,n3⟩:=q3
   obtain ⟨m',hm,w3⟩:=hN σ3 H3 n3
   exact ⟨m',hm,σ3,H3,I3,w3⟩
  | cont=>
   obtain ⟨σ3,H3,I3,n3⟩:=q3
   obtain ⟨m',hm,w3⟩:=hN σ3 H3 n3
   exact ⟨m',hm,σ3,H3,I3,w3⟩
  | brk=>exact q3
  | ret v=>exact q3
 | false=>
  rw [Oi Ph]
  exact Rp ⟨σ1,H2,I2,q2⟩
end
structure It where
 go:Nat -> Hp -> Prop
 yld:Nat -> Hp -> V -> Hp -> Prop
 stop:Nat -> Hp -> Prop
def rd (X:Cx) (pins:List (Addr × Obj)) (H:Hp) (b:Addr):Prop:=
 H b = none /\ b ≠ X.env.locals /\ b ∉ X.fs /\ (b ∈ X.ex \/ X.s₀.heap.objs.size <= b) /\ (∀ x c,X.env.cells.lookup x = some c -> c ≠ b) /\ ∀ p ∈ X.pn ++ pins,p.1 ≠ b
theorem Inv.fpOk {X:Cx} {pins:List (Addr × Obj)} {σ:St} {H H':Hp} {s:Shared} {b:Addr} (I:Inv X pins σ H s) (hb:s.heap.objs.size <= b) (hn:H' b = none):rd X pins H' b:=by
 refine ⟨hn,P5 (OT I.lt hb),I.nofs hb,.inr (OD I.sz hb),fun x c e z=>?_,fun p hp z=>?_⟩
 ·obtain ⟨v,q⟩:=I.cell x c e
  exact absurd (OT q.lt (by rw [z];exact hb)) (Qk _)
 ·exact absurd (OT (Oz (I.pin p hp).1) (by rw [z];exact hb)) (Qk _)
structure Turn (P:Program) (w:World) (K:W.Frag) (tg:Expr) (J:It) (fp:List Addr) (it:Addr) (tn:Nat -> Heap -> Prop):Prop where
 mem:it ∈ fp
 obj:∀ i h,tn i h -> ∀ b ∈ fp,∃ o,h.get? b = some o /\ ∀ v,o.data ≠ .cell v
 keep:∀ i h h',tn i h -> (∀ b ∈ fp,∀ o,h.get? b = some o -> h'.get? b = some o) -> tn i h'
 item:∀ (X:Cx),X.prog = P -> X.w = w -> X.K = K -> X.calm = true -> ∀ (i:Nat) (pins:List (Addr × Obj)) (s:Shared) (σ:St) (H:Hp) (E:Value -> Shared -> Prop),Inv X pins σ H s -> (∀ b ∈ fp,rd X pins H b) -> tn i s.heap -> J.go i H ->
  wpAny (model P w) X.A (pyNext (.ref it)) (fun r s1=>∃ u,r = some u /\
   wpAny (model P w) X.A (letOwnedTupleGo tg (.ref it) u) (fun _ s2=>∃ x H',Inv X pins σ H' s2 /\ RelV x u /\ J.yld i H x H' /\ tn (i + 1) s2.heap /\ ∀ b ∈ fp,H' b = none) E s1) E s
 done:∀ (X:Cx),X.prog = P -> X.w = w -> X.K = K -> X.calm = true -> ∀ (i:Nat) (pins:List (Addr × Obj)) (s:Shared) (σ:St) (H:Hp) (E:Value -> Shared -> Prop),Inv X pins σ H s -> (∀ b ∈ fp,rd X pins H b) -> tn i s.heap -> J.stop i H ->
  wpAny (model P w) X.A (pyNext (.ref it)) (fun r s1=>r = none /\ Inv X pins σ H s1) E s
 self:∀ (A:Around) (i:Nat) (s:Shared) (Q:Value -> Shared -> Prop) (E:Value -> Shared -> Prop),tn i s.heap -> Q (.ref it) s -> wpAny (model P w) A (pyIter (.ref it)) Q E s
noncomputable abbrev TI:=St -> Hp -> (It -> Hp -> Prop) -> Prop
def PIE (X:Cx) (pins:List (Addr × Obj)) (σ:St) (tg:Expr) (R:It -> Hp -> Prop) (itv:Value) (s2:Shared):Prop:=
 ∃ (it:Addr) (fp:List Addr) (tn:Nat -> Heap -> Prop) (J:It) (H':Hp),itv = .ref it /\ Inv X pins σ H' s2 /\ Turn X.prog X.w X.K tg J fp it tn /\ tn 0 s2.heap /\ (∀ b ∈ fp,rd X pins H' b) /\ R J H'
def PI (X:Cx) (tg iter:Expr) (wi:TI):Prop:=
 ∀ (pins:List (Addr × Obj)) (s:Shared) (σ:St) (H:Hp) (R:It -> Hp -> Prop),Inv X pins σ H s -> wi σ H R ->
  wpAny (model X.prog X.w) X.A (eval iter X.env) (fun v s1=>wpAny (model X.prog X.w) X.A (pyIter v) (PIE X pins σ tg R) X.xe s1) X.xe s
theorem yn {M:Model} {A:Around} {E:Value -> Shared -> Prop} {s:Shared} {tg:Expr} {it:Addr} {u:Value} {o:Obj} {n:String} {vs:Array Value} {Q:Unit -> Shared -> Prop} (ho:s.heap.get? it = some o) (hc:o.cls = .type n) (hd:o.data = .fields vs)
  (hn:["enumerate", "zip", "dict_itemiterator", "dict_reverseitemiterator", "odict_iterator", "itertools.zip_longest", "itertools.pairwise"].contains n = false) (hQ:Q () s):wpAny M A (letOwnedTupleGo tg (.ref it) u) Q E s:=by
 unfold letOwnedTupleGo
 cases tg <;> first
  | exact Om hQ
  | (cases u <;> first
    | exact Om hQ
    | (refine Oh (wpAny_load ho ?_)
       rw [hc,hd]
       show wpAny M A (if (["enumerate", "zip", "dict_itemiterator", "dict_reverseitemiterator", "odict_iterator", "itertools.zip_longest", "itertools.pairwise"].contains n && vs[0]? == some (rawInt _)) = true then _ else _) Q E s
       rw [Oi (by intro h;rw [hn,Bool.false_and] at h;cases h)]
       exact Om hQ))
noncomputable def Itl (K:W.Frag) (a:Addr):It:=
 ⟨fun i H=>∃ xs x,SqL K H a xs /\ xs[i]? = some x,fun i H x H'=>H' = H /\ ∀ xs,SqL K H a xs -> xs[i]? = some x,fun i H=>∃ xs,SqL K H a xs /\ xs.length <= i⟩
noncomputable def Itt (K:W.Frag) (a:Addr):It:=
 ⟨fun i H=>∃ xs x,SqT K H a xs /\ xs[i]? = some x,fun i H x H'=>H' = H /\ ∀ xs,SqT K H a xs -> xs[i]? = some x,fun i H=>∃ xs,SqT K H a xs /\ xs.length <= i⟩
noncomputable def Itr (lo:Int) (n:Nat):It:=⟨fun i _=>i < n,fun i H x H'=>H' = H /\ x = .int (lo + i),fun i _=>n <= i⟩
theorem DU {P:Program} {w:World} {K:W.Frag} {tg:Expr} (a it:Addr):Turn P w K tg (Itl K a) [it] it (fun i h=>h.IsListIter it a i) where
 mem:=by simp
 obj:=fun i h st b hb=>by
  have e:b = it:=by simpa using hb
  subst e
  obtain ⟨o,e,c,d⟩:=st
  exact ⟨o,e,fun v z=>by rw [d] at z;cases z⟩
 keep:=fun i h h' st k=>st.at fun o e=>k it (by simp) o e
 item:=by
  intro X hP hw hK hc i pins s σ H E I hf st hg
  subst hP hw hK
  obtain ⟨xs,x,hq,hx⟩:=hg
  obtain ⟨its,rv,p,hz⟩:=I.list hq
  obtain ⟨u,hu,ru⟩:=rv.get hx
  obtain ⟨f0,f1,f2,f3,f4,f5⟩:=hf it (by simp)
  refine wpAny_pyNext_list_item st p.isList (x:=u) (by simpa using hu) fun h' st' sb=>?_
  have I1:Inv X pins σ H { s with heap:=h' }:=I.turned (t':=s.toks) (fun b o hb e=>(sb.2 b hb).trans e) f0 f1 f3 f4 f5
  obtain ⟨o,e,c,d⟩:=id st'
  exact ⟨u,rfl,yn (s:={ s with heap:=h' }) e c d (by decide) ⟨x,H,I1,ru,⟨rfl,fun ys hy=>by rw [I.list_inj hy hq];exact hx⟩,st',fun b hb=>(hf b hb).1⟩⟩
 done:=by
  intro X hP hw hK hc i pins s σ H E I hf st hg
  subst hP hw hK
  obtain ⟨xs,hq,hx⟩:=hg
  obtain ⟨its,rv,p,hz⟩:=I.list hq
  obtain ⟨f0,f1,f2,f3,f4,f5⟩:=hf it (by simp)
  have hl:=rv.length
  exact wpAny_pyNext_list_end (I.ok.hd hc) st p.isList (by simp;lia) fun h' eb=>⟨rfl,I.turned (t':=s.toks) (fun b o hb e=>eb b o hb e) f0 f1 f3 f4 f5⟩
 self:=fun _ _ _ _ _ st h=>wpAny_pyIter_listiter st h
theorem Bm {P:Program} {w:World} {K:W.Frag} {tg:Expr} (a it:Addr):Turn P w K tg (Itt K a) [it] it (fun i h=>h.IsTupleIter it a i) where
 mem:=by simp
 obj:=fun i h st b hb=>by
  have e:b = it:=by simpa using hb
  subst e
  obtain ⟨o,e,c,d⟩:=st
  exact ⟨o,e,fun v z=>by rw [d] at z;cases z⟩
 keep:=fun i h h' st k=>st.at fun o e=>k it (by simp) o e
 item:=by
  intro X hP hw hK hc i pins s σ H E I hf st hg
  subst hP hw hK
  obtain ⟨xs,x,hq,hx⟩:=hg
  obtain ⟨its,rv,p,hz⟩:=I.tuple hq
  obtain ⟨u,hu,ru⟩:=rv.get hx
  obtain ⟨f0,f1,f2,f3,f4,f5⟩:=hf it (by simp)
  refine wpAny_pyNext_tuple_item st (show s.heap.IsTuple a its.toArray from p) (x:=u) (by simpa using hu) fun h' st' sb=>?_
  have I1:Inv X pins σ H { s with heap:=h' }:=I.turned (t':=s.toks) (fun b o hb e=>(sb.2 b hb).trans e) f0 f1 f3 f4 f5
  obtain ⟨o,e,c,d⟩:=id st'
  exact ⟨u,rfl,yn (s:={ s with heap:=h' }) e c d (by decide) ⟨x,H,I1,ru,⟨rfl,fun ys hy=>by rw [I.tuple_inj hy hq];exact hx⟩,st',fun b hb=>(hf b hb).1⟩⟩
 done:=by
  intro X hP hw hK hc i pins s σ H E I hf st hg
  subst hP hw hK
  obtain ⟨xs,hq,hx⟩:=hg
  obtain ⟨its,rv,p,hz⟩:=I.tuple hq
  obtain ⟨f0,f1,f2,f3,f4,f5⟩:=hf it (by simp)
  have hl:=rv.length
  exact wpAny_pyNext_tuple_end (I.ok.hd hc) st (show s.heap.IsTuple a its.toArray from p) (by simp;lia) fun h' eb=>⟨rfl,I.turned (t':=s.toks) (fun b o hb e=>eb b o hb e) f0 f1 f3 f4 f5⟩
 self:=fun _ _ _ _ _ st h=>wpAny_pyIter_tupleiter st h
theorem tR {P:Program} {w:World} {K:PySem.W.Frag} {tg:Expr} (it:Addr) (lo:Int) (n:Nat):Turn P w K tg (Itr lo n) [it] it (fun i h=>IsRangeIter h it (lo + (i:Nat) * 1) ((n:Int) - (i:Nat)) 1) where
 mem:=by simp
 obj:=fun i h st b hb=>by
  have e:b = it:=by simpa using hb
  subst e
  exact ⟨_,st,fun v z=>by
   have z':Data.fields _ = Data.cell v:=z
   cases z'⟩
 keep:=fun i h h' st k=>k it (by simp) _ st
 item:=by
  intro X hP hw hK hc i pins s σ H E I hf st hg
  subst hP hw hK
  obtain ⟨f0,f1,f2,f3,f4,f5⟩:=hf it (by simp)
  have W:=Walks.range (prog:=X.prog) (w:=X.w) (I.ok.hd hc) it lo 1 n
  refine W.item i s _ _ hg st fun v h' tk hv st' kk=>?_
  obtain ⟨t,rfl⟩:=hv
  have I1:Inv X pins σ H { s with heap:=h',toks:=tk }:=I.turned (fun b o hb e=>kk b o (by simpa using hb) e) f0 f1 f3 f4 f5
  refine ⟨_,rfl,yn (s:={ s with heap:=h',toks:=tk }) (n := "range_iterator") st' rfl rfl (by decide) ⟨.int (lo + i),H,I1,⟨t,?_⟩,⟨rfl,rfl⟩,st',fun b hb=>(hf b hb).1⟩⟩
  rw [Int.mul_one]
 done:=by
  intro X hP hw hK hc i pins s σ H E I hf st hg
  subst hP hw hK
  obtain ⟨f0,f1,f2,f3,f4,f5⟩:=hf it (by simp)
  exact wpAny_pyNext_range_end (I.ok.hd hc) st (by have:n <= i:=hg;lia) fun h' eb=>⟨rfl,I.turned (t':=s.toks) (fun b o hb e=>eb b o hb e) f0 f1 f3 f4 f5⟩
 self:=fun _ _ _ _ _ st h=>wpAny_pyIter_rangeiter st h
section
variable {X:Cx} {tg:Expr}
theorem FC {pins:List (Addr × Obj)} {σ:St} {H:Hp} {s:Shared} {R:It -> Hp -> Prop} {E:Value -> Shared -> Prop} {lo hi:Int} {t u v:Tok} {tk:Nat} (I:Inv X pins σ H s) (h1:-(2 ^ 62) <= lo) (h2:lo < 2 ^ 62) (h3:-(2 ^ 62) <= hi) (h4:hi < 2 ^ 62)
  (q:R (Itr lo (hi - lo).toNat) H):wpAny (model X.prog X.w) X.A (pyIter (.ref s.heap.objs.size)) (PIE X pins σ tg R) E { s with heap:=s.heap.push { cls:=.type "range",data:=.fields #[.int lo t,.int hi u,.int 1 v] },toks:=tk }:=by
 refine wpAny_pyIter_range (IsRange.new ..) (small_one h1 h2 h3 h4) ?_
 have I1:Inv X pins σ H { s with heap:=s.heap.push { cls:=.type "range",data:=.fields #[.int lo t,.int hi u,.int 1 v] },toks:=tk }:=I.kept fun b o e=>OA _ e
 refine ⟨(s.heap.push { cls:=.type "range",data:=.fields #[.int lo t,.int hi u,.int 1 v] }).objs.size,[(s.heap.push { cls:=.type "range",data:=.fields #[.int lo t,.int hi u,.int 1 v] }).objs.size],_,_,H,rfl,
  I1.kept (t':=tk) fun b o e=>OA _ e,tR _ lo (hi - lo).toNat,?_,fun b hb=>?_,q⟩
 ·have e1:lo + ((0:Nat):Int) * 1 = lo:=by simp
  have e2:(((hi - lo).toNat:Nat):Int) - ((0:Nat):Int) = Builtin.Range.rangeSize lo hi 1:=by rw [rangeSize_one];split <;> lia
  show IsRangeIter _ _ (lo + ((0:Nat):Int) * 1) ((((hi - lo).toNat:Nat):Int) - ((0:Nat):Int)) 1
  rw [e1,e2]
  exact OO _ rfl
 ·have e:b = (s.heap.push { cls:=.type "range",data:=.fields #[.int lo t,.int hi u,.int 1 v] }).objs.size:=by simpa using hb
  subst e
  exact I1.fpOk (Op _) (I1.hok.fresh (Op _))
noncomputable def Ik (ta:TA):TI:=fun σ H R=>ta σ H fun vs H1=>∃ j:Int,vs = [.int j] /\ -(2 ^ 62) <= j /\ j < 2 ^ 62 /\ R (Itr 0 j.toNat) H1
theorem oZ {a:Expr} {ta:TA} {p pos:Pos} (hg:Gl X "range") (hm:X.mg "range" = none) (ha:PA X [a] ta) (hs:starEach [a] X.env = [(false,eval a X.env)]:=by rfl):PI X tg (.Call (.Name "range" p) [a] [] pos) (Ik ta):=by
 intro pins s σ H R I h
 refine Call_ (mG I hg hm boot_range (Rq (thn (ha pos pins s σ H _ I h) fun us s1 hpt9=>?_) hs rfl))
 obtain ⟨vs,H1,I1,r1,q1⟩:=hpt9
 obtain ⟨j,e,q1,q2,q⟩:=q1
 subst e
 cases r1 with
 | cons r rr=>
  cases rr
  obtain ⟨t,rfl⟩:=r
  exact call_range_1 (FC I1 (by lia) (by lia) q1 q2 (by simpa using q))
noncomputable def Lq (wi:TI) (g:TG) (tb:TS):TS:=fun D σ H=>wi σ H fun J H1=>∃ W:Nat -> Nat -> St -> Hp -> Prop,(∃ m,W 0 m σ H1) /\ ∀ i m σ H,W i m σ H ->
 (J.stop i H /\ D.nx σ H) \/ (J.go i H /\ ∃ N:St -> Hp -> Prop,(∀ σ' H',N σ' H' -> ∃ m',m' < m /\ W (i + 1) m' σ' H') /\ ∀ x H',J.yld i H x H' -> g x σ H' fun σ2 H2=>tb { D with nx:=N,ct:=N,bk:=D.nx } σ2 H2)
noncomputable def o4 (fp:List Addr) (h:Heap):List (Addr × Obj):=fp.filterMap fun b=>(h.get? b).map fun o=>(b,o)
theorem gA {fp:List Addr} {h:Heap} {b:Addr} {o:Obj} (hb:b ∈ fp) (e:h.get? b = some o):(b,o) ∈ o4 fp h:=Rr.mpr ⟨b,hb,by rw [e];rfl⟩
theorem Dl {fp:List Addr} {h:Heap} {p:Addr × Obj} (hp:p ∈ o4 fp h):p.1 ∈ fp /\ h.get? p.1 = some p.2:=by
 obtain ⟨b,hb,e⟩:=Rr.mp hp
 cases q:h.get? b with
 | none=>rw [q] at e;cases e
 | some o=>
  rw [q] at e
  have e':(b,o) = p:=O2 e
  subst e'
  exact ⟨hb,q⟩
theorem Inv.pinned {pins:List (Addr × Obj)} {σ:St} {H:Hp} {s:Shared} {fp:List Addr} (I:Inv X pins σ H s) (hf:∀ b ∈ fp,rd X pins H b) (ho:∀ b ∈ fp,∃ o,s.heap.get? b = some o /\ ∀ v,o.data ≠ .cell v):Inv X (pins ++ o4 fp s.heap) σ H s:=
 I.pins_of fun p hp=>(OC.mp hp).elim (fun z=>I.pin p (OB _ z)) fun z=>by
  obtain ⟨hb,e⟩:=Dl z
  obtain ⟨f0,f1,f2,_⟩:=hf p.1 hb
  obtain ⟨o,e',d⟩:=ho p.1 hb
  rw [e] at e';cases e'
  exact ⟨e,f0,f1,f2,d⟩
theorem Inv.unpinned {pins pl:List (Addr × Obj)} {σ:St} {H:Hp} {s:Shared} (I:Inv X (pins ++ pl) σ H s):Inv X pins σ H s:=I.pins_of fun p hp=>I.pin p (OB _ (OH _ hp))
theorem dB {iter:Expr} {body:List Stmt} {wi:TI} {g:TG} {tb:TS} {pos:Pos} (hp:PassesOwn (model X.prog X.w) X.A X.env X.xe) (hc:X.calm = true) (hi:PI X tg iter wi) (hg:PG X tg g) (hb:PSs X body tb)
  (hs:∀ x,foldedSetIterable iter X.env x = pure x:=by intro _;rfl):PS X (.For tg iter body [] pos) (Lq wi g tb):=by
 intro pins s σ H D I h
 refine wpAny_For (thn (hi pins s σ H _ I h) fun v s1 h1=>thn h1 fun itv s2 h2=>?_) hs
 obtain ⟨it,fp,tn,J,H2,e,I2,T,st2,f2,W,⟨m0,w0⟩,turn⟩:=h2
 subst e
 -- what stays true of the iterator's objects through the loop
 have stat:∀ {H':Hp},(∀ b ∈ fp,H' b = none) -> ∀ b ∈ fp,rd X pins H' b:=fun hn b hb=>⟨hn b hb,(f2 b hb).2⟩
 refine codeAny_forLoop_any (fun n s'=>∃ i σ' H',Inv X pins σ' H' s' /\ tn i s'.heap /\ (∀ b ∈ fp,H' b = none) /\ W i n σ' H') ?_ m0 ⟨0,σ,H2,I2,st2,fun b hb=>(f2 b hb).1,w0⟩
 rintro n s3 ⟨i,σ3,H3,I3,st3,fr3,w3⟩
 rcases turn i n σ3 H3 w3 with ⟨stop,qn⟩ | ⟨go,N,hN,step⟩
 ·refine Ql hp (thn (T.done X rfl rfl rfl hc i pins s3 σ3 H3 X.xe I3 (stat fr3) st3 stop) fun r s4 ⟨hr,I4⟩=>?_)
  subst hr
  exact Rp ⟨σ3,H3,I4,qn⟩
 ·refine Ql hp (thn (T.item X rfl rfl rfl hc i pins s3 σ3 H3 X.xe I3 (stat fr3) st3 go) fun r s4 ⟨u,hr,h4⟩=>?_)
  subst hr
  refine Ql hp (thn h4 fun _ s5 hpt9=>?_)
  obtain ⟨x,H5,I5,r5,y5,st5,fr5⟩:=hpt9
  have I5':=I5.pinned (stat fr5) (T.obj _ _ st5)
  refine Ql hp (thn (hg _ s5 σ3 H5 x u _ I5' r5 (step x H5 y5)) fun _ s6 hpt9=>?_)
  obtain ⟨σ6,H6,I6,q6⟩:=hpt9
  refine Ql hp (thn (hb _ s6 σ6 H6 _ I6 q6) fun f s7 q7=>?_)
  have again:∀ {σ7:St} {H7:Hp},Inv X (pins ++ o4 fp s5.heap) σ7 H7 s7 -> N σ7 H7 -> ∃ m,m < n /\ ∃ i σ' H',Inv X pins σ' H' s7 /\ tn i s7.heap /\ (∀ b ∈ fp,H' b = none) /\ W i m σ' H':=fun {σ7 H7} I7 n7=>by
   obtain ⟨m',hm,w7⟩:=hN σ7 H7 n7
   refine ⟨m',hm,i + 1,σ7,H7,I7.unpinned,T.keep _ _ _ st5 fun b hb o e=>(I7.pin (b,o) (OB _ (OB _ (gA hb e)))).1,fun b hb=>?_,w7⟩
   obtain ⟨o,e,d⟩:=T.obj _ _ st5 b hb
   exact (I7.pin (b,o) (OB _ (OB _ (gA hb e)))).2.1
  cases f with
  | next=>obtain ⟨σ7,H7,I7,n7⟩:=q7;exact again I7 n7
  | cont=>obtain ⟨σ7,H7,I7,n7⟩:=q7;exact again I7 n7
  | brk=>obtain ⟨σ7,H7,I7,q7⟩:=q7;exact ⟨σ7,H7,I7.unpinned,q7⟩
  | ret v=>obtain ⟨x7,σ7,H7,I7,r7,q7⟩:=q7;exact ⟨x7,σ7,H7,I7.unpinned,r7,q7⟩
end
noncomputable abbrev R2:=V -> V -> Hp -> VK -> Prop
def OpR (X:Cx) (f:Value -> Value -> Sem Value) (r:R2):Prop:=
 ∀ (pins:List (Addr × Obj)) (s:Shared) (σ:St) (H:Hp) (x y:V) (v u:Value) (Q:VK),Inv X pins σ H s -> RelV x v -> RelV y u -> r x y H Q ->
  wpAny (model X.prog X.w) X.A (f v u) (EP X pins σ Q) X.xe s
def UnR (X:Cx) (f:Value -> Sem Value) (r:V -> Hp -> VK -> Prop):Prop:=
 ∀ (pins:List (Addr × Obj)) (s:Shared) (σ:St) (H:Hp) (x:V) (v:Value) (Q:VK),Inv X pins σ H s -> RelV x v -> r x H Q ->
  wpAny (model X.prog X.w) X.A (f v) (EP X pins σ Q) X.xe s
def CallR (X:Cx) (f:Value) (r:List V -> Hp -> VK -> Prop):Prop:=
 ∀ (pins:List (Addr × Obj)) (s:Shared) (σ:St) (H:Hp) (xs:List V) (us:List Value) (Q:VK),Inv X pins σ H s -> Vals xs us -> r xs H Q ->
  wpAny (model X.prog X.w) X.A (call f us) (EP X pins σ Q) X.xe s
def L4 (X:Cx) (r:V -> Hp -> (Bool -> Hp -> Prop) -> Prop):Prop:=
 ∀ (pins:List (Addr × Obj)) (s:Shared) (σ:St) (H:Hp) (x:V) (v:Value) (Q:Bool -> Hp -> Prop),Inv X pins σ H s -> RelV x v -> r x H Q ->
  wpAny (model X.prog X.w) X.A (truthy v) (TP X pins σ Q) X.xe s
noncomputable def tOp (r:R2) (ta tb:TE):TE:=fun σ H Q=>ta σ H fun x H1=>tb σ H1 fun y H2=>r x y H2 Q
noncomputable def tUn (r:V -> Hp -> VK -> Prop) (ta:TE):TE:=fun σ H Q=>ta σ H fun x H1=>r x H1 Q
noncomputable def rI (C:Int -> Int -> Prop) (g:Int -> Int -> V):R2:=fun x y H Q=>∃ i j,x = .int i /\ y = .int j /\ C i j /\ Q (g i j) H
noncomputable def rI0 (g:Int -> Int -> V):R2:=fun x y H Q=>∃ i j,x = .int i /\ y = .int j /\ Q (g i j) H
noncomputable def rU (g:Int -> V):V -> Hp -> VK -> Prop:=fun x H Q=>∃ i,x = .int i /\ Q (g i) H
section
variable {X:Cx} {a b c:Expr} {ta tb tc:TE} {pos:Pos}
theorem Jb (ha:PE X a ta) (hb:PE X b tb) {pins:List (Addr × Obj)} {s:Shared} {σ:St} {H:Hp} {R:V -> V -> Hp -> Prop} (I:Inv X pins σ H s)
  (h:ta σ H fun x H1=>tb σ H1 fun y H2=>R x y H2) {Q:Value -> Shared -> Prop} {f:Value -> Value -> Sem Value}
  (hf:∀ v u s2 x y H2,Inv X pins σ H2 s2 -> RelV x v -> RelV y u -> R x y H2 -> wpAny (model X.prog X.w) X.A (f v u) Q X.xe s2) :
  wpAny (model X.prog X.w) X.A (eval a X.env) (fun v s₁=>wpAny (model X.prog X.w) X.A (eval b X.env) (fun u s₂=>wpAny (model X.prog X.w) X.A (f v u) Q X.xe s₂) X.xe s₁) X.xe s:=by
 refine thn (ha pins s σ H _ I h) fun v s1 hpt9=>?_
 obtain ⟨x,H1,I1,r1,q1⟩:=hpt9
 refine thn (hb pins s1 σ H1 _ I1 q1) fun u s2 hpt9=>?_
 obtain ⟨y,H2,I2,r2,q2⟩:=hpt9
 exact hf v u s2 x y H2 I2 r1 r2 q2
theorem aL {op:Operator} {r:R2} (ho:OpR X (binaryOp op) r) (ha:PE X a ta) (hb:PE X b tb):PE X (.BinOp a op b pos) (tOp r ta tb):=by
 intro pins s σ H Q I h
 exact wpAny_BinOp (Jb ha hb I h fun v u s2 x y H2 I2 rx ry q=>ho pins s2 σ H2 x y v u Q I2 rx ry q)
theorem eG {op:UnaryOp} {r:V -> Hp -> VK -> Prop} (ho:UnR X (unaryOp op) r) (ha:PE X a ta):PE X (.UnaryOp op a pos) (tUn r ta):=by
 intro pins s σ H Q I h
 exact UnaryOp_ (thn (ha pins s σ H _ I h) fun v s1 ⟨x,H1,I1,r1,q1⟩=>ho pins s1 σ H1 x v Q I1 r1 q1)
theorem opI {f:Value -> Value -> Sem Value} {C:Int -> Int -> Prop} {g:Int -> Int -> Int}
  (rule:∀ (i j:Int) (t u:Tok) (s:Shared) (Q:Value -> Shared -> Prop) (E:Value -> Shared -> Prop),C i j -> Q (.int (g i j) s.toks) { s with toks:=s.toks + 1 } -> wpAny (model X.prog X.w) X.A (f (.int i t) (.int j u)) Q E s) :
  OpR X f (rI C fun i j=>.int (g i j)):=by
 intro pins s σ H x y v u Q I rx ry h
 obtain ⟨i,j,rfl,rfl,hc,q⟩:=h
 obtain ⟨t,rfl⟩:=rx
 obtain ⟨t',rfl⟩:=ry
 exact rule i j t t' s _ _ hc ⟨.int (g i j),H,I.tok _,⟨_,rfl⟩,q⟩
theorem JA {f:Value -> Value -> Sem Value} {g:Int -> Int -> Int}
  (rule:∀ (i j:Int) (t u:Tok) (s:Shared) (Q:Value -> Shared -> Prop) (E:Value -> Shared -> Prop),Q (.int (g i j) s.toks) { s with toks:=s.toks + 1 } -> wpAny (model X.prog X.w) X.A (f (.int i t) (.int j u)) Q E s) :
  OpR X f (rI0 fun i j=>.int (g i j)):=by
 intro pins s σ H x y v u Q I rx ry h
 obtain ⟨i,j,rfl,rfl,q⟩:=h
 obtain ⟨t,rfl⟩:=rx
 obtain ⟨t',rfl⟩:=ry
 exact rule i j t t' s _ _ ⟨.int (g i j),H,I.tok _,⟨_,rfl⟩,q⟩
theorem Hs {f:Value -> Value -> Sem Value} {g:Int -> Int -> Bool}
  (rule:∀ (i j:Int) (t u:Tok) (s:Shared) (Q:Value -> Shared -> Prop) (E:Value -> Shared -> Prop),Q (.bool (g i j)) s -> wpAny (model X.prog X.w) X.A (f (.int i t) (.int j u)) Q E s) :
  OpR X f (rI0 fun i j=>.bl (g i j)):=by
 intro pins s σ H x y v u Q I rx ry h
 obtain ⟨i,j,rfl,rfl,q⟩:=h
 obtain ⟨t,rfl⟩:=rx
 obtain ⟨t',rfl⟩:=ry
 exact rule i j t t' s _ _ ⟨.bl (g i j),H,I,rfl,q⟩
def Kl (i j:Int):Prop:=0 < j /\ j < 1073741824
def IQ (i j:Int):Prop:=0 <= j /\ j <= 1000000 /\ i.natAbs < 2 ^ 64
def CMul (i j:Int):Prop:=(-(2 ^ 64) < i /\ i < 2 ^ 64) \/ (-(2 ^ 64) < j /\ j < 2 ^ 64)
theorem CMul.ok {i j:Int} (h:CMul i j):IntMulOk i j:=by
 rcases h with ⟨h1,h2⟩ | ⟨h1,h2⟩
 ·exact .of_left (intBits_le_64 h1 h2)
 ·exact .of_right (intBits_le_64 h1 h2)
theorem op_add:OpR X (binaryOp .Add) (rI0 fun i j=>.int (i + j)):=JA fun _ _ _ _ _ _ _ q=>add_int q
theorem xg:OpR X (binaryOp .Sub) (rI0 fun i j=>.int (i - j)):=JA fun _ _ _ _ _ _ _ q=>sub_int q
theorem oX:OpR X (binaryOp .Mult) (rI CMul fun i j=>.int (i * j)):=opI fun _ _ _ _ _ _ _ hc q=>mul_int q hc.ok
theorem g8:OpR X (binaryOp .FloorDiv) (rI Kl fun i j=>.int (i / j)):=opI fun i j _ _ _ _ _ hc q=>by
 have h1:(0:Int) < j:=hc.1
 have h2:j < 1073741824:=hc.2
 exact floordiv_int (by lia) (by rw [Int.fdiv_eq_ediv_of_nonneg i (by lia)];exact q) (.inl (PyProof.noPylong_small (by lia)))
theorem fQ:OpR X (binaryOp .Mod) (rI (fun _ j=>0 < j) fun i j=>.int (i % j)):=opI fun i j _ _ _ _ _ hc q=>by
 have h1:(0:Int) < j:=hc
 exact mod_int' (by lia) (by rw [Int.fmod_eq_emod_of_nonneg i (by lia)];exact q)
theorem JB:OpR X (binaryOp .Pow) (rI IQ fun i j=>.int (i ^ j.toNat)):=opI fun _ _ _ _ _ _ _ hc q=>pow_int_small hc.1 hc.2.1 hc.2.2 q
theorem AV:OpR X (binaryOp .BitAnd) (rI0 fun i j=>.int (Builtin.bitAnd i j)):=JA fun _ _ _ _ _ _ _ q=>and_int q
theorem unI {f:Value -> Sem Value} {g:Int -> Int}
  (rule:∀ (i:Int) (t:Tok) (s:Shared) (Q:Value -> Shared -> Prop) (E:Value -> Shared -> Prop),Q (.int (g i) s.toks) { s with toks:=s.toks + 1 } -> wpAny (model X.prog X.w) X.A (f (.int i t)) Q E s) :
  UnR X f (rU fun i=>.int (g i)):=by
 intro pins s σ H x v Q I rx h
 obtain ⟨i,rfl,q⟩:=h
 obtain ⟨t,rfl⟩:=rx
 exact rule i t s _ _ ⟨.int (g i),H,I.tok _,⟨_,rfl⟩,q⟩
theorem cV:UnR X (unaryOp .USub) (rU fun i=>.int (-i)):=unI fun _ _ _ _ _ q=>neg_int q
end
section
variable {X:Cx} {a b c:Expr} {ta tb tc:TE} {pos:Pos}
theorem Jj {pins:List (Addr × Obj)} {σ:St} {H:Hp} {s:Shared} {Q:VK} {k k':Bool} (I:Inv X pins σ H s) (q:Q (.bl k) H) (e:k = k'):EP X pins σ Q (.bool k') s:=by
 subst e
 exact ⟨.bl k,H,I,rfl,q⟩
theorem Iq:OpR X (compareOp .Lt) (rI0 fun i j=>.bl (decide (i < j))):=Hs fun _ _ _ _ _ _ _ q=>lt_int q
theorem Fd:OpR X (compareOp .LtE) (rI0 fun i j=>.bl (decide (i <= j))):=Hs fun _ _ _ _ _ _ _ q=>le_int q
theorem B1:OpR X (compareOp .Gt) (rI0 fun i j=>.bl (decide (j < i))):=Hs fun _ _ _ _ _ _ _ q=>gt_int q
theorem KM:OpR X (compareOp .GtE) (rI0 fun i j=>.bl (decide (j <= i))):=Hs fun _ _ _ _ _ _ _ q=>ge_int q
theorem Ht:OpR X (compareOp .IsNot) (fun x y H Q=>y = .non /\ Q (.bl (!decide (x = .non))) H):=by
 intro pins s σ H x y v u Q I rx ry h
 obtain ⟨rfl,q⟩:=h
 cases ry
 refine isnot_none_gen (Jj I q ?_)
 cases x <;> first
  | (cases rx;rfl)
  | (obtain ⟨t,rfl⟩:=rx;rfl)
theorem OpR.or {f:Value -> Value -> Sem Value} {r r':R2} (h:OpR X f r) (h':OpR X f r'):OpR X f (fun x y H Q=>r x y H Q \/ r' x y H Q):=by
 intro pins s σ H x y v u Q I rx ry q
 rcases q with q | q
 ·exact h pins s σ H x y v u Q I rx ry q
 ·exact h' pins s σ H x y v u Q I rx ry q
theorem bt (b:Expr) {op:CmpOp} (h:op ≠ .In:=by decide) (h2:op ≠ .NotIn:=by decide):behindInMarks op b = false:=by
 have e1:(op == CmpOp.In) = false:=by cases op <;> first | rfl | exact absurd rfl h
 have e2:(op == CmpOp.NotIn) = false:=by cases op <;> first | rfl | exact absurd rfl h2
 cases b <;> simp [behindInMarks,e1,e2]
theorem jB {op:CmpOp} {r:R2} (ho:OpR X (compareOp op) r) (ha:PE X a ta) (hb:PE X b tb) (hm:behindInMarks op b = false):PE X (.Compare a [op] [b] pos) (tOp r ta tb):=by
 intro pins s σ H Q I h
 exact wpAny_Compare1 (Jb ha hb I h fun v u s2 x y H2 I2 rx ry q=>ho pins s2 σ H2 x y v u Q I2 rx ry q) hm
noncomputable def IL (t:TE):TT:=fun σ H Q=>t σ H fun x H'=>∃ k,x = .bl k /\ Q k H'
theorem bq {op:CmpOp} {r:R2} (ho:OpR X (compareOp op) r) (ha:PE X a ta) (hb:PE X b tb) (hm:behindInMarks op b = false):PT X (.Compare a [op] [b] pos) (IL (tOp r ta tb)):=by
 intro pins s σ H Q I h
 refine wpAny_isTrue_Compare1 (thn (ha pins s σ H _ I h) fun v s1 ⟨x,H1,I1,r1,q1⟩=>thn (hb pins s1 σ H1 _ I1 q1) fun u s2 ⟨y,H2,I2,r2,q2⟩=>
  thn (ho pins s2 σ H2 x y v u _ I2 r1 r2 q2) fun c s3 ⟨z,H3,I3,r3,k,e,q3⟩=>?_) hm
 subst e
 cases r3
 exact Qw ⟨H3,I3,q3⟩
def D4 (K:W.Frag) (x:V) (H:Hp) (k:Bool):Prop:=
 match x with
 | .non=>k = false
 | .bl b=>k = b
 | .int i=>k = (i != 0)
 | .str y=>y.length <= sizeLine /\ k = ((y.length:Int) != 0)
 | .byt y=>y.size <= sizeLine /\ k = ((y.size:Int) != 0)
 | .ref p=>(∃ xs,SqL K H p xs /\ k = !xs.isEmpty) \/ (∃ xs,SqT K H p xs /\ k = !xs.isEmpty) \/ ∃ kvs,H p = some (.dK kvs) /\ k = !kvs.isEmpty
 | _=>False
theorem AA {κ:Type} {kvs:List (κ × V)} {vs:List (κ × Value)} (r:KV kvs vs):(!vs.isEmpty) = !kvs.isEmpty:=by
 cases r <;> rfl
theorem sr {xs:List V} {its:List Value} (r:Vals xs its):(!its.toArray.isEmpty) = !xs.isEmpty:=by
 cases r <;> simp
theorem oM:(sizeLine:Nat) < 2 ^ 63:=by rw [OJ];decide
theorem Kd:L4 X (fun x H Q=>∃ k,D4 X.K x H k /\ Q k H):=by
 intro pins s σ H x v Q I rx h
 obtain ⟨k,e,q⟩:=h
 have hl:=oM
 have hs:sizeLine = 16777216:=OJ
 cases x with
 | non=>
  cases rx
  have e':k = false:=e
  subst e'
  exact truthy_none ⟨H,I,q⟩
 | bl b=>
  cases rx
  have e':k = b:=e
  subst e'
  exact Qw ⟨H,I,q⟩
 | int i=>
  obtain ⟨t,rfl⟩:=rx
  have e':k = (i != 0):=e
  subst e'
  exact PySem.P.truthy_int ⟨H,I,q⟩
 | str y=>
  obtain ⟨t,rfl⟩:=rx
  obtain ⟨hy,e'⟩:y.length <= sizeLine /\ k = ((y.length:Int) != 0):=e
  subst e'
  exact PySem.P.truthy_str (by lia) ⟨H,I.tok _,q⟩
 | byt y=>
  obtain ⟨t,rfl⟩:=rx
  obtain ⟨hy,e'⟩:y.size <= sizeLine /\ k = ((y.size:Int) != 0):=e
  subst e'
  exact W.truthy_bytes (by lia) ⟨H,I.tok _,q⟩
 | ref p=>
  cases rx
  have e':(∃ xs,SqL X.K H p xs /\ k = !xs.isEmpty) \/ (∃ xs,SqT X.K H p xs /\ k = !xs.isEmpty) \/ ∃ kvs,H p = some (.dK kvs) /\ k = !kvs.isEmpty:=e
  rcases e' with ⟨xs,hx,e'⟩ | ⟨xs,hx,e'⟩ | ⟨kvs,hx,e'⟩
  ·subst e'
   obtain ⟨its,r,pl,hz⟩:=I.list hx
   have hlen:=r.length
   exact wpAny_truthy_list pl.isList (by simp only [OK];lia) ⟨H,I.tok _,by rw [sr r];exact q⟩
  ·subst e'
   obtain ⟨its,r,pl,hz⟩:=I.tuple hx
   have hlen:=r.length
   exact truthy_tuple pl (by simp only [OK];lia) ⟨H,I.tok _,by rw [sr r];exact q⟩
  ·subst e'
   obtain ⟨hz,hS,vs,r,m⟩:kvs.length <= sizeLine /\ (p == sysModules) = false /\ ∃ vs,KV kvs vs /\ s.heap.DictOf (bp X.prog X.w) p vs:=I.hok p _ hx
   have hlen:kvs.length = vs.length:=PL r
   exact wpAny_truthy_dict hS m (by lia) ⟨H,I.tok _,by rw [AA r];exact q⟩
 | _=>exact (show False from e).elim
theorem gG (ha:PE X a ta) (he:∀ whole,isTrue a X.env whole = (do let v ← whole;standAt a.pos;holding [v] (truthy v))) :
  PT X a (fun σ H Q=>ta σ H fun x H'=>∃ k,D4 X.K x H' k /\ Q k H'):=by
 intro pins s σ H Q I h
 exact isTrue_plain (thn (ha pins s σ H _ I h) fun v s1 ⟨x,H1,I1,r1,q1⟩=>Kd pins s1 σ H1 x v Q I1 r1 q1) (he _)
theorem AU:OpR X (binaryOp .Add) (fun x y H Q=>∃ i j,x = .str i /\ y = .str j /\ i.length + j.length <= sizeLine /\ Q (.str (i ++ j)) H):=by
 intro pins s σ H x y v u Q I rx ry h
 obtain ⟨i,j,rfl,rfl,hz,q⟩:=h
 obtain ⟨t,rfl⟩:=rx
 obtain ⟨t',rfl⟩:=ry
 exact add_str (fun t' tk=>⟨.str (i ++ j),H,I.tok _,⟨_,rfl⟩,q⟩) hz
theorem Cq {x:V} {us:List Value} (r:Vals [x] us):∃ u,us = [u] /\ RelV x u:=by
 cases r with
 | cons r1 r2=>cases r2;exact ⟨_,rfl,r1⟩
theorem LF {x y:V} {us:List Value} (r:Vals [x,y] us):∃ u w',us = [u,w'] /\ RelV x u /\ RelV y w':=by
 cases r with
 | cons r1 r2=>
  cases r2 with
  | cons r3 r4=>cases r4;exact ⟨_,_,rfl,r1,r3⟩
theorem CI (hc:X.calm = true):CallR X (.builtin "max") (fun xs H Q=>∃ i j,xs = [.int i,.int j] /\ Q (.int (if j > i then j else i)) H):=by
 intro pins s σ H xs us Q I r h
 obtain ⟨i,j,rfl,q⟩:=h
 obtain ⟨u,w',rfl,⟨t,rfl⟩,⟨t',rfl⟩⟩:=LF r
 refine max_two_ints (I.ok.hd hc) fun h' tk k=>⟨_,H,I.kept k,?_,q⟩
 by_cases hj:j > i
 ·rw [Oj hj,Oj hj];exact ⟨_,rfl⟩
 ·rw [Oi hj,Oi hj];exact ⟨_,rfl⟩
theorem CH:CallR X (.type "int") (fun xs H Q=>(∃ i,xs = [.int i] /\ Q (.int i) H) \/ ∃ k,xs = [.bl k] /\ Q (.int (if k then 1 else 0)) H):=by
 intro pins s σ H xs us Q I r h
 rcases h with ⟨i,rfl,q⟩ | ⟨k,rfl,q⟩
 ·obtain ⟨u,rfl,t,rfl⟩:=Cq r
  exact call_int_int ⟨.int i,H,I,⟨_,rfl⟩,q⟩
 ·obtain ⟨u,rfl,r1⟩:=Cq r
  cases r1
  exact call_int_bool ⟨.int (if k then 1 else 0),H,I.tok _,⟨_,rfl⟩,q⟩
def Ko (K:W.Frag) (x:V) (H:Hp) (n:Nat):Prop:=
 match x with
 | .str y=>y.length <= sizeLine /\ n = y.length
 | .byt y=>y.size <= sizeLine /\ n = y.size
 | .ref p=>(∃ xs,SqL K H p xs /\ n = xs.length) \/ ∃ xs,SqT K H p xs /\ n = xs.length
 | _=>False
theorem Eb:CallR X (.builtin "len") (fun xs H Q=>∃ x n,xs = [x] /\ Ko X.K x H n /\ Q (.int n) H):=by
 intro pins s σ H xs us Q I r h
 obtain ⟨x,n,rfl,e,q⟩:=h
 obtain ⟨u,rfl,rx⟩:=Cq r
 have hl:=oM
 have hs:sizeLine = 16777216:=OJ
 cases x with
 | str y=>
  obtain ⟨t,rfl⟩:=rx
  obtain ⟨hy,e'⟩:y.length <= sizeLine /\ n = y.length:=e
  subst e'
  exact len_str (by lia) ⟨.int _,H,I.tok _,⟨_,rfl⟩,q⟩
 | byt y=>
  obtain ⟨t,rfl⟩:=rx
  obtain ⟨hy,e'⟩:y.size <= sizeLine /\ n = y.size:=e
  subst e'
  exact W.len_bytes (by lia) ⟨.int _,H,I.tok _,⟨_,rfl⟩,q⟩
 | ref p=>
  cases rx
  have e':(∃ xs,SqL X.K H p xs /\ n = xs.length) \/ ∃ xs,SqT X.K H p xs /\ n = xs.length:=e
  rcases e' with ⟨xs,hx,e'⟩ | ⟨xs,hx,e'⟩
  ·subst e'
   obtain ⟨its,r',pl,hz⟩:=I.list hx
   have hlen:=r'.length
   exact Calls.call_len_list pl.isList (by simp only [OK];lia) ⟨.int xs.length,H,I.tok _,⟨_,by simp only [OK];rw [hlen]⟩,q⟩
  ·subst e'
   obtain ⟨its,r',pl,hz⟩:=I.tuple hx
   have hlen:=r'.length
   exact len_tuple pl (by simp only [OK];lia) ⟨.int xs.length,H,I.tok _,⟨_,by simp only [OK];rw [hlen]⟩,q⟩
 | _=>exact (show False from e).elim
end
structure ObjM (h:Heap) (x dx C:Addr) (mA:Str -> Option Value):Prop where
 obj:h.get? x = some (W.instObj C dx)
 ns:h.Ns1 dx mA
 ne:dx ≠ x
theorem Db {h:Heap} {dx:Addr} {mA:Str -> Option Value} (n:h.Ns1 dx mA):∃ od,h.get? dx = some od /\ ∀ name,W.lookIn name od = some (mA name):=by
 obtain ⟨o,es,ep,ho,hd,hk,_,hm⟩:=n
 refine ⟨o,ho,fun name=>?_⟩
 have e:=hm name
 unfold nsFind findBy at e
 rw [<- Array.find?_toList] at e
 unfold W.lookIn
 rw [hd]
 dsimp only
 split
 ·rename_i y q
  rw [q] at e
  exact OG some e
 ·rename_i q
  rw [q] at e
  have a:es.toList.any (·.refKey) = false:=by
   rw [List.any_eq_false]
   intro y hy
   obtain ⟨z,t,hkey⟩:=hk y (Array.mem_toList_iff.mp hy)
   simp [DictEntry.refKey,hkey]
  have a':¬ es.toList.any (·.refKey) = true:=by rw [a];exact Ph
  rw [Oi a']
  exact OG some e
theorem ObjM.look {h:Heap} {x dx C:Addr} {mA:Str -> Option Value} (I:ObjM h x dx C mA):∃ od,W.InstAt h x (W.instObj C dx) C (some od) /\ ∀ name,W.lookIn name od = some (mA name):=
 let ⟨od,ho,hl⟩:=Db I.ns
 ⟨od,⟨I.obj,rfl,rfl,ho⟩,hl⟩
section
variable {prog:Program} {w:World} {A:Around} {E:Value -> Shared -> Prop} {s:Shared} {K:W.Frag} {x dx C f:Addr} {mA:Str -> Option Value} {name:Str} {v:Value}
end
section
variable {P:Program} {w:World} {H H':Hp} {h h':Heap} {a C dx:Addr} {fs fs':List (Str × V)}
theorem G8 (hok:HOk P w H h) (e:H a = some (.ins C dx fs)):∃ mA,ObjM h a dx C mA /\ (∀ f,RelO (fs.lookup f) (mA f)) /\ PySem.Within mA (fs.map (·.1)) /\ fs.length <= 1000 /\ H dx = some (.own a):=by
 obtain ⟨d,z,ne,ob,mA,n,r,q⟩:=(show ObjOk P w H h a (.ins C dx fs) from hok a _ e)
 exact ⟨mA,⟨ob,n,ne⟩,r,q,z,d⟩
end
structure Cls (K:W.Frag) (C:Addr):Prop where
 pg:W.plainGet K C Str.empty = true
 hd:W.hasDictIn K C = true
 po:W.plainOver K C = true
 sa:W.findIn K (.ref C) "__setattr__" = some (some (.builtin "object.__setattr__"))
theorem Cls.get {K:W.Frag} {C:Addr} (c:Cls K C) (f:Str):W.plainGet K C f = true:=c.pg
section
variable {X:Cx} {pins:List (Addr × Obj)} {σ:St} {H:Hp} {s:Shared} {a C dx:Addr} {fs:List (Str × V)} {f:Str} {v:V} {A:Around} {E:Value -> Shared -> Prop}
end
section
variable {X:Cx} {o e value:Expr} {f:Str} {pos pos' tpos:Pos} {ta tv:TE}
end
section
variable {X:Cx} {pins:List (Addr × Obj)} {σ:St} {H:Hp} {s:Shared} {A:Around} {E:Value -> Shared -> Prop} {Q:Value -> Shared -> Prop} {c:Value} {b:Bool}
inductive TyOf (K:W.Frag) (H:Hp):V -> Value -> Prop where
 | non:TyOf K H .non (.type "NoneType")
 | bl (x:Bool):TyOf K H (.bl x) (.type "bool")
 | int (i:Int):TyOf K H (.int i) (.type "int")
 | str (x:Str):TyOf K H (.str x) (.type "str")
 | flt (x:UInt64):TyOf K H (.flt x) (.type "float")
 | lst {a:Addr} {xs:List V} (e:H a = some (.lst xs)):TyOf K H (.ref a) (.type "list")
 | frz {a:Addr} {o:Obj} {xs:List V} (e:H a = some (.frz o (.lst xs))):TyOf K H (.ref a) (.type "list")
 | tup {a:Addr} {xs:List V} (e:H a = some (.tup xs)):TyOf K H (.ref a) (.type "tuple")
 | dK {a:Addr} {kvs:List (Key × V)} (e:H a = some (.dK kvs)):TyOf K H (.ref a) (.type "dict")
 | dT {a:Addr} {kvs:List (List Key × V)} (e:H a = some (.dT kvs)):TyOf K H (.ref a) (.type "dict")
 | ins {a C dx:Addr} {fs:List (Str × V)} (e:H a = some (.ins C dx fs)) (cl:Cls K C) (ha:W.findIn K (.ref C) "__class__" = some (some (.builtin "object.__class__")))
   (hn:W.specialIn K (.builtin "object.__class__") "__get__" = some (some (.builtin "getset_descriptor.__get__"))) (htk:W.takesIn K (.builtin "object.__class__") = some true)
   (hm:W.mroIn K C (.type "object") = some true):TyOf K H (.ref a) (.ref C)
theorem k7 {x:V} {u t:Value} (I:Inv X pins σ H s) (rx:RelV x u) (ty:TyOf X.K H x t) (e:W.kitOne X.K t c = some b) (h:∀ tk,Q (.bool b) { s with toks:=tk }) :
  wpAny (model X.prog X.w) A (call (.builtin "isinstance") [u,c]) Q E s:=by
 cases ty with
 | non=>cases (show u = Value.none from rx);exact Pi W.kitx_none I.kIn True.intro e (fun z=>nomatch z) h
 | bl y=>cases (show u = Value.bool y from rx);exact Pi W.kitx_bool I.kIn True.intro e (fun z=>nomatch z) h
 | int i=>obtain ⟨t,q⟩:=(show ∃ t,u = Value.int i t from rx);cases q;exact Pi W.kitx_int I.kIn True.intro e (fun z=>nomatch z) h
 | str y=>obtain ⟨t,q⟩:=(show ∃ t,u = Value.str y t from rx);cases q;exact Pi W.kitx_str I.kIn True.intro e (fun z=>nomatch z) h
 | flt y=>obtain ⟨t,q⟩:=(show ∃ t,u = Value.float y t from rx);cases q;exact Pi W.kitx_float I.kIn True.intro e (fun z=>nomatch z) h
 | @lst a xs ea=>
  cases (show u = Value.ref a from rx)
  obtain ⟨_,_,n,_,h1⟩:=(show ObjOk X.prog X.w H s.heap a (.lst xs) from I.hok a _ ea)
  exact Pi W.kitx_list I.kIn ⟨_,h1,rfl⟩ e (fun z=>nomatch z) h
 | @frz a ob xs ea=>
  cases (show u = Value.ref a from rx)
  obtain ⟨_,_,_,n,_,h1⟩:=(show ObjOk X.prog X.w H s.heap a (.frz ob (.lst xs)) from I.hok a _ ea)
  exact Pi W.kitx_list I.kIn ⟨_,h1,rfl⟩ e (fun z=>nomatch z) h
 | @tup a xs ea=>
  cases (show u = Value.ref a from rx)
  obtain ⟨_,_,_,p⟩:=(show ObjOk X.prog X.w H s.heap a (.tup xs) from I.hok a _ ea)
  obtain ⟨o,h1,h2,_⟩:=p
  exact Pi W.kitx_tuple I.kIn ⟨o,h1,h2⟩ e (fun z=>nomatch z) h
 | @dK a kvs ea=>
  cases (show u = Value.ref a from rx)
  obtain ⟨_,_,vs,_,p⟩:=(show ObjOk X.prog X.w H s.heap a (.dK kvs) from I.hok a _ ea)
  obtain ⟨o,es,ep,h1,h2,_⟩:=p
  exact Pi W.kitx_dict I.kIn ⟨o,h1,h2.1⟩ e (fun z=>nomatch z) h
 | @dT a kvs ea=>
  cases (show u = Value.ref a from rx)
  obtain ⟨_,_,xs,_,o,es,ep,h1,h2,_⟩:=(show ObjOk X.prog X.w H s.heap a (.dT kvs) from I.hok a _ ea)
  exact Pi W.kitx_dict I.kIn ⟨o,h1,h2.1⟩ e (fun z=>nomatch z) h
 | @ins a C dx fs ea cl ha hn htk hm=>
  cases (show u = Value.ref a from rx)
  obtain ⟨mA,O,_⟩:=G8 I.hok ea
  obtain ⟨od,J,_⟩:=O.look
  exact Pi (W.kitx_own (cl.get _) cl.hd ha hn htk hm) I.kIn J e (fun z=>nomatch z) h
end
structure Room (k:Nat) (A:Around):Prop where
 hd:A.handled = none
 dp:A.depth + 3 * k + 5 < recursionLimit
 un:A.units + 16 * k + 200 < cLine
theorem Room.mono {j k:Nat} {A:Around} (r:Room k A) (h:j <= k):Room j A:=⟨r.hd,by have:=r.dp;lia,by have:=r.un;lia⟩
theorem Room.deeper {k:Nat} {A:Around} (r:Room (k + 1) A) (env:Env):Room k (A.deeper env):=
 ⟨r.hd,by have:=r.dp;show A.depth + 1 + 3 * k + 5 < _;lia,by have:=r.un;show A.units + 3 + 16 * k + 200 < _;lia⟩
theorem Room.depth {k:Nat} {A:Around} (r:Room k A):A.depth < recursionLimit:=by have:=r.dp;lia
theorem Room.units {k:Nat} {A:Around} (r:Room k A):A.units + 64 < cLine:=by have:=r.un;lia
noncomputable def nP:TA:=fun _ H Q=>Q [] H
noncomputable def eK (ta:TE) (tr:TA):TA:=fun σ H Q=>ta σ H fun x H1=>tr σ H1 fun xs H2=>Q (x :: xs) H2
section
variable {X:Cx} {e:Expr} {es:List Expr} {te:TE} {t:TA} {pos:Pos}
theorem ai:PA X [] nP:=fun _ _ _ _ H Q I h=>Calls.spliced_nil ⟨[],H,I,.nil,h⟩
theorem ab (ha:PE X e te) (hr:PA X es t) (hs:starEach (e :: es) X.env = (false,eval e X.env) :: starEach es X.env:=by rfl):PA X (e :: es) (eK te t):=by
 intro pos pins s σ H Q I h
 rw [hs]
 show wpAny _ _ (spliced ((false,eval e X.env) :: backTo pos (starEach es X.env))) _ _ s
 refine Calls.spliced_cons (thn (ha pins s σ H _ I h) fun u s1 hpt9=>?_)
 obtain ⟨x,H1,I1,r1,q1⟩:=hpt9
 exact thn (hr pos pins s1 σ H1 _ I1 q1) fun us s2 ⟨xs,H2,I2,r2,q2⟩=>⟨x :: xs,H2,I2,.cons r1 r2,q2⟩
noncomputable def HW (t:TA):TE:=fun σ H Q=>t σ H fun xs H1=>xs.length <= sizeLine /\ ∀ p,H1 p = none -> Q (.ref p) (upd H1 p (.tup xs))
noncomputable def Kc (t:TA):TE:=fun σ H Q=>t σ H fun xs H1=>xs.length <= sizeLine /\ ∀ p,H1 p = none -> Q (.ref p) (upd H1 p (.lst xs))
theorem aR {x1} (h:PA X es t):PE X (.Tuple es x1 pos) (HW t):=by
 intro pins s σ H Q I hq
 refine wpAny_Tuple_spliced (thn (h pos pins s σ H _ I hq) fun us s1 ⟨xs,H1,I1,r,z,q⟩=>⟨by rw [<- r.length];exact z,?_⟩)
 have hf:H1 s1.heap.objs.size = none:=I1.hok.fresh (Op _)
 refine ⟨.ref s1.heap.objs.size,upd H1 s1.heap.objs.size (.tup xs),I1.laid (t':=s1.toks) (fun b u e=>OA _ e) (Op _) ?_,rfl,q _ hf⟩
 exact ⟨z,us,r,⟨_,OO _ rfl,rfl,_,rfl⟩⟩
theorem dA (h:PA X es t):PE X (.List es pos) (Kc t):=by
 intro pins s σ H Q I hq
 refine wpAny_List_spliced (thn (h pos pins s σ H _ I hq) fun us s1 ⟨xs,H1,I1,r,z,q⟩=>⟨by rw [<- r.length];exact z,?_⟩)
 have hf:H1 s1.heap.objs.size = none:=I1.hok.fresh (Op _)
 refine ⟨.ref s1.heap.objs.size,upd H1 s1.heap.objs.size (.lst xs),I1.laid (t':=s1.toks) (fun b u e=>OA _ e) (Op _) ?_,rfl,q _ hf⟩
 exact ⟨z,us,0,r,OO _ rfl⟩
end
noncomputable abbrev Sp:=List V -> Hp -> VK -> XK -> Prop
noncomputable abbrev CXT:=List Env -> Hp -> Shared -> XK -> Value -> Shared -> Prop
structure Env0 (P:Program) (w:World) (K:W.Frag) (mg:Str -> Option Value) (base:Heap) (A:Around) (outer:List Env) (s:Shared) (H:Hp):Prop where
 frames:A.frames = some outer
 mod:Mod K mg base
 bs:∀ b o,base.get? b = some o -> s.heap.get? b = some o /\ H b = none
 bsz:base.objs.size <= s.heap.objs.size
 funs:s.heap.FunFrames base outer
 frf:∀ b ∈ frs outer,H b = none
 hok:HOk P w H s.heap
 bare:AllBare s.gens
def CE (outer:List Env) (P:Program) (w:World) (H:Hp) (s:Shared) (Q:VK) (u:Value) (s':Shared):Prop:=
 ∃ v H',s'.os = s.os /\ AllBare s'.gens /\ Un (frs outer) [] H H' s.heap s'.heap /\ HOk P w H' s'.heap /\ RelV v u /\ Q v H'
def CR (CX:CXT) (outer:List Env) (P:Program) (w:World) (H:Hp) (s:Shared) (Q:VK) (E:XK) (r:Result) (s':Shared):Prop:=
 match r with
 | .ok (.ret u)=>CE outer P w H s Q u s'
 | .ok _=>False
 | .error e=>CX outer H s E e s'
structure FnOk (P:Program) (w:World) (K:W.Frag) (mg:Str -> Option Value) (base:Heap) (CX:CXT) (k:Nat) (f:Addr) (fd:FuncData) (ps:List Str) (sp:Sp):Prop where
 len:∀ vs H Q E,sp vs H Q E -> vs.length = ps.length
 run:∀ (A:Around) (outer:List Env) (s:Shared) (H:Hp) (args:Args) (us:List Value) (vs:List V) (Q:VK) (E:XK),Room k A -> Env0 P w K mg base A outer s H -> BindsTo s fd args (ps.zip us) -> Vals vs us -> sp vs H Q E ->
  codeAny (model P w) A (.call (.ref f) args) (CR CX outer P w H s Q E) s
section
variable {X:Cx} {pins:List (Addr × Obj)} {σ:St} {H:Hp} {s s':Shared}
theorem Inv.env0 (I:Inv X pins σ H s):Env0 X.prog X.w X.K X.mg X.base X.A X.stack s H:=
 ⟨I.ok.frames,I.ok.mod,I.bs,OD I.ok.bsz I.sz,I.stack,I.stkFree,I.hok,I.bare⟩
theorem Inv.after {Q:VK} {u:Value} (I:Inv X pins σ H s) (h:CE X.stack X.prog X.w H s Q u s'):EP X pins σ Q u s':=by
 obtain ⟨v,H',os,bare,un,hok,r,q⟩:=h
 obtain ⟨hh,g,d,t,os'⟩:=s'
 obtain rfl:os' = s.os:=os
 exact ⟨v,H',I.call (h':=hh) (g':=g) (d':=d) (t':=t) (ch:=[]) un hok bare (fun b z=>absurd z (by simp)),r,q⟩
end
noncomputable def zF (sp:Sp) (dvs:List V) (E:XK) (t:TA):TE:=fun σ H Q=>t σ H fun vs H1=>sp (vs ++ dvs) H1 Q E
def Binds (K:W.Frag) (fd:FuncData) (ps:List Str) (ds:List Value):Prop:=
 ∀ (s:Shared) (us:List Value),K.In s.heap -> (us ++ ds).length = ps.length -> BindsTo s fd ⟨us,[]⟩ (ps.zip (us ++ ds))
theorem Binds.all {K:W.Frag} {fd:FuncData} {ps:List Str} (h:∀ us:List Value,us.length = ps.length -> bindArgs fd ⟨us,[]⟩ = pure (ps.zip us)):Binds K fd ps []:=fun s us _ hl=>by
 rw [OZ] at hl ⊢
 exact .of_eq (h us hl)
def zW (CX:CXT) (X:Cx) (E:XK):Prop:=∀ (pins:List (Addr × Obj)) (σ:St) (H:Hp) (s:Shared) (e:Value) (s':Shared),Inv X pins σ H s -> CX X.stack H s E e s' -> X.xe e s'
section
variable {X:Cx} {CX:CXT} {k:Nat} {f C:Addr} {fd:FuncData} {ps:List Str} {sp:Sp} {dvs:List V} {ds:List Value} {E:XK} {x m:Str} {p pos apos:Pos} {e o:Expr} {es:List Expr} {ta:TE} {t:TA}
theorem JQ {pins:List (Addr × Obj)} {σ:St} {H:Hp} {s:Shared} {Q:VK} {us:List Value} {vs:List V} (F:FnOk X.prog X.w X.K X.mg X.base CX k f fd ps sp) (hr:Room k X.A) (hb:Binds X.K fd ps ds) (hd:Vals dvs ds) (hx:zW CX X E)
  (I:Inv X pins σ H s) (r:Vals vs us) (h:sp (vs ++ dvs) H Q E):wpAny (model X.prog X.w) X.A (call (.ref f) us) (EP X pins σ Q) X.xe s:=by
 have r2:Vals (vs ++ dvs) (us ++ ds):=r.append hd
 have hl:(us ++ ds).length = ps.length:=by rw [<- r2.length];exact F.len _ _ _ _ h
 refine wpAny_call (QU (F.run X.A X.stack s H ⟨us,[]⟩ (us ++ ds) (vs ++ dvs) Q E hr I.env0 (hb s us I.kIn hl) r2 h) fun r s' hq=>?_)
 cases r with
 | error e=>exact hx pins σ H s e s' I hq
 | ok fl=>
  cases fl with
  | ret u=>exact I.after hq
  | next=>exact False.elim hq
  | brk=>exact False.elim hq
  | cont=>exact False.elim hq
theorem bm (F:FnOk X.prog X.w X.K X.mg X.base CX k f fd ps sp) (hr:Room k X.A) (hg:Gl X x) (hm:X.mg x = some (.ref f)) (hk:W.keepIn X.K (.ref f) = true) (hb:Binds X.K fd ps ds) (hd:Vals dvs ds) (hx:zW CX X E)
  (ha:PA X (e :: es) t) (hdb:(x == ("__debug__" : Str)) = false:=by decide) (he:starEach (e :: es) X.env = (false,eval e X.env) :: starEach es X.env:=by rfl) (hpl:(backTo pos (starEach es X.env)).any (·.1) = false:=by rfl) :
  PE X (.Call (.Name x p) (e :: es) [] pos) (zF sp dvs E t):=by
 intro pins s σ H Q I h
 refine QV (BV I hg hm ?_ hdb)
 refine W.callWith_K (h₀:=X.base) I.ok.mod.kin hk (thn (ha pos pins s σ H _ I h) fun us s1 ⟨vs,H1,I1,r,q⟩=>⟨I1.kIn,?_⟩) he hpl
 exact JQ F hr hb hd hx I1 r q
end
section
variable {X:Cx} {CX:CXT} {k:Nat} {f C:Addr} {fd:FuncData} {ps ks:List Str} {sp:Sp} {E:XK} {x m:Str} {p pos apos kpos:Pos} {e o:Expr} {es:List Expr} {kws:List Keyword} {te ta:TE} {t tk:TA} {nm:Option Str}
variable {g:List Value -> List Value -> List Value} {gV:List V -> List V -> List V}
end
structure FnScope (N P:List Str) (sc:Scope):Prop where
 kind:sc.kind = .function
 co:sc.isCoroutine = false
 gen:sc.isGenerator = false
 nd:N.Nodup
 pre:N.take P.length = P
 par:∀ x ∈ P,sc.names.lookup x = some .local \/ sc.names.lookup x = some .cell
 nofree:∀ y ∈ sc.names,y.2 ≠ .free
theorem uR {kindOf:Str -> Option NameKind} {x:Str}:∀ {binds:List (Str × Value)} {m:Str -> Option Value},(∀ v,(x,v) ∉ binds) -> bindL kindOf binds m x = m x
 | [],_,_=>rfl
 | (n,v) :: r,m,h=>by
  unfold bindL
  rw [uR fun w hw=>h w (Ou _ hw)]
  split
  ·have:x ≠ n:=by rintro rfl;exact h v Oq
   simp [this]
  ·rfl
theorem uP {kindOf:Str -> Option NameKind} {x:Str}:∀ {binds:List (Str × Value)} {m:Str -> Option Value},(∀ v,(x,v) ∉ binds) -> bindC kindOf binds m x = m x
 | [],_,_=>rfl
 | (n,v) :: r,m,h=>by
  unfold bindC
  rw [uP fun w hw=>h w (Ou _ hw)]
  split
  ·rfl
  ·have:x ≠ n:=by rintro rfl;exact h v Oq
   simp [this]
theorem uQ {kindOf:Str -> Option NameKind} {x:Str} {v:Value}:∀ {P:List Str} {vs:List Value} {i:Nat} {m:Str -> Option Value},P.Nodup -> P[i]? = some x -> vs[i]? = some v -> kindOf x = some .local ->
  bindL kindOf (P.zip vs) m x = some v
 | [],_,_,_,_,h,_,_=>by simp at h
 | _ :: _,[],_,_,_,_,h,_=>by simp at h
 | p :: P,w :: vs,0,m,nd,h1,h2,hk=>by
  simp at h1 h2;subst h1;subst h2
  show bindL kindOf ((p,w) :: P.zip vs) m p = _
  unfold bindL
  rw [uR fun v hv=>(OL.mp nd).1 (List.of_mem_zip hv).1,Oj hk]
  simp
 | p :: P,w :: vs,i + 1,m,nd,h1,h2,hk=>by
  show bindL kindOf ((p,w) :: P.zip vs) m x = _
  unfold bindL
  exact uQ (i:=i) (OL.mp nd).2 (by simpa using h1) (by simpa using h2) hk
theorem uO {kindOf:Str -> Option NameKind} {x:Str} {v:Value}:∀ {P:List Str} {vs:List Value} {i:Nat} {m:Str -> Option Value},P.Nodup -> P[i]? = some x -> vs[i]? = some v -> kindOf x ≠ some .local ->
  bindC kindOf (P.zip vs) m x = some v
 | [],_,_,_,_,h,_,_=>by simp at h
 | _ :: _,[],_,_,_,_,h,_=>by simp at h
 | p :: P,w :: vs,0,m,nd,h1,h2,hk=>by
  simp at h1 h2;subst h1;subst h2
  show bindC kindOf ((p,w) :: P.zip vs) m p = _
  unfold bindC
  rw [uP fun v hv=>(OL.mp nd).1 (List.of_mem_zip hv).1,Oi hk]
  simp
 | p :: P,w :: vs,i + 1,m,nd,h1,h2,hk=>by
  show bindC kindOf ((p,w) :: P.zip vs) m x = _
  unfold bindC
  exact uO (i:=i) (OL.mp nd).2 (by simpa using h1) (by simpa using h2) hk
noncomputable def bg (N:List Str) (vs:List V):St:=vs.map some ++ List.replicate (N.length - vs.length) none
noncomputable def Aj (CX:CXT) (P:Program) (w:World) (K:W.Frag) (mg:Str -> Option Value) (base:Heap) (N:List Str) (qual:Str) (scope:Scope) (f:Addr) (cd:Value) (A:Around) (outer:List Env) (s:Shared) (H:Hp) (E:XK):Cx where
 prog:=P
 w:=w
 K:=K
 mg:=mg
 base:=base
 A:=A.deeper (envOfC qual scope s.heap.objs.size f cd)
 N:=N
 s₀:=s
 H₀:=H
 env:=envOfC qual scope s.heap.objs.size f cd
 outer:=outer
 stack:=envOfC qual scope s.heap.objs.size f cd :: outer
 ex:=[]
 calm:=true
 fn:=fun _=>true
 pn:=[]
 xe:=fun e s'=>wpAny (model P w) (A.deeper (envOfC qual scope s.heap.objs.size f cd)) (leaving (envOfC qual scope s.heap.objs.size f cd) e) (fun _ s''=>CX outer H s E e s'') (fun e' s''=>CX outer H s E e' s'') s'
theorem xR {sc:Scope} {n:Nat} {x:Str} (h:sc.names.lookup x = some .cell):∃ c,(cellsFrom n sc.names []).lookup x = some c:=by
 have q:=W.cellsFrom_some sc.names n [] (.inl h)
 exact Rs.mp q
theorem C3 {CX:CXT} {P:Program} {w:World} {K:W.Frag} {mg:Str -> Option Value} {base:Heap} {N ps:List Str} {qual:Str} {scope:Scope} {f:Addr} {cd:Value} {A:Around} {outer:List Env} {s s1:Shared} {H:Hp} {E:XK} {us:List Value} {vs:List V}
  (S:FnScope N ps scope) (hd:A.handled = none) (e0:Env0 P w K mg base A outer s H) (hl:vs.length = ps.length) (r:Vals vs us)
  (x:InCallC s s.heap.objs.size (bindL (envOfC qual scope s.heap.objs.size f cd).kindOf (ps.zip us) fun _=>none) (cellsFrom (s.heap.objs.size + 1) scope.names []) (bindC (envOfC qual scope s.heap.objs.size f cd).kindOf (ps.zip us) fun _=>none) s1) :
  Inv (Aj CX P w K mg base N qual scope f cd A outer s H E) [] (bg N vs) H s1:=by
 have hpl:ps.length <= N.length:=by have:=OG List.length S.pre;rw [P6] at this;lia
 obtain ⟨h1,tk,rfl,hk⟩:=x.done
 have noA:∀ b:Addr,b ∉ (Aj CX P w K mg base N qual scope f cd A outer s H E).ex:=fun b z=>absurd (show b ∈ ([]:List Addr) from z) (by simp)
 refine ⟨⟨e0.mod,S.kind,rfl,rfl,Op _,fun y z c h1 h2=>?_,fun y hy=>?_,fun y c _ h=>?_,fun _=>hd,Around.frames_deeper e0.frames,.inr ⟨rfl,rfl⟩,fun b z=>absurd z (noA b),e0.bs,e0.bsz,fun b _ _=>noA b,fun b z=>absurd z (noA b),e0.funs,e0.frf⟩,
  rfl,e0.bare,Un.kept hk,⟨_,x.toInCall.ns,fun i y v h1 h2 h3=>?_⟩,fun y c h=>⟨_,x.cell y c h⟩,e0.hok.fresh (Op _),fun y c h=>?_,fun p hp=>absurd (show p ∈ ([]:List (Addr × Obj)) from hp) (by simp),e0.hok.kept hk,?_⟩
 ·exact name_of_addr x.apart (Qx h1) (Qx h2)
 ·have hy:scope.names.lookup y = some .cell \/ scope.names.lookup y = some .free:=hy
  rcases hy with hy | hy
  ·exact xR hy
  ·exact absurd rfl (S.nofree _ (Qx hy))
 ·exact O4 (x.above y c (Qx h))
 ·have hi:i < vs.length:=by
   unfold bg at h2
   by_cases hi:i < vs.length
   ·exact hi
   ·rw [Qm (by simpa using hi)] at h2
    rw [RQ] at h2
    split at h2 <;> cases h2
  have ha:vs[i]? = some v:=by
   unfold bg at h2
   rw [Qn (by simpa using hi),OU] at h2
   cases e:vs[i]? with
   | none=>rw [e] at h2;cases h2
   | some a=>rw [e] at h2;cases h2;rfl
  obtain ⟨u,hu,rv⟩:=r.get ha
  have hp:ps[i]? = some y:=by
   rw [<- S.pre,List.getElem?_take_of_lt (by lia)];exact h1
  have ndP:ps.Nodup:=by rw [<- S.pre];exact S.nd.sublist (List.take_sublist _ _)
  refine ⟨u,rv,?_⟩
  rcases S.par y (QW hp) with k | k
  ·exact .inl ⟨k,uQ ndP hp hu k⟩
  ·obtain ⟨c,e⟩:=xR (n:=s.heap.objs.size + 1) k
   refine .inr ⟨.inl k,c,e,?_⟩
   have q:=x.cell y c e
   rw [uO ndP hp hu (by show scope.names.lookup y ≠ _;rw [k];decide)] at q
   exact q
 ·exact e0.hok.fresh (O4 (x.above y c (Qx h)))
 ·unfold bg
  show _ = N.length
  rw [Ov,Os,Rt]
  lia
theorem Ig {CX:CXT} {P:Program} {w:World} {K:W.Frag} {mg:Str -> Option Value} {base:Heap} {k:Nat} {f:Addr} {name qual:Str} {params:Arguments} {body:List Stmt} {scope:Scope} {dV kV doc pm cdv ct oc:Value} {an od:Option Addr}
  {osl:Array (Option Value)} {N ps:List Str} {sp:Sp} (lk:K.lookup f = some ⟨oc,od,.func (W.fnOf name qual params body scope dV kV doc pm an cdv ct),osl⟩) (hcd:W.codeIn K cdv qual = true) (S:FnScope N ps scope)
  (len:∀ vs H Q E,sp vs H Q E -> vs.length = ps.length)
  (hbody:∀ (A:Around) (outer:List Env) (s:Shared) (H:Hp) (vs:List V) (Q:VK) (E:XK),Room k (A.deeper (envOfC qual scope s.heap.objs.size f cdv)) -> sp vs H Q E ->
   ∃ t,PSs (Aj CX P w K mg base N qual scope f cdv A outer s H E) body t /\ t { nx:=fun _ H'=>Q .non H',rt:=Q } (bg N vs) H) :
  FnOk P w K mg base CX (k + 1) f (W.fnOf name qual params body scope dV kV doc pm an cdv ct) ps sp:=by
 refine ⟨len,fun A outer s H args us vs Q E hr e0 hb r hsp=>?_⟩
 have hl:=len _ _ _ _ hsp
 have KX:K.In s.heap:=e0.mod.kin.keeps fun b o e=>(e0.bs b o e).1
 have lim:s.heap.NoLimit:=e0.mod.nolimit.keeps fun b o e=>(e0.bs b o e).1
 have hkind:∀ y ∈ ps.zip us,scope.names.lookup y.1 = some .local \/ (scope.names.lookup y.1 = some .cell /\ ((cellsFrom (s.heap.objs.size + 1) scope.names []).lookup y.1).isSome = true):=fun hpt0 hy=>by
  obtain ⟨n,v⟩:=hpt0
  rcases S.par n (List.of_mem_zip hy).1 with q | q
  ·exact .inl q
  ·exact .inr ⟨q,W.cellsFrom_some _ _ _ (.inl q)⟩
 refine codeAny_call_function hr.depth (KX _ _ lk) rfl S.co S.gen rfl (W.codeRec_of KX hcd) (hb _ _ _ _ ?_)
 refine wpAny_newFunctionEnv_cells S.kind hkind fun env he s1 x=>?_
 subst he
 refine ⟨lim.keeps x.toInCall.keep,codeAny_func ?_⟩
 obtain ⟨t,ht,hq⟩:=hbody A outer s H vs Q E (hr.deeper _) hsp
 have I:Inv (Aj CX P w K mg base N qual scope f cdv A outer s H E) [] (bg N vs) H s1:=C3 S hr.hd e0 hl r x
 refine PD (ht [] s1 (bg N vs) H _ I hq) (fun fl s' hs=>?_) fun e s' hs=>hs
 have fin:∀ {σ':St} {H':Hp} {v:V} {u:Value},Inv (Aj CX P w K mg base N qual scope f cdv A outer s H E) [] σ' H' s' -> RelV v u -> Q v H' -> CE outer P w H s Q u s':=
  fun {σ' H' v u} J rv q=>⟨v,H',J.os,J.bare,J.base,J.hok,rv,q⟩
 cases fl with
 | ret u=>
  obtain ⟨v,σ',H',J,rv,q⟩:=hs
  exact fin J rv q
 | next=>
  obtain ⟨σ',H',J,q⟩:=hs
  exact fin (v:=V.non) (u:=Value.none) J rfl q
 | brk=>
  obtain ⟨_,_,_,q⟩:=hs
  exact False.elim q
 | cont=>
  obtain ⟨_,_,_,q⟩:=hs
  exact False.elim q
section
variable {X:Cx} {x:Str} {p pos:Pos} {e:Expr} {es:List Expr} {t:TA} {id T:String} {r:List V -> Hp -> VK -> Prop}
noncomputable def tCB (r:List V -> Hp -> VK -> Prop) (t:TA):TE:=fun σ H Q=>t σ H fun vs H1=>r vs H1 Q
theorem bf (hc:CallR X (.builtin id) r) (hg:Gl X x) (hm:X.mg x = none) (hv:bootBuiltins x = some (.builtin id)) (ha:PA X (e :: es) t) (hn:x ≠ "__name__" := by decide) (hdb:(x == ("__debug__" : Str)) = false:=by decide)
  (he:starEach (e :: es) X.env = (false,eval e X.env) :: starEach es X.env:=by rfl) (hpl:(backTo pos (starEach es X.env)).any (·.1) = false:=by rfl):PE X (.Call (.Name x p) (e :: es) [] pos) (tCB r t):=by
 intro pins s σ H Q I h
 refine QV (mG I hg hm hv ?_ hn hdb)
 exact PyProof.Rows.callWith_builtin1 (thn (ha pos pins s σ H _ I h) fun us s1 ⟨vs,H1,I1,r1,q1⟩=>hc pins s1 σ H1 vs us Q I1 r1 q1) he hpl
theorem eV (hc:CallR X (.type T) r) (hg:Gl X x) (hm:X.mg x = none) (hv:bootBuiltins x = some (.type T)) (ha:PA X (e :: es) t) (hn:x ≠ "__name__" := by decide) (hdb:(x == ("__debug__" : Str)) = false:=by decide)
  (he:starEach (e :: es) X.env = (false,eval e X.env) :: starEach es X.env:=by rfl) (hpl:(backTo pos (starEach es X.env)).any (·.1) = false:=by rfl):PE X (.Call (.Name x p) (e :: es) [] pos) (tCB r t):=by
 intro pins s σ H Q I h
 refine QV (mG I hg hm hv ?_ hn hdb)
 exact Rq (thn (ha pos pins s σ H _ I h) fun us s1 ⟨vs,H1,I1,r1,q1⟩=>hc pins s1 σ H1 vs us Q I1 r1 q1) he hpl
end
end L2
namespace HT
open PySem PyProof.Rows
noncomputable def cu:List Int -> List Int -> Bool
 | [],[]=>false
 | [],_ :: _=>true
 | _ :: _,[]=>false
 | x :: xs,y :: ys=>if x = y then cu xs ys else decide (x < y)
theorem AG (x y:Int) (xs ys:List Int):cu (x :: xs) (y :: ys) = if x = y then cu xs ys else decide (x < y):=rfl
section
open PySem.SeqAt
open PySem.AutoSeq1 (wpAny_loadPart')
open PySem.MeetsSeq PySem.MeetsSeq2 PySem.MeetsSeq3
end
section
variable {prog:Program} {w:World} {A:Around} {E:Value -> Shared -> Prop} {s:Shared}
theorem GP {t b:Addr} {vs ws:List Value} {Q:Value -> Shared -> Prop} (ht:IsTup s.heap t vs.toArray) (hb:IsTup s.heap b ws.toArray) (hv:vs ≠ [])
  (h1:ws = [] -> Q (.ref t) s) (h2:ws ≠ [] -> Q (.ref s.heap.objs.size) { s with heap:=s.heap.push { cls:=.type "tuple",data:=.seq (vs ++ ws).toArray } })
  (hsz:vs.length + ws.length <= sizeLine):wpAny (model prog w) A (binaryOp .Add (.ref t) (.ref b)) Q E s:=by
 obtain ⟨⟨cls,dd,data,sl⟩,ho,hc,n,hd⟩:=id ht
 obtain ⟨⟨cls2,dd2,data2,sl2⟩,ho2,hc2,n2,hd2⟩:=id hb
 simp only at hc hd hc2 hd2
 subst hc hd hc2 hd2
 have e:vs.toArray ++ ws.toArray = (vs ++ ws).toArray:=by simp
 by_cases hw:ws = []
 ·exact concat_meets ⟨_,ho,rfl⟩ ⟨_,ho2,rfl⟩ noFill_tuple_add seq_tuple_add RS RT (RU _ _)
   (tuple_addW1 t b vs.toArray ws.toArray n n2 dd dd2 sl sl2 (by simpa using hv) (by simp [hw])) ⟨ho,ho2,h1 hw⟩
 ·refine concat_meets ⟨_,ho,rfl⟩ ⟨_,ho2,rfl⟩ noFill_tuple_add seq_tuple_add RS RT (RU _ _)
   (tuple_addW2 t b vs.toArray ws.toArray n n2 dd dd2 sl sl2 (by simpa using hv) (by simpa using hw) (by rw [OK,OK];exact hsz)) ⟨ho,ho2,?_⟩
  rw [e]
  exact h2 hw
noncomputable def sIx (n d:Nat):Option Int -> Nat
 | none=>d
 | some v=>if v < 0 then (v + (n:Int)).toNat else min v.toNat n
theorem JR (n d:Nat) (hd:d <= n) (o:Option Int):sIx n d o <= n:=by
 cases o with
 | none=>exact hd
 | some v=>
  show (if v < 0 then (v + (n:Int)).toNat else min v.toNat n) <= n
  by_cases hv:v < 0
  ·rw [Oj hv];lia
  ·rw [Oi hv];exact Nat.min_le_right _ _
theorem BH (v:Int) (n d:Nat):(if v < 0 then max (v + (n:Int)) 0 else min v (n:Int)) = ((sIx n d (some v):Nat):Int):=by
 show (if v < 0 then max (v + (n:Int)) 0 else min v (n:Int)) = (((if v < 0 then (v + (n:Int)).toNat else min v.toNat n):Nat):Int)
 by_cases hv:v < 0
 ·simp only [Oj hv];lia
 ·simp only [Oi hv];lia
theorem zZ (lo hi:Option Int) (n:Nat):Builtin.Slice.sliceAdjust lo hi 1 (n:Int) = (((sIx n 0 lo:Nat):Int),((sIx n n hi:Nat):Int)):=by
 have h1:¬ ((1:Int) < 0):=by lia
 unfold Builtin.Slice.sliceAdjust
 simp only [h1,P7]
 refine Prod.ext ?_ ?_
 ·cases lo with
  | none=>rfl
  | some v=>exact BH v n 0
 ·cases hi with
  | none=>rfl
  | some v=>exact BH v n n
theorem A0 (i j:Nat):Builtin.Slice.slicePlaces (i:Int) (j:Int) 1 = j - i:=by
 unfold Builtin.Slice.slicePlaces
 have h1:(1:Int) > 0:=by lia
 simp only [h1,if_true,Int.ediv_one]
 split <;> lia
theorem tK {v:Value} {o:Option Int} {Q:Option Int -> Shared -> Prop} (p:IsPart v o) (h:Q o s):wpAny (model prog w) A (Builtin.Slice.slicePartIndex v) Q E s:=by
 cases p with
 | none=>exact slicePart_none h
 | int i t=>exact slicePart_int h
theorem iQ {sl:Addr} {vl vu:Value} {lo hi:Option Int} {n:Nat} {Q:Int × Int × Nat -> Shared -> Prop} (hs:s.heap.IsSliceOf sl vl vu .none) (pl:IsPart vl lo) (pu:IsPart vu hi)
  (h:Q (((sIx n 0 lo:Nat):Int),1,sIx n n hi - sIx n 0 lo) s):wpAny (model prog w) A (Builtin.Slice.sliceApplied (.ref sl) (pure (n:Int))) Q E s:=by
 obtain ⟨os,hos,hcs,hds⟩:=id hs
 unfold Builtin.Slice.sliceApplied Builtin.Slice.sliceFields
 refine Oh (Oh (wpAny_field hos hds (x:=vl) rfl (Oh (wpAny_field hos hds (x:=vu) rfl (Oh (wpAny_field hos hds (x:=.none) rfl (Om ?_)))))))
 refine Oh (slicePart_none ?_)
 show wpAny _ _ (if ((1:Int) == 0) = true then _ else _) _ _ s
 rw [Oi (by decide)]
 refine Oh (tK pl (Oh (tK pu (Oh (Om ?_)))))
 show wpAny _ _ (match Builtin.Slice.sliceAdjust lo hi 1 (n:Int) with | (lo,hi)=>pure (lo,(1:Int),Builtin.Slice.slicePlaces lo hi 1)) _ _ s
 rw [zZ lo hi n]
 show wpAny _ _ (pure (((sIx n 0 lo:Nat):Int),(1:Int),Builtin.Slice.slicePlaces ((sIx n 0 lo:Nat):Int) ((sIx n n hi:Nat):Int) 1)) _ _ s
 rw [A0]
 exact Om h
theorem Fm (xs:Array Value) (i k:Nat):((List.range k).filterMap fun (m:Nat)=>xs[((i:Int) + (m:Int) * 1).toNat]?).toArray = ((xs.toList.drop i).take k).toArray:=by
 have e:(fun (m:Nat)=>xs[((i:Int) + (m:Int) * 1).toNat]?) = fun m=>xs[i + m]?:=by
  funext m
  have:((i:Int) + (m:Int) * 1).toNat = i + m:=by lia
  rw [this]
 rw [e]
 have:=pick_run xs i k
 rw [List.filterMap_map] at this
 have e2:((fun x=>xs[x]?) ∘ fun x=>i + x) = fun m=>xs[i + m]?:=rfl
 rw [e2] at this
 rw [this]
theorem nq {t sl:Addr} {items:Array Value} {vl vu:Value} {lo hi:Option Int} {Q:Value -> Shared -> Prop} (ht:IsTup s.heap t items) (hs:s.heap.IsSliceOf sl vl vu .none) (pl:IsPart vl lo) (pu:IsPart vu hi)
  (hw:¬ (sIx items.size 0 lo = 0 /\ sIx items.size items.size hi = items.size))
  (h:Q (.ref s.heap.objs.size) { s with heap:=s.heap.push { cls:=.type "tuple",data:=.seq ((items.toList.drop (sIx items.size 0 lo)).take (sIx items.size items.size hi - sIx items.size 0 lo)).toArray } })
  (hsz:items.size <= sizeLine):wpAny (model prog w) A (getItem (.ref t) (.ref sl)) Q E s:=by
 have htake:sizeOk (.seq ((items.toList.drop (sIx items.size 0 lo)).take (sIx items.size items.size hi - sIx items.size 0 lo)).toArray):=by
  show ((items.toList.drop (sIx items.size 0 lo)).take (sIx items.size items.size hi - sIx items.size 0 lo)).toArray.size <= sizeLine
  rw [OK,P6,Ru,O0]
  omega
 have hj:sIx items.size items.size hi <= items.size:=JR _ _ (Op _) hi
 obtain ⟨os,hos,hcs,hds⟩:=id hs
 have hTs:s.TypeIs (.ref sl) "slice" := ⟨os,hos,hcs⟩
 unfold getItem
 try with_reducible refine O8 ?_
 first | refine Oh (Om ?_) | skip
 refine Oh (wpAny_sequenceKey ht.typeIs (by decide) ?_)
 refine Oh (Qy (name:=Str.ofString "__getitem__") ht.typeIs Qz
  (Pt Qz ht.typeIs entry_tuple_getitem ?_ (args_tuple_getitem _ _)))
 show wpAny _ _ (Builtin.Tuple.tupleItemsOf (.ref t) >>= _) _ _ s
 refine Oh (tupleItemsOf_ ht ?_)
 refine Oh (PN hTs ?_)
 rw [Oj (by decide)]
 refine Oh (iQ hs pl pu ?_)
 have hno:¬ ((((sIx items.size 0 lo:Nat):Int) == 0 && (1:Int) == 1 && (sIx items.size items.size hi - sIx items.size 0 lo) == items.size) = true):=by
  intro q
  rw [Pu,Pu] at q
  have q1:((sIx items.size 0 lo:Nat):Int) = 0:=eq_of_beq q.1.1
  have q2:sIx items.size items.size hi - sIx items.size 0 lo = items.size:=eq_of_beq q.2
  exact hw ⟨by omega,by omega⟩
 show wpAny _ _ (if (((sIx items.size 0 lo:Nat):Int) == 0 && (1:Int) == 1 && (sIx items.size items.size hi - sIx items.size 0 lo) == items.size) = true then _ else _) _ _ s
 rw [Oi hno,Fm]
 first
  | exact Oh (m:=Builtin.Tuple.tupleExact _) (Pc (Om ⟨_,rfl,Om h⟩) htake)
  | exact Oh (m:=Builtin.Tuple.tupleExact _) (Pc (Oh (Om (Om ⟨_,rfl,Om h⟩))) htake)
  | exact Oh (Oh (m:=Builtin.Tuple.tupleExact _) (Pc (Om (Om ⟨_,rfl,Om h⟩)) htake))
  | exact Oh (Oh (m:=Builtin.Tuple.tupleExact _) (Pc (Om ⟨_,rfl,Om h⟩) htake))
end
end HT
namespace L2
open PySem PySem.Spec PyProof.Rows
noncomputable abbrev TO:=St -> Hp -> (Option Int -> Hp -> Prop) -> Prop
def PO (X:Cx) (e:Option Expr) (t:TO):Prop:=
 ∀ (pins:List (Addr × Obj)) (s:Shared) (σ:St) (H:Hp) (Q:Option Int -> Hp -> Prop),Inv X pins σ H s -> t σ H Q ->
  wpAny (model X.prog X.w) X.A (evalPart e X.env) (fun u s'=>∃ o H',Inv X pins σ H' s' /\ IsPart u o /\ Q o H') X.xe s
noncomputable def IK (t:TE):TO:=fun σ H Q=>t σ H fun x H1=>∃ i,x = .int i /\ Q (some i) H1
theorem mz {ns:List Int}:∀ {us:List Value},Vals (ns.map V.int) us -> IntsAre us ns:=by
 induction ns with
 | nil=>intro us r;rw [PP] at r;cases r;exact .nil
 | cons n ns ih=>
  intro us r
  rw [Ox] at r
  cases r with
  | cons r1 r2=>
   obtain ⟨t,e⟩:=r1
   subst e
   exact .cons n t (ih r2)
section
variable {X:Cx} {e:Expr} {te:TE} {lo hi:Option Expr} {tl th:TO} {pos p2:Pos}
theorem B9 (h:PE X e te):PO X (some e) (IK te):=by
 intro pins s σ H Q I hw
 rw [evalPart_some]
 refine thn (h pins s σ H _ I hw) fun u s1 hpt9=>?_
 obtain ⟨x,H1,I1,r1,q1⟩:=hpt9
 obtain ⟨i,rfl,q⟩:=q1
 obtain ⟨t,rfl⟩:=r1
 exact ⟨some i,H1,I1,.int i t,q⟩
def SlR (X:Cx) (r:V -> Option Int -> Option Int -> Hp -> VK -> Prop):Prop:=
 ∀ (pins:List (Addr × Obj)) (s:Shared) (σ:St) (H:Hp) (x:V) (v vl vu:Value) (lo hi:Option Int) (sl:Addr) (Q:VK),Inv X pins σ H s -> RelV x v -> s.heap.IsSliceOf sl vl vu .none -> IsPart vl lo -> IsPart vu hi -> r x lo hi H Q ->
  ∃ T id,typeLookup (.type T) "__getitem__" = pure (some (.builtin id)) /\ s.TypeIs v T /\ wpAny (model X.prog X.w) X.A (getItem v (.ref sl)) (EP X pins σ Q) X.xe s
theorem SlR.or {r r':V -> Option Int -> Option Int -> Hp -> VK -> Prop} (h:SlR X r) (h':SlR X r'):SlR X (fun x lo hi H Q=>r x lo hi H Q \/ r' x lo hi H Q):=by
 intro pins s σ H x v vl vu lo hi sl Q I rx hs pl pu q
 rcases q with q | q
 ·exact h pins s σ H x v vl vu lo hi sl Q I rx hs pl pu q
 ·exact h' pins s σ H x v vl vu lo hi sl Q I rx hs pl pu q
noncomputable def tSl (r:V -> Option Int -> Option Int -> Hp -> VK -> Prop) (te:TE) (tl th:TO):TE:=fun σ H Q=>te σ H fun x H1=>tl σ H1 fun l H2=>th σ H2 fun u H3=>r x l u H3 Q
theorem Fh {r:V -> Option Int -> Option Int -> Hp -> VK -> Prop} (hr:SlR X r) (he:PE X e te) (hl:PO X lo tl) (hu:PO X hi th):PE X (.Subscript e (.Slice lo hi none p2) pos) (tSl r te tl th):=by
 intro pins s σ H Q I h
 refine Subscript_ (thn (he pins s σ H _ I h) fun v s1 hpt9=>?_)
 obtain ⟨x,H1,I1,r1,q1⟩:=hpt9
 refine wpAny_Slice (thn (hl pins s1 σ H1 _ I1 q1) fun vl s2 ⟨l,H2,I2,pl,q2⟩=>thn (hu pins s2 σ H2 _ I2 q2) fun vu s3 hpt9=>?_)
 obtain ⟨u,H3,I3,pu,q3⟩:=hpt9
 rw [evalPart_none]
 refine Om ?_
 have I4:Inv X pins σ H3 { s3 with heap:=s3.heap.push { cls:=.type "slice",data:=.fields #[vl,vu,.none] } }:=I3.kept (t':=s3.toks) fun b ob q=>OA _ q
 obtain ⟨T,id,hT,ht,hg⟩:=hr pins { s3 with heap:=s3.heap.push { cls:=.type "slice",data:=.fields #[vl,vu,.none] } } σ H3 x v vl vu l u s3.heap.objs.size Q I4 r1 (Heap.IsSliceOf.new ..) pl pu q3
 show wpAny (model X.prog X.w) X.A (subscriptTail e (.Slice lo hi none p2) v (.ref s3.heap.objs.size)) (EP X pins σ Q) X.xe { s3 with heap:=s3.heap.push { cls:=.type "slice",data:=.fields #[vl,vu,.none] } }
 exact tail_any (ops:=[.ref s3.heap.objs.size,v]) ht hT hg (by with_unfolding_all rfl)
noncomputable def mn (xs:List V) (lo hi:Option Int):List V:=(xs.drop (HT.sIx xs.length 0 lo)).take (HT.sIx xs.length xs.length hi - HT.sIx xs.length 0 lo)
theorem pA (xs:List V) (lo hi:Option Int):(mn xs lo hi).length <= xs.length:=by
 unfold mn
 rw [P6,Ru]
 lia
noncomputable def Me (K:W.Frag):V -> Option Int -> Option Int -> Hp -> VK -> Prop:=fun x lo hi H Q=>∃ a xs,x = .ref a /\ SqT K H a xs /\
 ¬ (HT.sIx xs.length 0 lo = 0 /\ HT.sIx xs.length xs.length hi = xs.length) /\ ∀ p,H p = none -> Q (.ref p) (upd H p (.tup (mn xs lo hi)))
theorem J7:SlR X (Me X.K):=by
 intro pins s σ H x v vl vu lo hi sl Q I rx hs pl pu h
 obtain ⟨a,xs,rfl,hx,hw,q⟩:=h
 cases rx
 obtain ⟨its,r,ht,hz⟩:=I.tuple hx
 have hlen:its.toArray.size = xs.length:=by rw [OK];exact r.length.symm
 refine ⟨"tuple",_,Qz.lookup,ht.typeIs,?_⟩
 refine HT.nq ht hs pl pu (by rw [hlen];exact hw) ?_ (by rw [hlen];exact hz)
 rw [hlen]
 refine ⟨.ref s.heap.objs.size,_,I.laid (t':=s.toks) (o:=.tup (mn xs lo hi)) (fun b ob q=>OA _ q) (Op _) ?_,rfl,q _ (I.hok.fresh (Op _))⟩
 exact ⟨OD (pA xs lo hi) hz,_,(r.drop (HT.sIx xs.length 0 lo)).take (HT.sIx xs.length xs.length hi - HT.sIx xs.length 0 lo),IsTup.new _ _⟩
theorem Vals.nil_iff {xs:List V} {us:List Value} (r:Vals xs us):us = [] ↔ xs = []:=by
 cases r with
 | nil=>simp
 | cons _ _=>simp
end
noncomputable def ixN (n:Nat) (i:Int):Option Nat:=if 0 <= i then (if i < n then some i.toNat else none) else if -(n:Int) <= i then some (i + n).toNat else none
noncomputable def atI {α:Type} (xs:List α) (i:Int):Option α:=(ixN xs.length i).bind fun j=>xs[j]?
theorem BP {n:Nat} {i:Int} {j:Nat} (h:ixN n i = some j):seqIndex? i n = some j /\ j < n /\ -(n:Int) <= i /\ i < n:=by
 unfold ixN at h
 by_cases h0:0 <= i
 ·rw [Oj h0] at h
  by_cases h1:i < n
  ·rw [Oj h1] at h
   have e:i.toNat = j:=O2 h
   exact ⟨by rw [seqIndex_of h0 h1,e],by lia,by lia,h1⟩
  ·rw [Oi h1] at h;cases h
 ·rw [Oi h0] at h
  by_cases h1:-(n:Int) <= i
  ·rw [Oj h1] at h
   have e:(i + n).toNat = j:=O2 h
   exact ⟨by rw [seqIndex_neg (by lia) h1,e],by lia,h1,by lia⟩
  ·rw [Oi h1] at h;cases h
theorem wq {α:Type} {xs:List α} {i:Int} {v:α} (h:atI xs i = some v):∃ j,seqIndex? i xs.length = some j /\ xs[j]? = some v /\ j < xs.length /\ -(xs.length:Int) <= i /\ i < xs.length:=by
 unfold atI at h
 cases e:ixN xs.length i with
 | none=>rw [e] at h;cases h
 | some j=>
  rw [e] at h
  obtain ⟨h1,h2,h3,h4⟩:=BP e
  exact ⟨j,h1,h,h2,h3,h4⟩
def GG (b:Expr):Prop:=∀ o i,subscripted b false o i = operate [o,i] (getItem o i)
def IxR (X:Cx) (r:R2):Prop:=
 ∀ (value slice:Expr) (pins:List (Addr × Obj)) (s:Shared) (σ:St) (H:Hp) (x y:V) (v u:Value) (Q:VK),Inv X pins σ H s -> RelV x v -> RelV y u -> r x y H Q ->
  subscripted slice false v u = operate [v,u] (getItem v u) -> wpAny (model X.prog X.w) X.A (subscriptTail value slice v u) (EP X pins σ Q) X.xe s
def MtR (X:Cx) (id:String) (r:V -> List V -> Hp -> VK -> Prop):Prop:=
 ∀ (pins:List (Addr × Obj)) (s:Shared) (σ:St) (H:Hp) (x:V) (xs:List V) (v:Value) (us:List Value) (Q:VK),Inv X pins σ H s -> RelV x v -> Vals xs us -> r x xs H Q ->
  wpAny (model X.prog X.w) X.A (call (.builtin id) (v :: us)) (EP X pins σ Q) X.xe s
section
variable {X:Cx} {a b:Expr} {ta tb:TE} {pos:Pos}
theorem IxR.or {r r':R2} (h:IxR X r) (h':IxR X r'):IxR X (fun x y H Q=>r x y H Q \/ r' x y H Q):=by
 intro value slice pins s σ H x y v u Q I rx ry q hs
 rcases q with q | q
 ·exact h value slice pins s σ H x y v u Q I rx ry q hs
 ·exact h' value slice pins s σ H x y v u Q I rx ry q hs
theorem cv {r:R2} (hr:IxR X r) (ha:PE X a ta) (hb:PE X b tb) (hs:GG b):PE X (.Subscript a b pos) (tOp r ta tb):=by
 intro pins s σ H Q I h
 exact Subscript_ (Jb ha hb I h fun v u s2 x y H2 I2 rx ry q=>hr a b pins s2 σ H2 x y v u Q I2 rx ry q (hs _ _))
noncomputable def K0 (K:W.Frag):R2:=fun x y H Q=>∃ p xs i v,x = .ref p /\ y = .int i /\ SqL K H p xs /\ atI xs i = some v /\ Q v H
noncomputable def K2 (K:W.Frag):R2:=fun x y H Q=>∃ p xs i v,x = .ref p /\ y = .int i /\ SqT K H p xs /\ atI xs i = some v /\ Q v H
noncomputable def K1:R2:=fun x y H Q=>∃ z i c,x = .str z /\ y = .int i /\ z.length <= sizeLine /\ atI z.cps.toList i = some c /\ Q (.str ⟨#[c]⟩) H
theorem ix_list:IxR X (K0 X.K):=by
 intro value slice pins s σ H x y v u Q I rx ry h hs
 obtain ⟨p,xs,i,z,rfl,rfl,hq,he,q⟩:=h
 cases rx
 obtain ⟨t,rfl⟩:=ry
 obtain ⟨its,r,pl,hz⟩:=I.list hq
 obtain ⟨j,h1,h2,h3,h4,h5⟩:=wq he
 obtain ⟨w,ew,rw'⟩:=r.get h2
 have hl:=r.length
 have hn:=oM
 have fin:EP X pins σ Q w s:=⟨z,H,I,rw',q⟩
 by_cases h0:0 <= i
 ·have hj:i.toNat = j:=by
   rw [seqIndex_of h0 h5] at h1
   exact O2 h1
  exact item_listR pl.isList h0 (by lia) (by rw [hj];simpa using ew) fin hs
 ·have hj:(i + (its.toArray.size:Int)).toNat = j:=by
   rw [seqIndex_neg (by lia) h4] at h1
   rw [OK,<- hl]
   exact O2 h1
  exact subscriptTail_builtinR (x:=w) pl.isList.typeIs slot_list_getitem.lookup
   (wpAny_getItem_list_neg (Q:=fun r s'=>r = w /\ EP X pins σ Q r s') pl.isList (by lia) (by rw [OK] <;> lia) (by lia) (by rw [hj];simpa using ew) ⟨rfl,fin⟩) hs
theorem ix_tup:IxR X (K2 X.K):=by
 intro value slice pins s σ H x y v u Q I rx ry h hs
 obtain ⟨p,xs,i,z,rfl,rfl,hq,he,q⟩:=h
 cases rx
 obtain ⟨t,rfl⟩:=ry
 obtain ⟨its,r,pl,hz⟩:=I.tuple hq
 obtain ⟨j,h1,h2,h3,h4,h5⟩:=wq he
 obtain ⟨w,ew,rw'⟩:=r.get h2
 have hl:=r.length
 have hn:=oM
 have fin:EP X pins σ Q w s:=⟨z,H,I,rw',q⟩
 exact subscriptTail_builtinR (x:=w) pl.typeIs slot_tuple_getitem.lookup
  (getItem_tuple (j:=j) (Q:=fun r s'=>r = w /\ EP X pins σ Q r s') pl (by lia) (by lia) (by rw [OK,<- hl];exact h1) (by simpa using ew) ⟨rfl,fin⟩) hs
theorem Jq:IxR X K1:=by
 intro value slice pins s σ H x y v u Q I rx ry h hs
 obtain ⟨z,i,c,rfl,rfl,hz,he,q⟩:=h
 obtain ⟨t,rfl⟩:=rx
 obtain ⟨t',rfl⟩:=ry
 obtain ⟨j,h1,h2,h3,h4,h5⟩:=wq he
 have hl:z.cps.toList.length = z.length:=by simp [Str.length]
 rw [hl] at h1 h4 h5
 have hn:=oM
 exact tail_any (typeIs_str s z t) slot_str_getitem.lookup (getItem_str (c:=c) (by
  have e1:decide (i < -(2 ^ 63:Int)) = false:=OY (by lia)
  have e2:decide (i ≥ 2 ^ 63) = false:=OY (by lia)
  rw [e1,e2,Bool.or_false]) (by rw [h1];simpa using h2) ⟨.str ⟨#[c]⟩,H,I.tok _,⟨_,rfl⟩,q⟩) hs
noncomputable def rIx (K:W.Frag):R2:=fun x y H Q=>K0 K x y H Q \/ K2 K x y H Q \/ K1 x y H Q
theorem bo:IxR X (rIx X.K):=ix_list.or (ix_tup.or Jq)
theorem AJ (its:List Value) (n j:Nat) (u:Value):Obj.mapSeq (·.setIfInBounds j u) { cls:=.type "list",data:=.seq its.toArray n } = { cls:=.type "list",data:=.seq (its.set j u).toArray n }:=by
 simp [Obj.mapSeq]
theorem Inv.lst {pins:List (Addr × Obj)} {σ:St} {H:Hp} {s:Shared} {p:Addr} {xs:List V} (I:Inv X pins σ H s) (h:H p = some (.lst xs)) :
  ∃ (its:List Value) (n:Nat),Vals xs its /\ s.heap.get? p = some { cls:=.type "list",data:=.seq its.toArray n } /\ xs.length <= sizeLine:=by
 obtain ⟨z,its,n,r,e⟩:=I.hok p _ h
 exact ⟨its,n,r,e,z⟩
theorem Inv.lstUpd {pins:List (Addr × Obj)} {σ:St} {H:Hp} {s:Shared} {p:Addr} {xs ys:List V} {its its':List Value} {n n':Nat} {f:Obj -> Obj} (I:Inv X pins σ H s) (h:H p = some (.lst xs))
  (ho:s.heap.get? p = some { cls:=.type "list",data:=.seq its.toArray n }) (hf:f { cls:=.type "list",data:=.seq its.toArray n } = { cls:=.type "list",data:=.seq its'.toArray n' }) (r:Vals ys its') (hz:ys.length <= sizeLine) (t:Nat) :
  Inv X pins σ (upd H p (.lst ys)) { s with heap:=s.heap.update p f,toks:=t }:=by
 have e:(s.heap.update p f).get? p = some { cls:=.type "list",data:=.seq its'.toArray n' }:=by
  rw [Pd f ho (by rw [hf] <;> rfl),hf]
 refine I.write (x:=p) (e:=p) (by rw [h];trivial) (.inl rfl) (fun b u hb q=>(Rv _ _ (OQ hb)).trans q) ⟨_,e⟩ ?_
 exact ⟨hz,its',n',r,e⟩
noncomputable def Ix:V -> V -> V -> Hp -> (Hp -> Prop) -> Prop:=fun o i v H Q=>∃ p xs k j,o = .ref p /\ i = .int k /\ H p = some (.lst xs) /\ ixN xs.length k = some j /\ Q (upd H p (.lst (xs.set j v)))
theorem zr:Kq X Ix:=by
 intro pins s σ H o i v ov iv u Q I ro ri rv h
 obtain ⟨p,xs,k,j,rfl,rfl,hp,hj,q⟩:=h
 cases ro
 obtain ⟨t,rfl⟩:=ri
 obtain ⟨its,n,r,ho,hz⟩:=I.lst hp
 obtain ⟨h1,h2,h3,h4⟩:=BP hj
 have hl:=r.length
 have hn:=oM
 have I':Inv X pins σ (upd H p (.lst (xs.set j v))) { s with heap:=s.heap.update p (Obj.mapSeq (·.setIfInBounds j u)) }:=
  I.lstUpd hp ho (AJ its n j u) (r.set rv j) (by rw [PQ];exact hz) s.toks
 by_cases h0:0 <= k
 ·have hk:k.toNat = j:=by
   rw [seqIndex_of h0 h4] at h1
   exact O2 h1
  exact W.ki_setAt ho h0 (by lia) (by rw [OK,<- hl];exact h4) (by rw [hk];exact ⟨_,I',q⟩)
 ·have hk:(k + (its.toArray.size:Int)).toNat = j:=by
   rw [seqIndex_neg (by lia) h3] at h1
   rw [OK,<- hl]
   exact O2 h1
  exact W.ki_setBack ho (by lia) (by rw [OK,<- hl];exact h3) (by lia) (by rw [hk];exact ⟨_,I',q⟩)
theorem xt (lo hi:Option Int) (n:Nat):(sliceBounds lo hi none n).1 = ((HT.sIx n 0 lo:Nat):Int) /\ (sliceBounds lo hi none n).2.1 = ((HT.sIx n n hi:Nat):Int) /\ (sliceBounds lo hi none n).2.2 = 1:=by
 refine ⟨?_,?_,rfl⟩
 ·cases lo with
  | none=>simp [sliceBounds,HT.sIx]
  | some i=>
   simp only [sliceBounds,HT.sIx,Option.getD_none,show (1:Int) > 0 by decide,if_true]
   by_cases h:i < 0
   ·simp only [h,if_true] <;> lia
   ·simp only [h,P7] <;> lia
 ·cases hi with
  | none=>simp [sliceBounds,HT.sIx]
  | some i=>
   simp only [sliceBounds,HT.sIx,Option.getD_none,show (1:Int) > 0 by decide,if_true]
   by_cases h:i < 0
   ·simp only [h,if_true] <;> lia
   ·simp only [h,P7] <;> lia
theorem uJ (its:List Value) (lo hi:Option Int):slicePick its.toArray lo hi none = ((its.drop (HT.sIx its.length 0 lo)).take (HT.sIx its.length its.length hi - HT.sIx its.length 0 lo)).toArray:=by
 obtain ⟨h1,h2,h3⟩:=xt lo hi its.toArray.size
 unfold slicePick
 rw [h1,h2,h3]
 simp only [sliceRange_one,pick_run,OK] <;> rfl
noncomputable def K5 (K:W.Frag):V -> Option Int -> Option Int -> Hp -> VK -> Prop:=fun x lo hi H Q=>∃ a xs,x = .ref a /\ SqL K H a xs /\ ∀ p,H p = none -> Q (.ref p) (upd H p (.lst (mn xs lo hi)))
theorem HR:SlR X (K5 X.K):=by
 intro pins s σ H x v vl vu lo hi sl Q I rx hs pl pu h
 obtain ⟨a,xs,rfl,hx,q⟩:=h
 cases rx
 obtain ⟨its,r,ht,hz⟩:=I.list hx
 have hlen:=r.length
 refine ⟨"list",_,slot_list_getitem.lookup,ht.isList.typeIs,?_⟩
 refine wpAny_getItem_list_slice ht.isList hs pl pu .none (by simp) ?_ (by rw [OK] <;> lia)
 rw [uJ,<- hlen]
 refine ⟨.ref s.heap.objs.size,_,I.laid (t':=s.toks) (o:=.lst (mn xs lo hi)) (fun b ob q=>OA _ q) (Op _) ?_,rfl,q _ (I.hok.fresh (Op _))⟩
 exact ⟨OD (pA xs lo hi) hz,_,0,(r.drop (HT.sIx xs.length 0 lo)).take (HT.sIx xs.length xs.length hi - HT.sIx xs.length 0 lo),OO _ rfl⟩
noncomputable def nh:V -> Bool
 | .non=>true
 | .bl _=>true
 | .int _=>true
 | .str _=>true
 | _=>false
noncomputable def eqV:V -> V -> Bool
 | .non,.non=>true
 | .bl a,.bl b=>a == b
 | .bl a,.int b=>(if a then 1 else 0) == b
 | .int a,.bl b=>a == (if b then 1 else 0)
 | .int a,.int b=>a == b
 | .str a,.str b=>a == b
 | _,_=>false
theorem Ji {A:Around} {s:Shared} {y x:V} {u v:Value} (ry:RelV y u) (rx:RelV x v) (fy:nh y = true) (fx:nh x = true):SeqAt.EqAt A s u v (eqV y x):=by
 cases y with
 | non=>
  cases ry
  cases x with
  | non=>cases rx;exact SeqAt.EqAt.same _
  | bl b=>cases rx;exact SeqAt.EqAt.none_bool b
  | int b=>obtain ⟨t,rfl⟩:=rx;exact SeqAt.EqAt.none_int b t
  | str b=>obtain ⟨t,rfl⟩:=rx;exact SeqAt.EqAt.none_str b t
  | _=>exact absurd (show false = true from fx) Ph
 | bl a=>
  cases ry
  cases x with
  | non=>cases rx;exact SeqAt.EqAt.bool_none a
  | bl b=>cases rx;exact SeqAt.EqAt.bool_bool a b
  | int b=>obtain ⟨t,rfl⟩:=rx;exact SeqAt.EqAt.bool_int a b t
  | str b=>obtain ⟨t,rfl⟩:=rx;exact SeqAt.EqAt.bool_str a b t
  | _=>exact absurd (show false = true from fx) Ph
 | int a=>
  obtain ⟨t',rfl⟩:=ry
  cases x with
  | non=>cases rx;exact SeqAt.EqAt.int_none a t'
  | bl b=>cases rx;exact SeqAt.EqAt.int_bool a t' b
  | int b=>obtain ⟨t,rfl⟩:=rx;exact SeqAt.EqAt.int_int a t' b t
  | str b=>obtain ⟨t,rfl⟩:=rx;exact SeqAt.EqAt.int_str a t' b t
  | _=>exact absurd (show false = true from fx) Ph
 | str a=>
  obtain ⟨t',rfl⟩:=ry
  cases x with
  | non=>cases rx;exact SeqAt.EqAt.str_none a t'
  | bl b=>cases rx;exact SeqAt.EqAt.str_bool a t' b
  | int b=>obtain ⟨t,rfl⟩:=rx;exact SeqAt.EqAt.str_int a t' b t
  | str b=>obtain ⟨t,rfl⟩:=rx;exact SeqAt.EqAt.str_str a t' b t
  | _=>exact absurd (show false = true from fx) Ph
 | _=>exact absurd (show false = true from fy) Ph
noncomputable def eqU (x:V) (u:Value):Bool:=match u with
 | .none=>eqV .non x
 | .bool b=>eqV (.bl b) x
 | .int i _=>eqV (.int i) x
 | .str z _=>eqV (.str z) x
 | _=>false
theorem Er {x y:V} {u:Value} (r:RelV y u) (f:nh y = true):eqU x u = eqV y x:=by
 cases y with
 | non=>cases r;rfl
 | bl b=>cases r;rfl
 | int i=>obtain ⟨t,rfl⟩:=r;rfl
 | str z=>obtain ⟨t,rfl⟩:=r;rfl
 | _=>exact absurd (show false = true from f) Ph
theorem wp {x:V}:∀ {xs:List V} {us:List Value},Vals xs us -> xs.all nh = true -> us.any (eqU x) = xs.any fun y=>eqV y x
 | _,_,.nil,_=>rfl
 | y :: xs,u :: us,.cons r t,f=>by
  rw [List.all_cons,Pu] at f
  rw [QA,QA,Er r f.1,wp t f.2]
theorem sK {A:Around} {s:Shared} {x:V} {v:Value} (rx:RelV x v) (fx:nh x = true):∀ {xs:List V} {us:List Value},Vals xs us -> xs.all nh = true -> ∀ u ∈ us,SeqAt.EqAt A s u v (eqU x u)
 | _,_,.nil,_=>fun u hu=>by cases hu
 | y :: xs,u :: us,.cons r t,f=>fun u' hu=>by
  rw [List.all_cons,Pu] at f
  rcases Oy.mp hu with rfl | hu
  ·rw [Er r f.1];exact Ji r rx f.1 fx
  ·exact sK rx fx t f.2 u' hu
noncomputable def inV (x:V) (xs:List V):Bool:=xs.any fun y=>eqV y x
noncomputable def rIn (K:W.Frag) (neg:Bool):R2:=fun x y H Q=>∃ p xs,y = .ref p /\ (SqL K H p xs \/ SqT K H p xs) /\ nh x = true /\ xs.all nh = true /\ Q (.bl (if neg then !inV x xs else inV x xs)) H
theorem vB:OpR X (compareOp .In) (rIn X.K false):=by
 intro pins s σ H x y v u Q I rx ry h
 obtain ⟨p,xs,rfl,hq,fx,fs,q⟩:=h
 cases ry
 rcases hq with hq | hq
 ·obtain ⟨its,r,pl,hz⟩:=I.list hq
  refine SeqAt.in_listAt (eqU x) pl.isList (fun w hw=>sK rx fx r fs w (by simpa using hw)) ⟨.bl _,H,I,rfl,?_⟩
  rw [show its.toArray.any (eqU x) = its.any (eqU x) by simp,wp r fs]
  exact q
 ·obtain ⟨its,r,pl,hz⟩:=I.tuple hq
  refine SeqAt.in_tupleAt (eqU x) pl (fun w hw=>sK rx fx r fs w (by simpa using hw)) ⟨.bl _,H,I,rfl,?_⟩
  rw [show its.toArray.any (eqU x) = its.any (eqU x) by simp,wp r fs]
  exact q
theorem CallR.or {f:Value} {r r':List V -> Hp -> VK -> Prop} (h:CallR X f r) (h':CallR X f r'):CallR X f (fun xs H Q=>r xs H Q \/ r' xs H Q):=by
 intro pins s σ H xs us Q I rs q
 rcases q with q | q
 ·exact h pins s σ H xs us Q I rs q
 ·exact h' pins s σ H xs us Q I rs q
theorem fc:CallR X (.type "tuple") (fun xs H Q=>∃ p ys,xs = [.ref p] /\ ((SqL X.K H p ys /\ ∀ l,H l = none -> Q (.ref l) (upd H l (.tup ys))) \/ (SqT X.K H p ys /\ Q (.ref p) H))):=by
 intro pins s σ H xs us Q I r h
 obtain ⟨p,ys,rfl,h⟩:=h
 obtain ⟨u,rfl,rx⟩:=Cq r
 cases rx
 rcases h with ⟨hq,q⟩ | ⟨hq,q⟩
 ·obtain ⟨its,r',pl,hz⟩:=I.list hq
  have hlen:=r'.length
  refine call_tuple_list pl.isList (fun h' kp=>?_) (by simp only [OK] <;> lia)
  have I1:Inv X pins σ H { s with heap:=h' }:=I.kept (t':=s.toks) kp
  have I2:Inv X pins σ (upd H h'.objs.size (.tup ys)) { s with heap:=h'.push { cls:=.type "tuple",data:=.seq its.toArray } }:=
   I1.laid (t':=s.toks) (fun b o e=>OA _ e) (Op _) (show ObjOk X.prog X.w _ _ _ (.tup ys) from ⟨hz,its,r',IsTup.new _ _⟩)
  exact ⟨.ref h'.objs.size,_,I2,rfl,q _ (I1.hok.fresh (Op _))⟩
 ·obtain ⟨its,r',pl,hz⟩:=I.tuple hq
  exact call_tuple_same pl ⟨.ref p,H,I,rfl,q⟩
def tyV (K:W.Frag) (T:String) (x:V) (H:Hp):Prop:=match x with
 | .str _=>T = "str"
 | .int _=>T = "int"
 | .ref p=>(T = "list" /\ ∃ xs,SqL K H p xs) \/ (T = "tuple" /\ ∃ o,K.lookup p = some o /\ o.cls = .type "tuple" /\ o.dict = none) \/
   (T = "dict" /\ ((∃ kvs,H p = some (.dK kvs)) \/ ∃ kvs,H p = some (.dT kvs))) \/ (T = "set" /\ ∃ S n,H p = some (.set S n))
 | _=>False
theorem Ke {pins:List (Addr × Obj)} {σ:St} {H:Hp} {s:Shared} {T:String} {x:V} {v:Value} (I:Inv X pins σ H s) (r:RelV x v) (ty:tyV X.K T x H) :
  s.TypeIs v T /\ ∀ a,v = .ref a -> ∃ ob,s.heap.get? a = some ob /\ ob.dict = none:=by
 cases x with
 | str z=>
  obtain ⟨t,rfl⟩:=r
  cases (show T = "str" from ty)
  exact ⟨typeIs_str s z t,fun _ e=>nomatch e⟩
 | int i=>
  obtain ⟨t,rfl⟩:=r
  cases (show T = "int" from ty)
  exact ⟨typeIs_int s i t,fun _ e=>nomatch e⟩
 | ref p=>
  cases r
  rcases ty with ⟨rfl,xs,hq⟩ | ⟨rfl,o,hk,hc,hd⟩ | ⟨rfl,hk⟩ | ⟨rfl,S,n,hk⟩
  ·obtain ⟨its,_,pl,_⟩:=I.list hq
   refine ⟨pl.isList.typeIs,fun a e=>?_⟩
   cases e
   obtain ⟨o,n,e,c,hd,_⟩:=pl
   exact ⟨o,e,hd⟩
  ·refine ⟨⟨o,I.kIn p o hk,hc⟩,fun a e=>?_⟩
   cases e
   exact ⟨o,I.kIn _ o hk,hd⟩
  ·have z:∃ o,s.heap.get? p = some o /\ o.ExactDict:=by
    rcases hk with ⟨kvs,hk⟩ | ⟨kvs,hk⟩
    ·obtain ⟨_,_,_,_,o,_,_,e,ex,_⟩:=I.hok p _ hk
     exact ⟨o,e,ex⟩
    ·obtain ⟨_,_,_,_,o,_,_,e,ex,_⟩:=I.hok p _ hk
     exact ⟨o,e,ex⟩
   obtain ⟨o,e,ex⟩:=z
   refine ⟨⟨o,e,ex.1⟩,fun a e2=>?_⟩
   cases e2
   exact ⟨o,e,ex.2.1⟩
  ·obtain ⟨o,_,_,_,e,ex,_⟩:=I.hok p _ hk
   refine ⟨⟨o,e,ex.1⟩,fun a e2=>?_⟩
   cases e2
   exact ⟨o,e,ex.2.1⟩
 | _=>exact False.elim ty
noncomputable def tBM (K:W.Frag) (T:String) (r:V -> List V -> Hp -> VK -> Prop) (to:TE) (t:TA):TE:=fun σ H Q=>to σ H fun x H1=>tyV K T x H1 /\ t σ H1 fun xs H2=>r x xs H2 Q
variable {o e:Expr} {es:List Expr} {to:TE} {t:TA} {name:Str} {apos cpos:Pos} {T id:String} {r:V -> List V -> Hp -> VK -> Prop}
theorem gF (pa:PlainAttrs T) (slot:Slot T name id) (hty:typeOf (.builtin id) = pure (.type "method_descriptor")) (hm:MtR X id r) (ho:PE X o to) (ha:PA X (e :: es) t)
  (hbase:attributeBase o name X.env (eval o X.env) = eval o X.env:=by rfl)
  (hfew:((backTo cpos (starEach (e :: es) X.env)).all (fun x=>!x.1) && (backToKw cpos (keywordEach [] X.env)).all (fun x=>x.1.isSome)
   && decide ((e :: es).length + ([]:List Keyword).length + (if ([]:List Keyword).isEmpty then 0 else 1) < 30)) = true:=by rfl)
  (hline:(apos.endLine == cpos.line) = true:=by rfl) (hs:starEach (e :: es) X.env = (false,eval e X.env) :: starEach es X.env:=by rfl) (hplain:(backTo cpos (starEach es X.env)).any (·.1) = false:=by rfl) :
  PE X (.Call (.Attribute o name apos) (e :: es) [] cpos) (tBM X.K T r to t):=by
 intro pins s σ H Q I h
 refine wpAny_Call_method_late hbase hfew hline rfl (thn (ho pins s σ H _ I h) fun v s1 hpt9=>?_)
 obtain ⟨x,H1,I1,r1,ty,q1⟩:=hpt9
 obtain ⟨h1,h2⟩:=Ke I1 r1 ty
 refine ⟨T,id,pa,slot,hty,h1,h2,?_⟩
 have hA:=ha cpos pins s1 σ H1 _ I1 q1
 rw [hs] at hA ⊢
 refine Calls.callWith_builtin (by show (false || (backTo cpos (starEach es X.env)).any (·.1)) = false;rw [hplain] <;> rfl) (Calls.evalArgs_plain ?_)
 exact thn hA fun us s2 ⟨vs,H2,I2,r2,q2⟩=>hm pins s2 σ H2 x vs v us Q I2 r1 r2 q2
end
def MtM (X:Cx) (id:String) (r:V -> List V -> Hp -> VK -> Prop):Prop:=
 ∀ (pins:List (Addr × Obj)) (s:Shared) (σ:St) (H:Hp) (x:V) (xs:List V) (v:Value) (us:List Value) (Q:VK),Inv X pins σ H s -> RelV x v -> Vals xs us -> r x xs H Q ->
  wpAny (model X.prog X.w) X.A (call (.builtin id) (v :: us)) (EP X pins σ Q) X.xe s
theorem Vals.one {x:V} {us:List Value} (h:Vals [x] us):∃ u,us = [u] /\ RelV x u:=by
 cases h with
 | cons r t=>cases t;exact ⟨_,rfl,r⟩
theorem Vals.two {x y:V} {us:List Value} (h:Vals [x,y] us):∃ u v,us = [u,v] /\ RelV x u /\ RelV y v:=by
 cases h with
 | cons r t=>
  cases t with
  | cons q t=>cases t;exact ⟨_,_,rfl,r,q⟩
section
variable {X:Cx} {pins:List (Addr × Obj)} {σ:St} {H:Hp} {s:Shared} {l b:Addr} {xs ys zs:List V}
theorem Inv.lset {its its':List Value} {n:Nat} {f:Array Value -> Array Value} {t':Nat} (I:Inv X pins σ H s) (hH:H l = some (.lst xs))
  (e:s.heap.get? l = some { cls:=.type "list",data:=.seq its.toArray n }) (hf:f its.toArray = its'.toArray) (hv:Vals ys its') (hz:ys.length <= sizeLine) :
  Inv X pins σ (upd H l (.lst ys)) { s with heap:=s.heap.update l (Obj.mapSeq f),toks:=t' }:=by
 have q:=PySem.IsL.update e f
 rw [hf] at q
 refine I.write (x:=l) (e:=l) (by rw [hH];exact trivial) (.inl rfl) (fun b' u hb hu=>(Rv s.heap (Obj.mapSeq f) (OQ hb)).trans hu) ⟨_,q⟩ ?_
 exact ⟨hz,its',_,hv,q⟩
theorem Inv.lnew {its:List Value} {t':Nat} (I:Inv X pins σ H s) (hv:Vals ys its) (hz:ys.length <= sizeLine) :
  Inv X pins σ (upd H s.heap.objs.size (.lst ys)) { s with heap:=s.heap.push { cls:=.type "list",data:=.seq its.toArray },toks:=t' }:=
 I.laid (fun _ _ q=>OA _ q) (Op _) ⟨hz,its,0,hv,OO _ rfl⟩
theorem Inv.fresh (I:Inv X pins σ H s):H s.heap.objs.size = none:=I.hok.fresh (Op _)
theorem Inv.lstM (I:Inv X pins σ H s) (hH:H l = some (.lst xs)):xs.length <= sizeLine /\ ∃ (its:List Value) (n:Nat),Vals xs its /\ xs.length = its.length /\ s.heap.get? l = some { cls:=.type "list",data:=.seq its.toArray n }:=by
 obtain ⟨z,its,n,r,e⟩:=I.hok l _ hH
 exact ⟨z,its,n,r,r.length,e⟩
theorem E6 {n:Nat} (h:n <= sizeLine):Builtin.List.listTooLong n = false:=by
 unfold Builtin.List.listTooLong
 exact OY (by lia)
end
section
variable {X:Cx}
noncomputable def rAppend:V -> List V -> Hp -> VK -> Prop:=fun x vs H Q=>∃ l xs y,x = .ref l /\ vs = [y] /\ H l = some (.lst xs) /\ xs.length < sizeLine /\ Q .non (upd H l (.lst (xs ++ [y])))
theorem cU:MtM X "list.append" rAppend:=by
 intro pins s σ H x vs v us Q I rx rv h
 obtain ⟨l,xs,y,rfl,rfl,hH,hz,q⟩:=h
 cases rx
 obtain ⟨u,rfl,ru⟩:=rv.one
 obtain ⟨z,its,n,r,hl,e⟩:=I.lstM hH
 refine call_meets F.slot_list_append ⟨_,e,rfl⟩ F.entry_list_append (F.args_list_append_2 _ _) (PySem.list_append l its.toArray n u (by rw [OK];lia)) ⟨e,?_⟩
 refine ⟨.non,_,I.lset (its':=its ++ [u]) hH e (by simp) (r.append (.cons ru .nil)) ?_,rfl,q⟩
 rw [Ov,Pv]
 lia
end
section
variable {prog:Program} {w:World} {A:Around} {E:Value -> Shared -> Prop} {s:Shared}
end
section
variable {X:Cx}
end
end L2
namespace Att
open PySem PySem.W PySem.Calls PyProof.Rows
theorem p8 {P:Params} {h:Heap}:∀ (ns:List Int) (vs:List Value),WellAll P h vs (ns.map WData.int) -> IntsAre vs ns:=by
 intro ns
 induction ns with
 | nil=>
  intro vs w
  rw [PP] at w
  cases w
  exact .nil
 | cons n ns ih=>
  intro vs w
  rw [Ox] at w
  cases w with
  | cons a b=>
   cases a
   exact .cons _ _ (ih _ b)
theorem DG {l:OpenLaw} {n:Nat} (hn:l.most = some n) {P:Params} {h:Heap} {args:List WData} {vals:List Value}
  (hpre:l.row.toRowW.claim.pre args = true) (hwl:WellAll P h vals args) :
  ∃ a vs ns,vals = [Value.ref a] /\ args = [WData.list (ns.map WData.int)] /\ h.get? a = some { cls:=.type "list",data:=.seq vs.toArray } /\ IntsAre vs ns /\ ns.length <= n:=by
 have hsh:WShape.hasAll [] args [.list .int] = true:=(pre_splitW hpre).1
 have hc:l.pre.holds [] { args:=args } = true:=(pre_splitW hpre).2
 obtain ⟨d,r,rfl,h1,h2⟩:=hasAllW_cons hsh
 obtain rfl:=hasAllW_nil h2
 obtain ⟨xs,rfl,h3⟩:=hasW_list h1
 obtain ⟨ns,rfl⟩:=items_int h3
 have hlen:ns.length <= n:=by
  unfold OpenLaw.pre at hc
  have h4:(WTm.not (.lt (.lit (.int (n:Int))) (.len (.arg 0)))).holds [] { args:=[.list (ns.map .int)] } = true:=by
   have h4:=(holds_andW hc).1
   rw [hn] at h4
   exact h4
  have h5:=condW_of h4 (w_not (w_lt w_lit (w_len_list (w_arg rfl))))
  rw [Os] at h5
  refine QX fun q=>?_
  have q':(n:Int) < ((ns.length:Nat):Int):=by omega
  first
   | (rw [Pb q'] at h5;exact absurd h5 (by decide))
   | (simp at h5;omega)
 cases hwl with
 | cons w1 w2=>
  cases w2
  cases w1 with
  | list ho hall=>exact ⟨_,_,ns,rfl,rfl,ho,p8 ns _ hall,hlen⟩
theorem Dy (l:OpenLaw) (args:List WData):l.row.toRowW.claim.post args (.bool true) args = true:=
 postW_of (r:=l.row.toRowW) (X:=(true == true))
  (show WShape.has [] (.bool true) .bool = true by first | rfl | decide | simp [WShape.has,WShape.arms,WShape.armsAll])
  (show (WTm.eq .res (.lit (.bool true))).value [] { args:=args,res:=some (.bool true),after:=args } = some (.bool (true == true)) from w_eq_bool (w_res rfl) w_lit) rfl
theorem xM {l:OpenLaw} {n:Nat} {q:Program} {loose:List Str} {XP:(Str -> Option Value) -> Heap -> Prop} {YP:World -> Heap -> Prop} {d:DefRec}
  (hn:l.most = some n) (hdf:d.params.defaults = [])
  (call:∀ (w:World) (s₀ s₁:Shared) (mg mb:Str -> Option Value) (fa:Addr) (o:Obj) (pm cd doc:Value) (a:Addr) (vs:List Value) (ns:List Int),
   Ground q loose [] XP w s₀ mg mb s₁.heap -> YP w s₁.heap ->
   s₁.heap.get? fa = some o -> o.data = .func (docDef d.name d.params d.body d.scope pm cd doc) -> s₁.heap.CodeRec cd d.name -> mg d.name = some (.ref fa) ->
   s₁.heap.get? a = some { cls:=.type "list",data:=.seq vs.toArray } -> IntsAre vs ns -> ns.length <= n -> s₁.gens = #[] ->
   codeAny (model l.prog w) callerA (.call (.ref fa) ⟨[.ref a],[]⟩) (fun r s'=>r = .ok (.ret (.bool true)) /\ OldK s₁.heap s'.heap /\ s'.os = s₁.os /\ AllBare s'.gens) s₁) :
  WalkO q loose XP YP l.row.toRowW d [] (fun f vs=>PySem.call f vs):=by
 intro w s₀ s₁ mg mb G Y fa o pm cd doc dV kV ho hd hcd hD hmg hg args vals as hpre hlay hrd hwl hlo
 obtain rfl:dV = .none:=Dflts.none hD hdf
 obtain rfl:kV = .none:=Dflts.noKw hD
 obtain ⟨a,vs,ns,rfl,rfl,hobj,hints,hlen⟩:=DG hn hpre hwl
 refine enter_call (QU (call w s₀ s₁ mg mb fa o pm cd doc a vs ns G Y ho (fd_plain hd) hcd hmg hobj hints hlen hg) fun r s' hq=>?_)
 obtain ⟨rfl,h2,h3,h4⟩:=hq
 exact ⟨.inl ⟨.bool true,.bool true,[],rfl,fun _=>rfl,.bool true,Dy l _,fun _=>⟨List.Pairwise.nil,fun _ hm=>(nomatch hm)⟩⟩,h2,h3,h4⟩
section
variable {prog:Program} {w:World} {A:Around} {E:Value -> Shared -> Prop} {s:Shared} {K:Frag}
end
end Att
namespace L2
open PySem PySem.Spec PyProof.Rows
theorem vY:∀ {vs:List Value} {ns:List Int},IntsAre vs ns -> Vals (ns.map V.int) vs
 | _,_,.nil=>.nil
 | _,_,.cons n t h=>.cons ⟨t,rfl⟩ (vY h)
def IR (H:Hp):Prop:=∀ b,H b = none \/ ∃ o xs,H b = some (.frz o (.lst xs))
theorem EU {P:Program} {w:World} {K:W.Frag} {mg mb:Str -> Option Value} {CX:CXT} {k:Nat} {fa a:Addr} {fd:FuncData} {x:Str} {sp:Sp} {s₁:Shared} {vs:List Value} {ns:List Int}
  (KX:K.In s₁.heap) (hns:s₁.heap.Ns mainGlobals mg) (hb:s₁.heap.Ns builtinsNs mb) (hbb:∀ x:Str,x ≠ "__name__" -> mb x = bootBuiltins x) (hlim:s₁.heap.NoLimit) (hg:s₁.gens = #[])
  (ha:s₁.heap.get? a = some { cls:=.type "list",data:=.seq vs.toArray }) (hi:IntsAre vs ns) (hl:ns.length <= sizeLine) (hr:Room k callerA)
  (F:∀ base:Heap,K.In base -> base.Ns mainGlobals mg -> FnOk P w K mg base CX k fa fd [x] sp) (hbind:∀ (s:Shared) (u:Value),BindsTo s fd ⟨[u],[]⟩ [(x,u)])
  (hsp:∀ H:Hp,IR H -> SqL K H a (ns.map V.int) -> sp [.ref a] H (fun v _=>v = .bl true) fun _ _ _=>False)
  (hCX:∀ H e s',CX [] H s₁ (fun _ _ _=>False) e s' -> False) :
  codeAny (model P w) callerA (.call (.ref fa) ⟨[.ref a],[]⟩) (fun r s'=>r = .ok (.ret (.bool true)) /\ OldK s₁.heap s'.heap /\ s'.os = s₁.os /\ AllBare s'.gens) s₁:=by
 have rv:=vY hi
 have lenV:=hi.length
 -- from an abstract heap in which nothing but the script may be tracked
 have core:∀ H:Hp,IR H -> SqL K H a (ns.map V.int) -> HOk P w H s₁.heap -> (∀ b,H b ≠ none -> b = a) -> (H a ≠ none -> K.lookup a = none) ->
   codeAny (model P w) callerA (.call (.ref fa) ⟨[.ref a],[]⟩) (fun r s'=>r = .ok (.ret (.bool true)) /\ OldK s₁.heap s'.heap /\ s'.os = s₁.os /\ AllBare s'.gens) s₁:=by
  intro H hO hS hok hA hK
  have base_of:∀ {b:Addr} {o:Obj},s₁.heap.get? b = some o -> H b = none -> (wK s₁.heap H).get? b = some o:=fun e n=>EE e n
  have noA:∀ {b:Addr} {o:Obj} {es:Array DictEntry} {ep:Nat},s₁.heap.get? b = some o -> o.data = .dict es ep -> H b = none:=fun {b o es ep} e d=>by
   cases q:H b with
   | none=>rfl
   | some u=>
    have e':b = a:=hA b (by rw [q];simp)
    subst e'
    rw [ha] at e;cases e
    have d':Data.seq vs.toArray _ = Data.dict es ep:=d
    cases d'
  have nsK:∀ {b:Addr} {m:Str -> Option Value},s₁.heap.Ns b m -> (wK s₁.heap H).Ns b m:=fun {b m} ⟨o,es,ep,e,d,r⟩=>⟨o,es,ep,base_of e (noA e d),d,r⟩
  have hKb:K.In (wK s₁.heap H):=fun b o e=>base_of (KX b o e) (by
   cases q:H b with
   | none=>rfl
   | some u=>
    have e':b = a:=hA b (by rw [q];simp)
    subst e'
    rw [hK (by rw [q];simp)] at e;cases e)
  have hM:Mod K mg (wK s₁.heap H):=⟨hKb,nsK hns,⟨mb,nsK hb,hbb⟩,let ⟨mc,h1,h2⟩:=hlim;⟨mc,nsK h1,h2⟩⟩
  have e0:Env0 P w K mg (wK s₁.heap H) callerA [] s₁ H:=⟨rfl,hM,fun b o e=>Hn e,Pj (C0 _ _),trivial,fun b hb=>absurd (show b ∈ ([]:List Addr) from hb) (by simp),hok,.of_eq hg⟩
  refine QU ((F _ hKb (nsK hns)).run callerA [] s₁ H ⟨[.ref a],[]⟩ [.ref a] [.ref a] _ _ hr e0 (hbind s₁ (.ref a)) (.cons rfl .nil) (hsp H hO hS)) fun r s' h=>?_
  cases r with
  | error e=>exact (hCX H e s' h).elim
  | ok fl=>
   cases fl with
   | next=>exact False.elim h
   | brk=>exact False.elim h
   | cont=>exact False.elim h
   | ret u=>
    obtain ⟨v,H',os,bare,un,hok',r',q⟩:=h
    have q':v = .bl true:=q
    subst q'
    obtain rfl:u = Value.bool true:=r'
    refine ⟨rfl,OldK.of_keep fun b o e=>?_,os,bare⟩
    cases q:H b with
    | none=>exact un.keep b o e q (by intro z;exact absurd (show b ∈ ([]:List Addr) from z) (by simp)) (by simp)
    | some u=>
     rcases hO b with z | ⟨ob,xs,z⟩
     ·rw [q] at z;cases z
     ·have z2:=un.frzs b ob _ z
      obtain ⟨e1,_⟩:=hok b _ z
      obtain ⟨e2,_⟩:=hok' b _ z2
      rw [e] at e1;cases e1
      exact e2
 cases hk:K.lookup a with
 | some o=>
  -- the script is one of the module's own objects
  have e:=KX a o hk
  rw [ha] at e
  cases e
  refine core (fun _=>none) (fun _=>.inl rfl) (.inr ⟨_,vs.toArray,_,hk,rfl,rfl,rfl,by rw [OK,lenV];exact hl,by simpa using rv⟩) (fun b u z=>by have z':(none:Option HO) = some u:=z;cases z') (fun b z=>absurd rfl z) fun z=>absurd rfl z
 | none=>
  refine core (fun b=>if b = a then some (.frz { cls:=.type "list",data:=.seq vs.toArray } (.lst (ns.map V.int))) else none) (fun b=>?_) (.inl (.inr ⟨{ cls:=.type "list",data:=.seq vs.toArray },Oj rfl⟩)) (fun b u z=>?_) (fun b z=>?_) fun _=>hk
  ·by_cases hb:b = a
   ·exact .inr ⟨_,_,Oj hb⟩
   ·exact .inl (Oi hb)
  ·by_cases hb:b = a
   ·have z':=(Oj hb).symm.trans z
    cases z'
    subst hb
    exact ⟨ha,by rw [Os];exact hl,vs,_,rv,ha⟩
   ·have z':=(Oi hb).symm.trans z
    cases z'
  ·by_cases hb:b = a
   ·exact hb
   ·exact absurd (Oi hb) z
theorem H9 {l:W.OpenLaw} {n k:Nat} {q:Program} {loose:List Str} {XP:(Str -> Option Value) -> Heap -> Prop} {YP:World -> Heap -> Prop} {d:DefRec} {K:Params -> W.Frag} {CX:World -> CXT} {sp:World -> Sp} {x:Str}
  (hn:l.most = some n) (hn2:n <= sizeLine) (hdf:d.params.defaults = []) (hr:Room k callerA)
  (hY:∀ (w:World) (h:Heap),YP w h -> (K w.params).In h)
  (F:∀ (w:World) (mg:Str -> Option Value) (fa:Addr) (h:Heap),(K w.params).In h -> h.Ns mainGlobals mg -> mg d.name = some (.ref fa) ->
   ∃ fd:FuncData,(∀ (s:Shared) (u:Value),BindsTo s fd ⟨[u],[]⟩ [(x,u)]) /\
    ∀ base:Heap,(K w.params).In base -> base.Ns mainGlobals mg -> FnOk l.prog w (K w.params) mg base (CX w) k fa fd [x] (sp w))
  (hsp:∀ (w:World) (H:Hp) (a:Addr) (ns:List Int),ns.length <= n -> IR H -> SqL (K w.params) H a (ns.map V.int) -> sp w [.ref a] H (fun v _=>v = .bl true) fun _ _ _=>False)
  (hCX:∀ (w:World) (H:Hp) (s:Shared) (e:Value) (s':Shared),CX w [] H s (fun _ _ _=>False) e s' -> False) :
  W.WalkO q loose XP YP l.row.toRowW d [] (fun f vs=>PySem.call f vs):=by
 refine Att.xM hn hdf fun w s₀ s₁ mg mb fa o pm cd doc a vs ns G Y ho hd hcd hmg hobj hints hlen hg=>?_
 have KX:=hY w _ Y
 obtain ⟨fd,hb,hF⟩:=F w mg fa _ KX G.T.g hmg
 exact EU KX G.T.g G.T.b G.T.builtins G.T.nolimit hg hobj hints (OD hlen hn2) hr hF hb (fun H hO hS=>hsp w H a ns hlen hO hS) fun H e s'=>hCX w H s₁ e s'
noncomputable def aZ (s:Stmt):Arguments:=match s with
 | .FunctionDef _ a _ _ _ _ _ _ _ _=>a
 | _=>{ posonlyargs:=[],args:=[],vararg:=none,kwonlyargs:=[],kw_defaults:=[],kwarg:=none,defaults:=[] }
noncomputable def aV (s:Stmt):List Stmt:=match s with
 | .FunctionDef _ _ b _ _ _ _ _ _ _=>b
 | _=>[]
noncomputable def am (s:Stmt):Scope:=match s with
 | .FunctionDef _ _ _ _ _ _ sc _ _ _=>sc
 | _=>{ kind:=.function,names:=[],isGenerator:=false,isCoroutine:=false }
noncomputable abbrev CX0:CXT:=fun _ _ _ _ _ _=>False
noncomputable abbrev E0:XK:=fun _ _ _=>False
theorem c9 {X:Cx}:zW CX0 X E0:=fun _ _ _ _ _ _ _ h=>h.elim
structure Fun (K:W.Frag) (x qual:Str) (st:Stmt) (f:Addr) (fd:FuncData):Prop where
 ex:∃ (oc:Value) (od:Option Addr) (kV doc pm:Value) (an:Option Addr) (cdv ct:Value) (osl:Array (Option Value)),
  fd = W.fnOf x qual (aZ st) (aV st) (am st) .none kV doc pm an cdv ct /\ K.lookup f = some ⟨oc,od,.func fd,osl⟩ /\ W.codeIn K cdv qual = true
 kp:W.keepIn K (.ref f) = true
section
variable {P:Program} {w:World} {K:W.Frag} {mg:Str -> Option Value} {base:Heap}
theorem Fun.ok {x qual:Str} {st:Stmt} {f:Addr} {fd:FuncData} {N ps:List Str} {k:Nat} {sp:Sp} (F:Fun K x qual st f fd) (S:FnScope N ps (am st)) (len:∀ vs H Q E,sp vs H Q E -> vs.length = ps.length)
  (hbody:∀ (cdv:Value) (A:Around) (outer:List Env) (s:Shared) (H:Hp) (vs:List V) (Q:VK) (E:XK),Room k (A.deeper (envOfC qual (am st) s.heap.objs.size f cdv)) -> sp vs H Q E ->
   ∃ t,PSs (Aj CX0 P w K mg base N qual (am st) f cdv A outer s H E).nox (aV st) t /\ t { nx:=fun _ H'=>Q .non H',rt:=Q } (bg N vs) H):FnOk P w K mg base CX0 (k + 1) f fd ps sp:=by
 obtain ⟨oc,od,kV,doc,pm,an,cdv,ct,osl,rfl,lk,hcd⟩:=F.ex
 refine Ig lk hcd S len fun A outer s H vs Q E hr hsp=>?_
 obtain ⟨t,h,q⟩:=hbody cdv A outer s H vs Q E hr hsp
 exact ⟨t,h.nox,q⟩
theorem Fun.binds {x qual:Str} {st:Stmt} {f:Addr} {fd:FuncData} {ps:List Str} (F:Fun K x qual st f fd)
  (h:∀ (kV doc pm:Value) (an:Option Addr) (cdv ct:Value) (us:List Value),us.length = ps.length -> bindArgs (W.fnOf x qual (aZ st) (aV st) (am st) .none kV doc pm an cdv ct) ⟨us,[]⟩ = pure (ps.zip us)):Binds K fd ps []:=by
 obtain ⟨oc,od,kV,doc,pm,an,cdv,ct,osl,rfl,lk,hcd⟩:=F.ex
 exact .all (h kV doc pm an cdv ct)
theorem cL {x qual:Str} {st:Stmt} {f:Addr} {oc:Value} {od an:Option Addr} {osl:Array (Option Value)} {kV doc pm cdv ct:Value} (l:K.lookup f = some ⟨oc,od,.func (W.fnOf x qual (aZ st) (aV st) (am st) .none kV doc pm an cdv ct),osl⟩)
  (c:W.codeIn K cdv qual = true) (k:W.keepIn K (.ref f) = true):Fun K x qual st f (W.fnOf x qual (aZ st) (aV st) (am st) .none kV doc pm an cdv ct):=⟨⟨oc,od,kV,doc,pm,an,cdv,ct,osl,rfl,l,c⟩,k⟩
end
section
variable {X:Cx}
theorem pv (i:Nat) {x:Str} {pos:Pos} (hN:X.N[i]? = some x:=by rfl) (hv:Vis X.env.scope x:=by first | exact Or.inl rfl | exact Or.inr (.inl rfl) | exact Or.inr (.inr rfl)) (hd:(x == ("__debug__" : Str)) = false:=by decide)
  (hcd:(x == ("__classdict__" : Str)) = false:=by decide):PE X (.Name x pos) (jI i):=JF hN hv hd hcd
end
theorem yr {A B:Prop} (h:B):if false = true then A else B:=by
 rw [Oi Ph]
 exact h
theorem yt {A B:Prop} (h:A):if true = true then A else B:=by
 rw [Oj rfl]
 exact h
def Same (H H':Hp):Prop:=∀ b o,H b = some o -> H' b = some o
theorem Same.refl (H:Hp):Same H H:=fun _ _ h=>h
theorem Same.trans {H H1 H2:Hp} (a:Same H H1) (b:Same H1 H2):Same H H2:=fun c o h=>b c o (a c o h)
theorem Same.free {H H':Hp} (e:Same H H') {l:Addr} (h:H' l = Option.none):H l = Option.none:=by
 cases q:H l with
 | none=>rfl
 | some o=>
  rw [e l o q] at h
  cases h
end L2
set_option linter.all false
set_option maxHeartbeats 4000000
set_option maxRecDepth 100000
namespace L2
open PySem PySem.Spec PyProof.Rows
structure CmpOk (XN:List Str) (sc scope:Scope) (N:List Str) (js:List (Option Nat)):Prop where
 kind:scope.kind = .function
 cell:∀ y ∈ scope.names,y.2 ≠ .cell
 free:∀ y ∈ scope.names,y.2 = .free -> sc.names.lookup y.1 = some .cell \/ sc.names.lookup y.1 = some .free
 loc:∀ y ∈ scope.names,y.2 = .local -> scope.names.lookup y.1 = some .local
 len:js.length = N.length
 ix:((N.zip js).all fun p=>match p.2 with | none=>true | some j=>decide (XN[j]? = some p.1) && decide (scope.names.lookup p.1 = some .free)) = true
noncomputable def kn (env:Env):List (Str × NameKind) -> List (Str × Addr) -> List (Str × Addr)
 | [],cs=>cs
 | (n,k) :: r,cs=>kn env r (if k = .free then (match env.cells.lookup n with | some c=>(n,c) :: cs | none=>cs) else cs)
theorem xU {env:Env}:∀ {names:List (Str × NameKind)} {cs:List (Str × Addr)},(∀ n c,cs.lookup n = some c -> env.cells.lookup n = some c) -> ∀ n c,(kn env names cs).lookup n = some c -> env.cells.lookup n = some c
 | [],_,h=>h
 | (m,k) :: r,cs,h=>by
  unfold kn
  refine xU ?_
  split
  ·cases e:env.cells.lookup m with
   | none=>exact h
   | some d=>
    intro n c hn
    dsimp only at hn
    rw [Pm] at hn
    cases q:n == m with
    | true=>
     rw [q] at hn
     have e1:n = m:=by simpa using q
     cases hn
     rw [e1];exact e
    | false=>rw [q] at hn;exact h n c hn
  ·exact h
theorem xT {env:Env}:∀ {names:List (Str × NameKind)} {cs:List (Str × Addr)} {n:Str},((n,NameKind.free) ∈ names /\ (∃ c,env.cells.lookup n = some c)) \/ (∃ c,cs.lookup n = some c) -> ∃ c,(kn env names cs).lookup n = some c
 | [],_,_,h=>h.elim (fun z=>by cases z.1) id
 | (m,k) :: r,cs,n,h=>by
  unfold kn
  refine xT ?_
  rcases h with ⟨hm,c,hc⟩ | ⟨c,hc⟩
  ·rcases Oy.mp hm with e | hm
   ·cases e
    right
    rw [Oj rfl,hc]
    exact ⟨c,by rw [Pm];simp⟩
   ·exact .inl ⟨hm,c,hc⟩
  ·right
   split
   ·cases e:env.cells.lookup m with
    | none=>exact ⟨c,hc⟩
    | some d=>
     dsimp only
     rw [Pm]
     cases q:n == m with
     | true=>exact ⟨d,rfl⟩
     | false=>exact ⟨c,hc⟩
   ·exact ⟨c,hc⟩
theorem rM {env:Env} {scope:Scope} (h:∀ y ∈ scope.names,y.2 = .free -> ∃ c,env.cells.lookup y.1 = some c):closureFor scope env = pure (kn env scope.names []):=by
 have key:∀ (names:List (Str × NameKind)) (cs:List (Str × Addr)),(∀ y ∈ names,y.2 = .free -> ∃ c,env.cells.lookup y.1 = some c) ->
   (forIn names cs (fun (x:Str × NameKind) r=>if (x.2 == NameKind.free) = true then (do let a ← cellOf env x.1;pure (ForInStep.yield ((x.1,a) :: r))) else pure (ForInStep.yield r)):Sem (List (Str × Addr))) = pure (kn env names cs):=by
  intro names
  induction names with
  | nil=>intro cs _;rfl
  | cons y r ih=>
   intro cs hy
   obtain ⟨n,k⟩:=y
   rw [List.forIn_cons]
   unfold kn
   by_cases hk:k = .free
   ·subst hk
    obtain ⟨c,hc⟩:=hy _ Oq rfl
    have e1:cellOf env n = pure c:=by unfold cellOf;rw [hc]
    rw [Oj (by rfl)]
    rw [Oj rfl,hc]
    show ((cellOf env n >>= fun a=>pure (ForInStep.yield ((n,a) :: cs))) >>= _) = _
    rw [e1]
    exact ih _ fun z hz=>hy z (Ou _ hz)
   ·have hb:(k == NameKind.free) = false:=by simpa using hk
    rw [Oi (by rw [hb];decide),Oi hk]
    exact ih _ fun z hz=>hy z (Ou _ hz)
 have k:=key scope.names [] h
 unfold closureFor
 show (forIn scope.names ([]:List (Str × Addr)) _ >>= fun cs=>pure cs) = _
 refine Eq.trans (OG (fun t=>t >>= fun cs=>pure cs) (Eq.trans ?_ k)) rfl
 congr 1
theorem tz {env:Env}:∀ {names:List (Str × NameKind)} {x:Str},names.lookup x = some .free ->
  (names.map fun (n,k)=>if (k == NameKind.free && env.scope.kind == .function && env.kindOf n == some .cell) then (n,NameKind.cell) else (n,k)).lookup x = some .cell \/
  (names.map fun (n,k)=>if (k == NameKind.free && env.scope.kind == .function && env.kindOf n == some .cell) then (n,NameKind.cell) else (n,k)).lookup x = some .free
 | [],_,h=>by simp at h
 | (n,k) :: r,x,h=>by
  have ih:=@tz env r x
  rw [Ox]
  dsimp only
  cases q:x == n with
  | true=>
   rw [Pm,q] at h
   cases h
   split
   ·left;rw [Pm,q]
   ·right;rw [Pm,q]
  | false=>
   rw [Pm,q] at h
   split
   ·rw [Pm,q];exact ih h
   ·rw [Pm,q];exact ih h
theorem mN {env:Env}:∀ {names:List (Str × NameKind)} {x:Str} {j:NameKind},(∀ y ∈ names,y.2 ≠ .cell) -> (j = .cell \/ j = .free) ->
  (names.map fun (n,k)=>if (k == NameKind.free && env.scope.kind == .function && env.kindOf n == some .cell) then (n,NameKind.cell) else (n,k)).lookup x = some j -> (x,NameKind.free) ∈ names
 | [],_,_,_,_,h=>by simp at h
 | (n,k) :: r,x,j,hc,hj,h=>by
  have ih:=@mN env r x j (fun y hy=>hc y (Ou _ hy)) hj
  rw [Ox] at h
  dsimp only at h
  cases q:x == n with
  | true=>
   have e:x = n:=by simpa using q
   subst e
   split at h
   ·rename_i g
    have:k = .free:=by
     simp only [Pu,P8] at g
     exact g.1.1
    subst this
    exact Oq
   ·rw [Pm,q] at h
    cases h
    rcases hj with z | z
    ·exact absurd z (hc _ Oq)
    ·rw [z];exact Oq
  | false=>
   refine Ou _ (ih ?_)
   split at h
   ·rw [Pm,q] at h;exact h
   ·rw [Pm,q] at h;exact h
noncomputable def inn (js:List (Option Nat)) (σ:St):St:=js.map fun o=>match o with | none=>none | some j=>(σ[j]?).join
structure CxZ where
 cl:List (Str × Addr)
 C:Addr
 s:Shared
 H:Hp
 fp:List Addr
 pins:List (Addr × Obj)
noncomputable def cxC (X:Cx) (N:List Str) (scope:Scope) (z:CxZ):Cx where
 prog:=X.prog
 w:=X.w
 K:=X.K
 mg:=X.mg
 base:=X.base
 A:=X.A
 N:=N
 s₀:=z.s
 H₀:=z.H
 env:=compEnvC scope z.cl z.C X.env
 outer:=X.stack
 stack:=X.stack
 ex:=z.fp
 fn:=fun _=>false
 calm:=X.calm
 pn:=X.pn ++ z.pins
 xe:=fun _ _=>False
section
variable {X:Cx} {pins:List (Addr × Obj)} {σ:St} {H:Hp} {s:Shared} {XN N:List Str} {sc scope:Scope} {js:List (Option Nat)}
theorem EJ {h1:Heap} {m:Str -> Option Value} {tk:Nat} {fp:List Addr} (ck:CmpOk XN sc scope N js) (hXN:X.N = XN) (hsc:X.env.scope = sc) (I:Inv X pins σ H s) (hf:∀ b ∈ fp,rd X pins H b)
  (hfo:∀ b ∈ fp,b < s.heap.objs.size) (hn:h1.Ns s.heap.objs.size m) (hk:∀ b o,s.heap.get? b = some o -> h1.get? b = some o) :
  Inv (cxC X N scope ⟨kn X.env scope.names [],s.heap.objs.size,s,H,fp,pins⟩) [] (inn js σ) H { s with heap:=h1,toks:=tk }:=by
 subst hXN hsc
 have sub:∀ n c,(kn X.env scope.names []).lookup n = some c -> X.env.cells.lookup n = some c:=xU fun n c h=>by simp at h
 have clt:∀ n c,(kn X.env scope.names []).lookup n = some c -> c < s.heap.objs.size:=fun n c h=>by
  obtain ⟨v,q⟩:=I.cell n c (sub n c h)
  exact q.lt
 have has:∀ x,(x,NameKind.free) ∈ scope.names -> ∃ c,(kn X.env scope.names []).lookup x = some c:=fun x hx=>
  xT (.inl ⟨hx,I.ok.has x (ck.free _ hx rfl)⟩)
 refine ⟨⟨I.ok.mod,ck.kind,I.ok.glob,I.ok.blt,Op _,fun x y c h1 h2=>I.ok.inj x y c (sub x c h1) (sub y c h2),fun x hx=>?has,fun x c hx=>?cab,I.ok.hd,I.ok.frames,.inl rfl,fun b hb=>?exf,I.bs,?bsz,fun b o e hb=>?noex,fun b hb=>?exfs,I.stack,I.stkFree⟩,
  rfl,I.bare,Un.kept hk,⟨m,hn,fun i x v h1 h2 h3=>?loc⟩,fun x c h=>?cell,I.hok.fresh (Op _),fun x c h=>I.freeC x c (sub x c h),fun p hp=>?pin,I.hok.kept hk,?len⟩
 case has=>
  rcases hx with hx | hx
  ·exact has x (mN ck.cell (.inl rfl) hx)
  ·exact has x (mN ck.cell (.inr rfl) hx)
 case cab=>cases hx
 case exf=>
  obtain ⟨f0,f1,f2,f3,f4,f5⟩:=hf b hb
  exact ⟨OE (hfo b hb),fun x c e=>f4 x c (sub x c e)⟩
 case bsz=>exact OD I.ok.bsz I.sz
 case noex=>
  obtain ⟨f0,f1,f2,f3,f4,f5⟩:=hf b hb
  rcases f3 with f3 | f3
  ·exact I.ok.noex b o e f3
  ·exact absurd (OT (Oz e) (OD I.ok.bsz f3)) (Qk _)
 case exfs=>
  obtain ⟨f0,f1,f2,f3,f4,f5⟩:=hf b hb
  intro z
  rcases Oy.mp (I.stkSub b z) with e | e
  ·exact f1 e
  ·exact f2 e
 case loc=>
  have hl:N.length = js.length:=ck.len.symm
  have hi:i < js.length:=by
   have:=(O5.mp h1).1
   have e:(cxC X N scope ⟨kn X.env scope.names [],s.heap.objs.size,s,H,fp,pins⟩).N = N:=rfl
   rw [e] at this
   lia
  have hN:N[i]? = some x:=h1
  have hj:js[i]? = some js[i]:=PF hi
  unfold inn at h2
  rw [OU,hj] at h2
  cases q:js[i] with
  | none=>rw [q] at h2;cases h2
  | some j=>
   rw [q] at h2 hj
   have h2':(σ[j]?).join = some v:=O2 h2
   have hσ:σ[j]? = some (some v):=by
    cases e:σ[j]? with
    | none=>rw [e] at h2';cases h2'
    | some o=>rw [e] at h2';exact OG some h2'
   have hm:(x,some j) ∈ N.zip js:=by
    refine QW (i:=i) ?_
    rw [List.getElem?_zip_eq_some]
    exact ⟨hN,hj⟩
   have hc:=List.all_eq_true.mp ck.ix _ hm
   simp only [Pu,decide_eq_true_eq] at hc
   obtain ⟨c1,c2⟩:=hc
   have hfr:(x,NameKind.free) ∈ scope.names:=Qx c2
   have hvis:X.env.scope.names.lookup x = some .cell \/ X.env.scope.names.lookup x = some .free:=ck.free _ hfr rfl
   obtain ⟨m0,hn0,hl0⟩:=I.loc
   obtain ⟨u,r,l⟩:=hl0 j x v c1 hσ (hvis.elim (fun z=>.inr (.inl z)) fun z=>.inr (.inr z))
   refine ⟨u,r,.inr ⟨?_,?_⟩⟩
   ·exact tz c2
   ·rcases l with ⟨k1,_⟩ | ⟨_,c,k1,k2⟩
    ·have k1':X.env.scope.names.lookup x = some .local:=k1
     rcases hvis with z | z
     ·rw [z] at k1';cases k1'
     ·rw [z] at k1';cases k1'
    ·obtain ⟨c',hc'⟩:=has x hfr
     have e:=sub x c' hc'
     rw [k1] at e
     cases e
     obtain ⟨oc,ho,hd⟩:=k2
     exact ⟨c,hc',oc,hk _ _ ho,hd⟩
 case cell=>
  obtain ⟨v,oc,ho,hd⟩:=I.cell x c (sub x c h)
  exact ⟨v,oc,hk _ _ ho,hd⟩
 case pin=>
  have hp':p ∈ X.pn ++ pins:=by simpa [cxC] using hp
  obtain ⟨p1,p2,p3,p4,p5⟩:=I.pin p hp'
  refine ⟨hk _ _ p1,p2,OE (Oz p1),fun z=>?_,p5⟩
  rcases Oy.mp (I.stkSub _ z) with e | e
  ·exact p3 e
  ·exact p4 e
 case len=>
  show (inn js σ).length = N.length
  unfold inn
  rw [Os]
  exact ck.len
noncomputable abbrev TIf:=St -> Hp -> (Bool -> Hp -> Prop) -> Prop
def PIf (X:Cx) (ifs:List Expr) (t:TIf):Prop:=
 ∀ (pins:List (Addr × Obj)) (s:Shared) (σ:St) (H:Hp) (Q:Bool -> Hp -> Prop),Inv X pins σ H s -> t σ H Q ->
  wpAny (model X.prog X.w) X.A (forIn ifs true fun c r=>if r = true then do let ok ← isTrue c X.env (eval c X.env);pure (ForInStep.yield ok) else pure (ForInStep.yield r)) (TP X pins σ Q) X.xe s
noncomputable def Ie:TIf:=fun _ H Q=>Q true H
theorem fg:PIf X [] Ie:=fun _ _ _ H _ I h=>wpAny_tests_nil ⟨H,I,h⟩
theorem g9 {c:Expr} {t:TT} (h:PT X c t):PIf X [c] t:=fun pins s σ H Q I q=>wpAny_tests_one (h pins s σ H Q I q)
def Lev (σ σ':St):Prop:=σ.length = σ'.length /\ ∀ (i:Nat) (v:V),σ[i]? = some (some v) -> σ'[i]? = some (some v)
theorem Lev.refl (σ:St):Lev σ σ:=⟨rfl,fun _ _ h=>h⟩
theorem Lev.trans {a b c:St} (h:Lev a b) (k:Lev b c):Lev a c:=⟨h.1.trans k.1,fun i v e=>k.2 i v (h.2 i v e)⟩
def zX (js:List (Option Nat)) (g:TG):Prop:=∀ (σ0:St) (v:V) (σ:St) (H:Hp) (Q:St -> Hp -> Prop),Lev (inn js σ0) σ -> g v σ H Q -> g v σ H fun σ' H'=>Lev (inn js σ0) σ' /\ Q σ' H'
def Bu (js:List (Option Nat)) (g:TGs):Prop:=∀ (σ0:St) (vs:List V) (σ:St) (H:Hp) (Q:St -> Hp -> Prop),Lev (inn js σ0) σ -> g vs σ H Q -> g vs σ H fun σ' H'=>Lev (inn js σ0) σ' /\ Q σ' H'
theorem aP {i:Nat} (h:js[i]? = some none:=by rfl):zX js (kx i):=fun σ0 v σ H Q l q=>by
 refine ⟨⟨?_,fun j u e=>?_⟩,q⟩
 ·rw [PQ];exact l.1
 ·by_cases hij:i = j
  ·subst hij
   unfold inn at e
   rw [OU,h] at e
   cases e
  ·rw [Pg hij]
   exact l.2 j u e
theorem dq:Bu js Jm:=fun σ0 vs σ H Q l q=>⟨q.1,l,q.2⟩
theorem aM {t:TG} {u:TGs} (h:zX js t) (k:Bu js u) (mono:∀ v σ H (Q Q':St -> Hp -> Prop),(∀ a b,Q a b -> Q' a b) -> t v σ H Q -> t v σ H Q'):Bu js (EB t u):=fun σ0 vs σ H Q l q=>by
 obtain ⟨v,r,e,q⟩:=q
 exact ⟨v,r,e,mono _ _ _ _ _ (fun σ' H' z=>k σ0 r σ' H' Q z.1 z.2) (h σ0 v σ H _ l q)⟩
theorem aE {i:Nat}:∀ v σ H (Q Q':St -> Hp -> Prop),(∀ a b,Q a b -> Q' a b) -> kx i v σ H Q -> kx i v σ H Q':=fun _ _ _ _ _ h q=>h _ _ q
theorem e9 {K:W.Frag} {n:Nat} {t:TGs} (h:Bu js t):zX js (G4 K n t):=fun σ0 v σ H Q l q=>by
 obtain ⟨a,xs,e,hq,hl,q⟩:=q
 exact ⟨a,xs,e,hq,hl,h σ0 xs σ H Q l q⟩
noncomputable def Cl (js:List (Option Nat)) (wi:TI) (g:TG) (tt:TIf) (te:TE):TE:=fun σ H Q=>wi σ H fun J H1=>∀ D,H1 D = none -> ∃ W:Nat -> Nat -> Hp -> Prop,(∃ m,W 0 m (upd H1 D (.lst []))) /\ ∀ i m H,W i m H ->
 (J.stop i H /\ Q (.ref D) H) \/ (J.go i H /\ ∀ x H',J.yld i H x H' -> g x (inn js σ) H' fun σ2 H2=>tt σ2 H2 fun b H3=>
  if b = true then te σ2 H3 fun y H4=>∃ ys,H4 D = some (.lst ys) /\ ys.length < sizeLine /\ ∃ m',m' < m /\ W (i + 1) m' (upd H4 D (.lst (ys ++ [y]))) else ∃ m',m' < m /\ W (i + 1) m' H3)
variable {tg iter elt:Expr} {ifs:List Expr} {pos:Pos} {wi:TI} {g:TG} {tt:TIf} {te:TE}
theorem CK {E:Value -> Shared -> Prop} {R:Result -> Shared -> Prop} {it D:Addr} {fp:List Addr} {tn:Nat -> Heap -> Prop} {J:It} {z:CxZ} {W:Nat -> Nat -> Hp -> Prop} {n:Nat}
  (hc:X.calm = true) (T:Turn X.prog X.w X.K tg J fp it tn) (hz:∀ b ∈ fp,∀ H',H' b = none -> rd (cxC X N scope z) [] H' b)
  (hg:PG (cxC X N scope z) tg g) (hs:zX js g) (ht:PIf (cxC X N scope z) ifs tt) (he:PE (cxC X N scope z) elt te)
  (turn:∀ i m H,W i m H -> (J.stop i H /\ ∀ s',Inv (cxC X N scope z) [] (inn js σ) H s' -> R (.ok .next) s') \/ (J.go i H /\ ∀ x H',J.yld i H x H' -> g x (inn js σ) H' fun σ2 H2=>tt σ2 H2 fun b H3=>
   if b = true then te σ2 H3 fun y H4=>∃ ys,H4 D = some (.lst ys) /\ ys.length < sizeLine /\ ∃ m',m' < m /\ W (i + 1) m' (upd H4 D (.lst (ys ++ [y]))) else ∃ m',m' < m /\ W (i + 1) m' H3))
  {s1:Shared} {H1:Hp} (I1:Inv (cxC X N scope z) [] (inn js σ) H1 s1) (t1:tn 0 s1.heap) (f1:∀ b ∈ fp,H1 b = none) (w1:W 0 n H1) :
  codeAny (model X.prog X.w) X.A (.compLoop (.ListComp elt [⟨tg,iter,ifs,0⟩] scope pos) 0 (.ref it) (.ref D) (compEnvC scope z.cl z.C X.env)) R s1:=by
 refine codeAny_loop (c:=.compLoop (.ListComp elt [⟨tg,iter,ifs,0⟩] scope pos) 0 (.ref it) (.ref D) (compEnvC scope z.cl z.C X.env)) rfl
  (fun k s'=>∃ i H',Inv (cxC X N scope z) [] (inn js σ) H' s' /\ tn i s'.heap /\ (∀ b ∈ fp,H' b = none) /\ W i k H') ?_ n ⟨0,H1,I1,t1,f1,w1⟩
 rintro k s2 ⟨i,H2,I2,t2,f2,w2⟩
 show wpAny (model X.prog X.w) X.A ((compTurn (.ListComp elt [⟨tg,iter,ifs,0⟩] scope pos) 0 (.ref it) (.ref D) (compEnvC scope z.cl z.C X.env)).onRaise fun x=>do noteFrame x (compEnvC scope z.cl z.C X.env);theTreesLotGoes x) _ _ s2
 refine wpAny_noted ?_
 rw [compTurn_list]
 refine Oh (wpAny_standAt ?_)
 rcases turn i k H2 w2 with ⟨stop,fin⟩ | ⟨go,step⟩
 ·refine Oh (thn (T.done (cxC X N scope z) rfl rfl rfl hc i [] s2 (inn js σ) H2 _ I2 (fun b hb=>hz b hb H2 (f2 b hb)) t2 stop) fun r s3 h3=>?_)
  obtain ⟨rfl,I3⟩:=h3
  exact Om (fin s3 I3)
 ·refine Oh (thn (T.item (cxC X N scope z) rfl rfl rfl hc i [] s2 (inn js σ) H2 _ I2 (fun b hb=>hz b hb H2 (f2 b hb)) t2 go) fun r s3 h3=>?_)
  obtain ⟨u,rfl,h3⟩:=h3
  refine Oh (thn h3 fun _ s4 h4=>?_)
  obtain ⟨x,H4,I4,r4,y4,t4,f4⟩:=h4
  have P4:=I4.pinned (fun b hb=>hz b hb H4 (f4 b hb)) (T.obj _ _ t4)
  have ff:∀ {e:Value} {s':Shared},(cxC X N scope z).xe e s' -> False:=fun h=>h
  refine Oh (PD (hg _ s4 (inn js σ) H4 x u _ P4 r4 (hs σ x (inn js σ) H4 _ (Lev.refl _) (step x H4 y4))) (fun _ s5 h5=>?_) fun _ _ h=>(ff h).elim)
  obtain ⟨σ5,H5,I5,lev,q5⟩:=h5
  refine Oh (PD (ht _ s5 σ5 H5 _ I5 q5) (fun ok s6 h6=>?_) fun _ _ h=>(ff h).elim)
  obtain ⟨H6,I6,q6⟩:=h6
  have again:∀ {s7:Shared} {H7:Hp},Inv (cxC X N scope z) ([] ++ o4 fp s4.heap) σ5 H7 s7 -> (∃ m',m' < k /\ W (i + 1) m' H7) -> ∃ m,m < k /\ ∃ i H',Inv (cxC X N scope z) [] (inn js σ) H' s7 /\ tn i s7.heap /\ (∀ b ∈ fp,H' b = none) /\ W i m H':=fun {s7 H7} I7 h7=>by
   obtain ⟨m',hm,w7⟩:=h7
   refine ⟨m',hm,i + 1,H7,(I7.unpinned).weak lev.1 lev.2,T.keep _ _ _ t4 fun b hb o e=>(I7.pin (b,o) (OB _ (OB _ (gA hb e)))).1,fun b hb=>?_,w7⟩
   obtain ⟨o,e,d⟩:=T.obj _ _ t4 b hb
   exact (I7.pin (b,o) (OB _ (OB _ (gA hb e)))).2.1
  cases ok with
  | false=>
   rw [Oi (by decide)] at q6
   exact Om ⟨rfl,again I6 q6⟩
  | true=>
   rw [Oj rfl] at q6
   refine Oh (Oh (PD (he _ s6 σ5 H6 _ I6 q6) (fun y s7 h7=>?_) fun _ _ h=>(ff h).elim))
   obtain ⟨vy,H7,I7,r7,ys,hD,hl,q7⟩:=h7
   refine Oh (PD (cU (X:=cxC X N scope z) _ s7 σ5 H7 (.ref D) [vy] (.ref D) [y] (fun _ H'=>∃ m',m' < k /\ W (i + 1) m' H') I7 rfl (.cons r7 .nil) ⟨D,ys,vy,rfl,rfl,hD,hl,q7⟩) (fun _ s8 h8=>?_) fun _ _ h=>(ff h).elim)
   obtain ⟨_,H8,I8,_,q8⟩:=h8
   exact Om (Om ⟨rfl,again I8 q8⟩)
theorem rN {E:Value -> Shared -> Prop} {RR:Value -> Addr -> Result -> Shared -> Prop} {Q:VK} {itv:Value} {s2:Shared} (ck:CmpOk XN sc scope N js) (hXN:X.N = XN) (hsc:X.env.scope = sc) (hc:X.calm = true)
  (hg:∀ z,PG (cxC X N scope z) tg g) (hs:zX js g) (ht:∀ z,PIf (cxC X N scope z) ifs tt) (he:∀ z,PE (cxC X N scope z) elt te)
  (h2:PIE X pins σ tg (fun J H1=>∀ D,H1 D = none -> ∃ W:Nat -> Nat -> Hp -> Prop,(∃ m,W 0 m (upd H1 D (.lst []))) /\ ∀ i m H,W i m H ->
   (J.stop i H /\ Q (.ref D) H) \/ (J.go i H /\ ∀ x H',J.yld i H x H' -> g x (inn js σ) H' fun σ2 H2=>tt σ2 H2 fun b H3=>
    if b = true then te σ2 H3 fun y H4=>∃ ys,H4 D = some (.lst ys) /\ ys.length < sizeLine /\ ∃ m',m' < m /\ W (i + 1) m' (upd H4 D (.lst (ys ++ [y]))) else ∃ m',m' < m /\ W (i + 1) m' H3)) itv s2)
  (hRR:∀ D C s' H' m o,Inv X (pins ++ [(C,o)]) σ H' s' -> s'.heap.Ns C m -> (X.s₀.heap.objs.size <= C /\ C ≠ X.env.locals /\ (∀ x c,X.env.cells.lookup x = some c -> c ≠ C) /\ ∀ p ∈ X.pn ++ pins,p.1 ≠ C) -> H' C = none -> Q (.ref D) H' -> RR (.ref D) C (.ok .next) s') :
  wpAny (model X.prog X.w) X.A (newList []) (fun acc s₃=>wpAny (model X.prog X.w) X.A (newFunctionEnv scope X.env.globals (kn X.env scope.names []) [] X.env.qual none .none (some X.env)) (fun cenv s₄=>
   codeAny (model X.prog X.w) X.A (.compStart (.ListComp elt [⟨tg,iter,ifs,0⟩] scope pos) 0 itv acc { cenv with scope:=relabel scope X.env }) (RR acc cenv.locals) s₄) E s₃) E s2:=by
 obtain ⟨it,fp,tn,J,H2,rfl,I2,T,t2,f2,q2⟩:=h2
 have fo:∀ b ∈ fp,b < s2.heap.objs.size:=fun b hb=>by
  obtain ⟨o,e,_⟩:=T.obj _ _ t2 b hb
  exact Oz e
 have hD:H2 s2.heap.objs.size = none:=I2.fresh
 obtain ⟨W,⟨n,w0⟩,turn⟩:=q2 _ hD
 refine Pc (wpAny_newFunctionEnv ck.cell (by intro y hy;simp at hy) (fun h1 hns hsb=>?_) ck.kind)
 have I3:Inv X pins σ (upd H2 s2.heap.objs.size (.lst [])) { s2 with heap:=s2.heap.push { cls:=.type "list",data:=.seq ([]:List Value).toArray },toks:=s2.toks }:=I2.lnew (its:=[]) .nil (O9 _)
 have f3:∀ b ∈ fp,rd X pins (upd H2 s2.heap.objs.size (.lst [])) b:=fun b hb=>by
  obtain ⟨g0,g1⟩:=f2 b hb
  exact ⟨by rw [aB (OE (fo b hb))];exact g0,g1⟩
 have sz:(s2.heap.push { cls:=.type "list",data:=.seq ([]:List Value).toArray }).objs.size = s2.heap.objs.size + 1:=QY _ _
 have kept:∀ b o,(s2.heap.push { cls:=.type "list",data:=.seq ([]:List Value).toArray }).get? b = some o -> h1.get? b = some o:=fun b o e=>
  hsb.extBut b o (OE (Oz e)) (OA _ e)
 have I4:=EJ (tk:=s2.toks + ([]:List (Str × Value)).length) ck hXN hsc I3 f3 (fun b hb=>by show b < (s2.heap.push _).objs.size;rw [sz];exact QB (fo b hb)) hns kept
 have t4:tn 0 h1:=T.keep _ _ _ t2 fun b hb o e=>kept b o (OA _ e)
 have fz:∀ b ∈ fp,∀ H',H' b = none -> rd (cxC X N scope ⟨kn X.env scope.names [],(s2.heap.push { cls:=.type "list",data:=.seq ([]:List Value).toArray }).objs.size,{ s2 with heap:=s2.heap.push { cls:=.type "list",data:=.seq ([]:List Value).toArray },toks:=s2.toks },upd H2 s2.heap.objs.size (.lst []),fp,pins⟩) [] H' b:=fun b hb H' hn=>by
  obtain ⟨g0,g1,g2,g3,g4,g5⟩:=f3 b hb
  refine ⟨hn,(I4.ok.exf b hb).1,I4.ok.exfs b hb,.inl hb,(I4.ok.exf b hb).2,fun p hp=>?_⟩
  exact g5 p (by simpa [cxC] using hp)
 have loop:=CK (X:=X) (σ:=σ) (N:=N) (scope:=scope) (js:=js) (iter:=iter) (pos:=pos) (E:=E) (R:=RR (.ref s2.heap.objs.size) (s2.heap.push { cls:=.type "list",data:=.seq ([]:List Value).toArray }).objs.size) (D:=s2.heap.objs.size) (W:=W) (n:=n)
  hc T fz (hg _) hs (ht _) (he _) (fun i m H w=>(turn i m H w).imp (fun a=>⟨a.1,fun s' Y=>?_⟩) id) I4 t4 (fun b hb=>(f3 b hb).1) w0
 ·exact codeAny_compStart_list loop (T.self _ 0 _ _ _ t4 loop)
 ·have bb:=Y.base
  have J0:Inv X pins σ H s':=I3.call' Y.os bb Y.hok Y.bare fun b hb=>by
   obtain ⟨g0,g1,g2,g3,g4,g5⟩:=f3 b hb
   exact ⟨g3,g1,g4,g5⟩
  obtain ⟨mC,nC,_⟩:=Y.loc
  obtain ⟨oC,eC,dC⟩:∃ o,s'.heap.get? (s2.heap.push { cls:=.type "list",data:=.seq ([]:List Value).toArray }).objs.size = some o /\ ∀ v,o.data ≠ .cell v:=by
   obtain ⟨o,es,ep,ho,hd,_⟩:=nC
   exact ⟨o,ho,fun v z=>by rw [hd] at z;cases z⟩
  have lC:X.s₀.heap.objs.size <= (s2.heap.push { cls:=.type "list",data:=.seq ([]:List Value).toArray }).objs.size:=I3.sz
  have cC:(s2.heap.push { cls:=.type "list",data:=.seq ([]:List Value).toArray }).objs.size ≠ X.env.locals:=P5 I3.lt
  have kC:∀ x c,X.env.cells.lookup x = some c -> c ≠ (s2.heap.push { cls:=.type "list",data:=.seq ([]:List Value).toArray }).objs.size:=fun x c e=>by
   obtain ⟨v,q⟩:=I3.cell x c e
   exact OE q.lt
  have pC:∀ p ∈ X.pn ++ pins,p.1 ≠ (s2.heap.push { cls:=.type "list",data:=.seq ([]:List Value).toArray }).objs.size:=fun p hp=>OE (Oz (I3.pin p hp).1)
  have J1:Inv X (pins ++ [((s2.heap.push { cls:=.type "list",data:=.seq ([]:List Value).toArray }).objs.size,oC)]) σ H s':=J0.pins_of fun p hp=>by
   rcases OC.mp hp with hp | hp
   ·exact J0.pin p (OB _ hp)
   ·rw [Ot.mp hp]
    exact ⟨eC,Y.free,cC,I3.nofs (Op _),dC⟩
  exact hRR _ _ s' H mC oC J1 nC ⟨lC,cC,kC,pC⟩ Y.free a.2
theorem cz (ck:CmpOk XN sc scope N js) (hi:PI X tg iter wi) (hg:∀ z,PG (cxC X N scope z) tg g) (hs:zX js g) (ht:∀ z,PIf (cxC X N scope z) ifs tt) (he:∀ z,PE (cxC X N scope z) elt te)
  (hXN:X.N = XN:=by rfl) (hsc:X.env.scope = sc:=by rfl) (hc:X.calm = true:=by rfl) (hf:∀ x,foldedSetIterable iter X.env x = pure x:=by intro _;rfl) :
  PE X (.ListComp elt [⟨tg,iter,ifs,0⟩] scope pos) (Cl js wi g tt te):=by
 intro pins s σ H Q I h
 rw [eval_ListComp]
 have hcl:closureFor scope X.env = pure (kn X.env scope.names []):=rM fun y hy hk=>I.ok.has y.1 (by
  have:=ck.free y hy hk
  rw [<- hsc] at this
  exact this)
 refine wpAny_comprehension_free (use:=none) rfl hf hcl ck.kind ck.loc (thn (hi pins s σ H _ I h) fun v s1 h1=>thn h1 fun itv s2 h2=>?_)
 refine rN (RR:=fun acc C=>compPost (model X.prog X.w) X.A X.xe none (EP X pins σ Q) acc C) ck hXN hsc hc hg hs ht he h2 ?_
 intro D C s' H' m o J nC hC fC q
 refine ⟨m,nC,fun h' sb=>⟨.ref D,H',?_,rfl,q⟩⟩
 have J0:Inv X pins σ H' s':=J.unpinned
 exact J0.turned (t':=s'.toks) (it:=C) (fun b o hb e=>sb.extBut b o hb e) fC hC.2.1 (.inr hC.1) hC.2.2.1 hC.2.2.2
theorem Ca {i:Nat} {y:Str} {pos' spos:Pos} (ck:CmpOk XN sc scope N js) (hN:X.N.Nodup) (hi0:X.N[i]? = some y) (hx:Loc X.env.scope y) (hi:PI X tg iter wi) (hg:∀ z,PG (cxC X N scope z) tg g) (hs:zX js g) (ht:∀ z,PIf (cxC X N scope z) ifs tt) (he:∀ z,PE (cxC X N scope z) elt te)
  (hsw:swapsWith (.ListComp elt [⟨tg,iter,ifs,0⟩] scope pos) (some (.Name y pos')) spos.line X.env = pure true:=by rfl)
  (hXN:X.N = XN:=by rfl) (hsc:X.env.scope = sc:=by rfl) (hc:X.calm = true:=by rfl) (hf:∀ x,foldedSetIterable iter X.env x = pure x:=by intro _;rfl)
  (hfn:X.fn y = true \/ X.env.scope.names.lookup y = some .local:=by first | exact .inl rfl | exact .inr rfl | assumption) :
  PS X (.Assign [.Name y pos'] (.ListComp elt [⟨tg,iter,ifs,0⟩] scope pos) spos) (zE (Cl js wi g tt te) (kx i)):=by
 intro pins s σ H D I h
 rw [exec_Assign_Name_used _ _ _ _ hsw]
 have hcl:closureFor scope X.env = pure (kn X.env scope.names []):=rM fun y hy hk=>I.ok.has y.1 (by
  have:=ck.free y hy hk
  rw [<- hsc] at this
  exact this)
 refine Oh (wpAny_standAt (Oh ?_))
 show wpAny (model X.prog X.w) X.A (comprehension (.ListComp elt [⟨tg,iter,ifs,0⟩] scope pos) scope X.env _ (newList []) false (eval iter X.env) (some (assign (.Name y pos') X.env)) >>= fun _=>pure ()) _ _ s
 refine Oh (thn (wpAny_comprehension_free (use:=some (assign (.Name y pos') X.env)) (Q:=fun _ s'=>SP X pins D .next s') rfl hf hcl ck.kind ck.loc (thn (hi pins s σ H _ I h) fun v s1 h1=>thn h1 fun itv s2 h2=>?_)) fun _ s' q=>Om (Om q))
 refine rN (RR:=fun acc C=>compPost (model X.prog X.w) X.A X.xe (some (assign (.Name y pos') X.env)) (fun _ s'=>SP X pins D .next s') acc C) (Q:=fun x H1=>kx i x σ H1 D.nx) ck hXN hsc hc hg hs ht he h2 ?_
 intro A C s' H' m o J nC hC fC q
 refine thn (av hN hi0 hx hfn _ s' σ H' (.ref A) (.ref A) _ J rfl q) fun _ s3 h3=>?_
 obtain ⟨σ3,H3,J3,q3⟩:=h3
 have pc:=J3.pin (C,o) (OB _ (OB _ Oq))
 have oC:s'.heap.get? C = some o:=(J.pin (C,o) (OB _ (OB _ Oq))).1
 refine ⟨m,nC.at' fun o' e=>?_,fun h' sb=>⟨σ3,H3,?_,q3⟩⟩
 ·rw [oC] at e
  cases e
  exact pc.1
 ·have J0:Inv X pins σ3 H3 s3:=J3.unpinned
  exact J0.turned (t':=s3.toks) (it:=C) (fun b o hb e=>sb.extBut b o hb e) pc.2.1 hC.2.1 (.inr hC.1) hC.2.2.1 hC.2.2.2
end
end L2
namespace Srt
open PySem PySem.W PyProof.Rows
section
variable {α β:Type} (lt:Nat -> Nat -> Bool) (n:Nat)
end
section
variable {lt:Nat -> Nat -> Bool} {le:Nat -> Nat -> Prop} {n:Nat} {p:Array Nat}
noncomputable abbrev at' (p:Array Nat) (i:Nat):Nat:=p.getD i 0
theorem xK {p q:Array Nat} {i j:Nat} (h:p[i]? = q[j]?):at' p i = at' q j:=by
 have e:∀ (r:Array Nat) (k:Nat),at' r k = (r[k]?).getD 0:=fun r k=>by simp [at']
 rw [e,e,h]
def Asc (le:Nat -> Nat -> Prop) (p:Array Nat) (m:Nat):Prop:=∀ i j,i <= j -> j < m -> le (at' p i) (at' p j)
def Bel (n:Nat) (p:Array Nat):Prop:=∀ k,at' p k < n
structure Ord (lt:Nat -> Nat -> Bool) (le:Nat -> Nat -> Prop):Prop where
 tr:∀ a b c,le a b -> le b c -> le a c
 rf:∀ a,le a a
 yes:∀ a b,lt a b = true -> le a b
 no:∀ a b,lt a b = false -> le b a
theorem Ja (hn:0 < n) (hp:p.Perm (List.range n).toArray):Bel n p:=fun k=>by
 have e:at' p k = (p[k]?).getD 0:=by simp [at']
 rw [e]
 cases h:p[k]? with
 | none=>exact hn
 | some v=>
  have hm:v ∈ p:=Array.mem_of_getElem? h
  have:=(QC.mp hp).mem_iff.mp (Array.mem_toList_iff.mpr hm)
  simpa using this
theorem bU {i j:Nat} (hj:j <= p.size) (k:Nat):at' (kas_rev p i j) k = if i <= k /\ k < j then at' p (i + j - 1 - k) else at' p k:=by
 have e:=getElem?_mirror_all (i:=i) hj k
 by_cases h:i <= k /\ k < j
 ·rw [Oj h] at e ⊢;exact xK e
 ·rw [Oi h] at e ⊢;exact xK e
variable {z:Nat}
theorem n6 {src d:Nat} (hs:src < p.size) (hd:d <= src) (k:Nat):at' (bubble p src d) k = if k = src - d then at' p src else if src - d < k /\ k <= src then at' p (k - 1) else at' p k:=by
 have e:=getElem?_bubble hs d hd k
 by_cases h1:k = src - d
 ·rw [Oj h1] at e ⊢;exact xK e
 ·rw [Oi h1] at e ⊢
  by_cases h2:src - d < k /\ k <= src
  ·rw [Oj h2] at e ⊢;exact xK e
  ·rw [Oi h2] at e ⊢;exact xK e
end
theorem xh {α:Type} {le:Nat -> Nat -> Prop} {p:Array Nat} {vs:List α} {d:α} (hp:p.Perm (List.range vs.length).toArray) (ha:Asc le p vs.length) :
  (p.toList.map fun i=>vs.getD i d).Perm vs /\ ∀ R:α -> α -> Prop,(∀ i j,i < vs.length -> j < vs.length -> le i j -> R (vs.getD i d) (vs.getD j d)) -> (p.toList.map fun i=>vs.getD i d).Pairwise R:=by
 have hl:p.toList.Perm (List.range vs.length):=by simpa using QC.mp hp
 constructor
 ·have h1:(p.toList.map fun i=>vs.getD i d).Perm ((List.range vs.length).map fun i=>vs.getD i d):=hl.map _
  have h2:((List.range vs.length).map fun i=>vs.getD i d) = vs:=by
   apply List.ext_getElem
   ·simp
   ·intro i h1 h2;simp at h1;simp [h1]
  rw [h2] at h1
  exact h1
 ·intro R hR
  rw [Pw,Rx]
  intro i j hi hj hij
  have hs:p.toList.length = vs.length:=by rw [hl.length_eq];simp
  have m:∀ k (hk:k < p.toList.length),p.toList[k] < vs.length:=fun k hk=>by simpa using hl.mem_iff.mp (List.getElem_mem hk)
  have a:∀ k (hk:k < p.toList.length),at' p k = p.toList[k]:=fun k hk=>by
   have:k < p.size:=by simpa using hk
   simp [at',Array.getD,this]
  refine hR _ _ (m i hi) (m j hj) ?_
  rw [<- a i hi,<- a j hj]
  exact ha i j (O4 hij) (by lia)
noncomputable def G5:Bool -> Keyed -> Array Keyed -> Nat -> Nat -> Nat -> StateT SortSt Sem (Option Nat):=sortPriv% PySem.Builtin.gallop
noncomputable def E1:Array Keyed -> Array Keyed -> StateT SortSt Sem (Array Keyed):=sortPriv% PySem.Builtin.mergeLo
noncomputable def EZ:Array Keyed -> Array Keyed -> StateT SortSt Sem (Array Keyed):=sortPriv% PySem.Builtin.mergeHi
section
variable {prog:Program} {w:World} {A:Around} {E:Value -> Shared -> Prop} {s:Shared} {κ:SortKind} {it:Array Keyed} {n:Nat} {lt:Nat -> Nat -> Bool} {le:Nat -> Nat -> Prop}
def tW (prog:Program) (w:World) (A:Around) (s:Shared) (κ:SortKind) (it:Array Keyed) (n:Nat) (lt:Nat -> Nat -> Bool):Prop:=
 ∀ i j (C:Bool -> Shared -> Prop),i < n -> j < n -> C (lt i j) s -> kas_cmp prog w A κ it i j C s
theorem w_lt (hc:tW prog w A s κ it n lt) {i j:Nat} {Q:Option Bool -> SortSt -> Prop} {st:SortSt} (hk:kindOf st = κ) (hi:i < n) (hj:j < n) (h:Q (some (lt i j)) st):wpS (model prog w) A E s (lt' (kas_item it i) (kas_item it j)) Q st:=by
 rw [lt'_eq]
 refine Ol (Pk ?_)
 rw [hk]
 refine Ol (P9 (QZ (PD (hc i j (fun c s'=>s' = s /\ c = lt i j) hi hj ⟨rfl,rfl⟩) (fun c s' h'=>?_) fun _ _ hF=>hF.elim)))
 obtain ⟨rfl,rfl⟩:=h'
 exact ⟨rfl,Oo h⟩
theorem bP {X:Array Nat} {k:Nat} {Q:Keyed -> SortSt -> Prop} {st:SortSt} (hk:k < X.size) (h:Q (kas_item it (at' X k)) st):wpS (model prog w) A E s (elem' (X.map (kas_item it)) k) Q st:=by
 rw [elem'_eq]
 have e:at' X k = X[k]:=by simp [at',hk]
 rw [e] at h
 have e2:(X.map (kas_item it))[k]? = some (kas_item it X[k]):=by simp [hk]
 rw [e2]
 exact Oo h
theorem iR (o:Ord lt le) (hc:tW prog w A s κ it n lt) {left:Bool} {key:Nat} {X:Array Nat} {base m hint:Nat} {Q:Option Nat -> SortSt -> Prop} {st:SortSt} (hk:kindOf st = κ) (hb:∀ i,i < X.size -> at' X i < n) (hkey:key < n)
  (hz:base + m <= X.size) (hh:hint < m) (hs:∀ i j,i <= j -> j < m -> le (at' X (base + i)) (at' X (base + j)))
  (h:∀ k,k <= m -> (∀ i,i < k -> le (at' X (base + i)) key) -> (∀ i,k <= i -> i < m -> le key (at' X (base + i))) -> Q (some k) st) :
  wpS (model prog w) A E s (G5 left (kas_item it key) (X.map (kas_item it)) base m hint) Q st:=by
 have bey:∀ i,i < m -> ∀ (R:Option Bool -> SortSt -> Prop),(∀ c,(c = true -> le (at' X (base + i)) key) -> (c = false -> le key (at' X (base + i))) -> R (some c) st) -> wpS (model prog w) A E s (do
   let x ← elem' (X.map (kas_item it)) (base + i)
   if left = true then lt' x (kas_item it key) else do
    let r ← lt' (kas_item it key) x
    pure (Option.map (fun x=>!x) r)) R st:=fun i hi R hR=>by
  refine Ol (bP (by lia) ?_)
  have hx:=hb (base + i) (by lia)
  cases left with
  | true=>
   rw [Oj rfl]
   exact w_lt hc hk hx hkey (hR _ (o.yes _ _) (o.no _ _))
  | false=>
   rw [Oi (by decide)]
   refine Ol (w_lt hc hk hkey hx (Oo ?_))
   refine hR _ (fun e=>o.no _ _ (by simpa using e)) (fun e=>o.yes _ _ (by simpa using e))
 have lo':∀ k,k < m -> le (at' X (base + k)) key -> ∀ i,i <= k -> le (at' X (base + i)) key:=fun k hk hl i hi=>o.tr _ _ _ (hs i k hi hk) hl
 have hi':∀ k,k < m -> le key (at' X (base + k)) -> ∀ i,k <= i -> i < m -> le key (at' X (base + i)):=fun k hk hl i hi him=>o.tr _ _ _ hl (hs k i hi him)
 refine Ol (bey hint hh _ fun c c1 c2=>?_)
 dsimp only
 cases c with
 | true=>
  rw [Oj rfl]
  refine Ol (O6 (O7 (I:=fun x c st'=>st' = st /\ ∃ l f,c = (none,l,f) /\ x + 1 <= f /\ hint + l < m /\ le (at' X (base + (hint + l))) key)
   (Q:=fun c st'=>st' = st /\ ∃ l f,c = (none,l,f) /\ hint + l < m /\ le (at' X (base + (hint + l))) key /\ (f < m - hint -> le key (at' X (base + (hint + f))))) ?s1 ?f1 ?i1) ?p1)
  case i1=>exact ⟨rfl,0,1,rfl,by lia,by lia,c1 rfl⟩
  case f1=>
   rintro c st' ⟨rfl,l,f,rfl,h1,h2,h3⟩
   exact ⟨rfl,l,f,rfl,h2,h3,fun _=>by lia⟩
  case s1=>
   rintro x c st' _ hx ⟨rfl,l,f,rfl,h1,h2,h3⟩
   dsimp only
   by_cases hge:f ≥ m - hint
   ·rw [Oj hge]
    exact Oo ⟨rfl,l,f,rfl,h2,h3,fun _=>by lia⟩
   ·rw [Oi hge]
    refine Ol (bey (hint + f) (by lia) _ fun c d1 d2=>?_)
    dsimp only
    cases c with
    | true=>exact Oo ⟨rfl,f,2 * f + 1,rfl,by lia,by lia,d1 rfl⟩
    | false=>exact Oo ⟨rfl,l,f,rfl,h2,h3,fun _=>d2 rfl⟩
  case p1=>
   rintro c st' ⟨rfl,l,f,rfl,h2,h3,h4⟩
   dsimp only
   have g1:∀ i,i < hint + l + 1 -> i < m -> le (at' X (base + i)) key:=fun i hi _=>lo' _ h2 h3 i (by lia)
   have g2:∀ i,hint + min f (m - hint) <= i -> i < m -> le key (at' X (base + i)):=fun i hi him=>hi' (hint + f) (by lia) (h4 (by lia)) i (by lia) him
   have g3:hint + min f (m - hint) <= m:=by lia
   generalize hint + l + 1 = L at g1 ⊢
   generalize hint + min f (m - hint) = H at g2 g3 ⊢
   refine Ol (O6 (O7 (I:=fun x c st2=>st2 = st' /\ ∃ l h,c = (none,l,h) /\ h <= m /\ h - l <= m - x /\ (∀ i,i < l -> i < m -> le (at' X (base + i)) key) /\ (∀ i,h <= i -> i < m -> le key (at' X (base + i))))
    (Q:=fun c st2=>st2 = st' /\ ∃ l h,c = (none,l,h) /\ h <= m /\ h <= l /\ (∀ i,i < l -> i < m -> le (at' X (base + i)) key) /\ (∀ i,h <= i -> i < m -> le key (at' X (base + i)))) ?s2 ?f2 ?i2) ?p2)
   case i2=>exact ⟨rfl,L,H,rfl,g3,by lia,g1,g2⟩
   case f2=>
    rintro c st2 ⟨rfl,l,h,rfl,k1,k2,k3,k4⟩
    exact ⟨rfl,l,h,rfl,k1,by lia,k3,k4⟩
   case s2=>
    rintro x c st2 _ hx ⟨rfl,l,h,rfl,k1,k2,k3,k4⟩
    dsimp only
    by_cases hge:l ≥ h
    ·rw [Oj hge]
     exact Oo ⟨rfl,l,h,rfl,k1,hge,k3,k4⟩
    ·rw [Oi hge]
     refine Ol (bey (l + (h - l) / 2) (by lia) _ fun c d1 d2=>?_)
     dsimp only
     cases c with
     | true=>exact Oo ⟨rfl,_,_,rfl,k1,by lia,fun i hi him=>lo' _ (by lia) (d1 rfl) i (by lia),k4⟩
     | false=>exact Oo ⟨rfl,_,_,rfl,by lia,by lia,k3,fun i hi him=>hi' _ (by lia) (d2 rfl) i hi him⟩
   case p2=>
    rintro c st2 ⟨rfl,l,h',rfl,k1,k2,k3,k4⟩
    exact Oo (h h' k1 (fun i hi=>k3 i (by lia) (by lia)) k4)
 | false=>
  rw [Oi (by decide)]
  refine Ol (O6 (O7 (I:=fun x c st'=>st' = st /\ ∃ l f,c = (none,l,f) /\ x + 1 <= f /\ l <= hint /\ le key (at' X (base + (hint - l))))
   (Q:=fun c st'=>st' = st /\ ∃ l f,c = (none,l,f) /\ l <= hint /\ le key (at' X (base + (hint - l))) /\ (f < hint + 1 -> le (at' X (base + (hint - f))) key)) ?s1 ?f1 ?i1) ?p1)
  case i1=>exact ⟨rfl,0,1,rfl,by lia,by lia,c2 rfl⟩
  case f1=>
   rintro c st' ⟨rfl,l,f,rfl,h1,h2,h3⟩
   exact ⟨rfl,l,f,rfl,h2,h3,fun _=>by lia⟩
  case s1=>
   rintro x c st' _ hx ⟨rfl,l,f,rfl,h1,h2,h3⟩
   dsimp only
   by_cases hge:f ≥ hint + 1
   ·rw [Oj hge]
    exact Oo ⟨rfl,l,f,rfl,h2,h3,fun _=>by lia⟩
   ·rw [Oi hge]
    refine Ol (bey (hint - f) (by lia) _ fun c d1 d2=>?_)
    dsimp only
    cases c with
    | true=>exact Oo ⟨rfl,l,f,rfl,h2,h3,fun _=>d1 rfl⟩
    | false=>exact Oo ⟨rfl,f,2 * f + 1,rfl,by lia,by lia,d2 rfl⟩
  case p1=>
   rintro c st' ⟨rfl,l,f,rfl,h2,h3,h4⟩
   dsimp only
   have g1:∀ i,i < hint + 1 - min f (hint + 1) -> i < m -> le (at' X (base + i)) key:=fun i hi _=>lo' (hint - f) (by lia) (h4 (by lia)) i (by lia)
   have g2:∀ i,hint - l <= i -> i < m -> le key (at' X (base + i)):=fun i hi him=>hi' (hint - l) (by lia) h3 i (by lia) him
   have g3:hint - l <= m:=by lia
   generalize hint + 1 - min f (hint + 1) = L at g1 ⊢
   generalize hint - l = H at g2 g3 ⊢
   refine Ol (O6 (O7 (I:=fun x c st2=>st2 = st' /\ ∃ l h,c = (none,l,h) /\ h <= m /\ h - l <= m - x /\ (∀ i,i < l -> i < m -> le (at' X (base + i)) key) /\ (∀ i,h <= i -> i < m -> le key (at' X (base + i))))
    (Q:=fun c st2=>st2 = st' /\ ∃ l h,c = (none,l,h) /\ h <= m /\ h <= l /\ (∀ i,i < l -> i < m -> le (at' X (base + i)) key) /\ (∀ i,h <= i -> i < m -> le key (at' X (base + i)))) ?s2 ?f2 ?i2) ?p2)
   case i2=>exact ⟨rfl,L,H,rfl,g3,by lia,g1,g2⟩
   case f2=>
    rintro c st2 ⟨rfl,l,h,rfl,k1,k2,k3,k4⟩
    exact ⟨rfl,l,h,rfl,k1,by lia,k3,k4⟩
   case s2=>
    rintro x c st2 _ hx ⟨rfl,l,h,rfl,k1,k2,k3,k4⟩
    dsimp only
    by_cases hge:l ≥ h
    ·rw [Oj hge]
     exact Oo ⟨rfl,l,h,rfl,k1,hge,k3,k4⟩
    ·rw [Oi hge]
     refine Ol (bey (l + (h - l) / 2) (by lia) _ fun c d1 d2=>?_)
     dsimp only
     cases c with
     | true=>exact Oo ⟨rfl,_,_,rfl,k1,by lia,fun i hi him=>lo' _ (by lia) (d1 rfl) i (by lia),k4⟩
     | false=>exact Oo ⟨rfl,_,_,rfl,by lia,by lia,k3,fun i hi him=>hi' _ (by lia) (d2 rfl) i hi him⟩
   case p2=>
    rintro c st2 ⟨rfl,l,h',rfl,k1,k2,k3,k4⟩
    exact Oo (h h' k1 (fun i hi=>k3 i (by lia) (by lia)) k4)
end
end Srt
namespace Srt
section
variable {le:Nat -> Nat -> Prop} {tot out ra rb xs:List Nat}
def Inv (le:Nat -> Nat -> Prop) (tot out ra rb:List Nat):Prop:=(out ++ ra).Pairwise le /\ (out ++ rb).Pairwise le /\ (out ++ (ra ++ rb)).Perm tot
theorem Inv.symm (h:Inv le tot out ra rb):Inv le tot out rb ra:=⟨h.2.1,h.1,(RV _ List.perm_append_comm).trans h.2.2⟩
theorem Inv.block (h:Inv le tot out (xs ++ ra) rb) (k:∀ x ∈ xs,∀ y ∈ rb,le x y):Inv le tot (out ++ xs) ra rb:=by
 obtain ⟨h1,h2,h3⟩:=h
 refine ⟨by rw [OV];exact h1,?_,by rw [OV,<- OV xs];exact h3⟩
 rw [OX] at h1 h2
 rw [OV,OX]
 obtain ⟨a1,a2,a3⟩:=h1
 obtain ⟨b1,b2,b3⟩:=h2
 rw [OX] at a2
 refine ⟨a1,OX.mpr ⟨a2.1,b2,k⟩,fun x hx y hy=>?_⟩
 rcases OC.mp hy with hy | hy
 ·exact a3 x hx y (OH _ hy)
 ·exact b3 x hx y hy
theorem Inv.doneA (h:Inv le tot out ra []):(out ++ ra).Pairwise le /\ (out ++ ra).Perm tot:=⟨h.1,by have:=h.2.2;rwa [OZ] at this⟩
theorem Inv.lastA {x:Nat} (h:Inv le tot out [x] rb) (k:∀ y ∈ rb,le y x):(out ++ (rb ++ [x])).Pairwise le /\ (out ++ (rb ++ [x])).Perm tot:=by
 refine ⟨?_,(RV _ List.perm_append_comm).trans h.2.2⟩
 obtain ⟨h1,h2,_⟩:=h
 rw [OX] at h1 h2
 rw [OX]
 refine ⟨h1.1,OX.mpr ⟨h2.2.1,QD _ _,fun y hy z hz=>?_⟩,fun a ha b hb=>?_⟩
 ·rw [Ot] at hz;subst hz;exact k y hy
 ·rcases OC.mp hb with hb | hb
  ·exact h2.2.2 a ha b hb
  ·exact h1.2.2 a ha b hb
end
section
variable {X Y O:Array Nat} {le:Nat -> Nat -> Prop} {tot:List Nat}
theorem I0 {i:Nat} (h:i < X.size):at' X i = X[i]:=by simp [at',h]
theorem jc {i:Nat} (h:i < X.size):X.toList[i]'(by simpa using h) = at' X i:=by rw [I0 h];simp
theorem wG {i:Nat} (h:i < X.size):X.toList.drop i = at' X i :: X.toList.drop (i + 1):=by
 rw [Q0 (by simpa using h),jc h]
theorem m8 {i j:Nat} (h:i <= j):X.toList.drop i = (X.extract i j).toList ++ X.toList.drop j:=by
 rw [Q1,Q2]
 have e:X.toList.drop j = (X.toList.drop i).drop (j - i):=by rw [List.drop_drop];congr 1;lia
 rw [e,Ry]
theorem sJ {i x:Nat} (h:x ∈ X.toList.drop i):∃ j,i <= j /\ j < X.size /\ at' X j = x:=by
 obtain ⟨k,hk⟩:=RX h
 rw [Q3] at hk
 obtain ⟨h1,h2⟩:=O5.mp hk
 have h1':i + k < X.size:=by simpa using h1
 exact ⟨i + k,by lia,h1',by rw [<- jc h1'];exact h2⟩
theorem qR {i j x:Nat} (h:x ∈ (X.extract i j).toList):∃ k,i <= k /\ k < j /\ k < X.size /\ at' X k = x:=by
 obtain ⟨k,hk⟩:=RX h
 rw [Q1,Q2,Rz] at hk
 split at hk
 ·rw [Q3] at hk
  obtain ⟨h1,h2⟩:=O5.mp hk
  have h1':i + k < X.size:=by simpa using h1
  exact ⟨i + k,by lia,by lia,h1',by rw [<- jc h1'];exact h2⟩
 ·cases hk
abbrev J (le:Nat -> Nat -> Prop) (tot:List Nat) (X Y O:Array Nat) (ia ib:Nat):Prop:=Inv le tot O.toList (X.toList.drop ia) (Y.toList.drop ib)
variable {ia ib:Nat}
theorem J.one (j:J le tot X Y O ia ib) (h:ia < X.size) (k:∀ i,ib <= i -> i < Y.size -> le (at' X ia) (at' Y i)):J le tot X Y (O.push (at' X ia)) (ia + 1) ib:=by
 unfold J at j ⊢
 rw [wG h] at j
 have:=Inv.block (xs:=[at' X ia]) j (fun x hx y hy=>by
  rw [Ot] at hx
  subst hx
  obtain ⟨i,h1,h2,rfl⟩:=sJ hy
  exact k i h1 h2)
 rwa [Qa]
theorem J.blk {m:Nat} (j:J le tot X Y O ia ib) (k:∀ i l,ia <= i -> i < ia + m -> i < X.size -> ib <= l -> l < Y.size -> le (at' X i) (at' Y l)):J le tot X Y (O ++ X.extract ia (ia + m)) (ia + m) ib:=by
 unfold J at j ⊢
 rw [m8 (j:=ia + m) (by lia)] at j
 have:=Inv.block j (fun x hx y hy=>by
  obtain ⟨i,h1,h2,h3,rfl⟩:=qR hx
  obtain ⟨l,h4,h5,rfl⟩:=sJ hy
  exact k i l h1 h2 h3 h4 h5)
 rwa [PR]
theorem J.sy (j:J le tot X Y O ia ib):J le tot Y X O ib ia:=Inv.symm j
abbrev ka (le:Nat -> Nat -> Prop) (tot:List Nat) (R:Array Nat):Prop:=R.toList.Pairwise le /\ R.toList.Perm tot
theorem J.done1 (j:J le tot X Y O ia ib) (h:Y.size <= ib) (h2:ia <= X.size):ka le tot (O ++ X.extract ia X.size ++ Y.extract ib Y.size):=by
 unfold J at j
 rw [QE (l:=Y.toList) (by simpa using h)] at j
 have e:(Y.extract ib Y.size) = #[]:=by simp;lia
 have e2:X.toList.drop ia = (X.extract ia X.size).toList:=by rw [m8 h2];simp
 rw [e,Array.append_empty]
 unfold ka
 rw [PR,<- e2]
 exact j.doneA
theorem J.done2 (j:J le tot X Y O ia ib) (h:X.size <= ia) (h2:ib <= Y.size):ka le tot (O ++ X.extract ia X.size ++ Y.extract ib Y.size):=by
 have e:(X.extract ia X.size) = #[]:=by simp;lia
 have:=j.sy.done1 h h2
 rw [e,Array.append_empty] at this ⊢
 exact this
theorem J.last (j:J le tot X Y O ia ib) (h:ia + 1 = X.size) (h2:ib <= Y.size) (k:∀ i,i < Y.size -> le (at' Y i) (at' X ia)):ka le tot (O ++ Y.extract ib Y.size ++ X.extract ia X.size):=by
 unfold J at j
 rw [wG (by lia),QE (l:=X.toList) (i:=ia + 1) (by simp;lia)] at j
 have:=j.lastA fun y hy=>by
  obtain ⟨i,h1,h2,rfl⟩:=sJ hy
  exact k i h2
 have e:(X.extract ia X.size).toList = [at' X ia]:=by
  have e2:X.toList.drop ia = (X.extract ia X.size).toList:=by rw [m8 (j:=X.size) (by lia)];simp
  rw [<- e2,wG (by lia),QE (l:=X.toList) (i:=ia + 1) (by simp;lia)]
 have e3:Y.toList.drop ib = (Y.extract ib Y.size).toList:=by rw [m8 h2];simp
 unfold ka
 rw [PR,PR,e,<- e3,OV]
 exact this
end
end Srt
namespace Srt
open PySem PySem.W PyProof.Rows
section
variable {prog:Program} {w:World} {A:Around} {E:Value -> Shared -> Prop} {s:Shared} {κ:SortKind} {it:Array Keyed} {n:Nat} {lt:Nat -> Nat -> Bool} {le:Nat -> Nat -> Prop}
def Same (κ:SortKind) (st st':SortSt):Prop:=kindOf st' = κ /\ arrOf st' = arrOf st /\ pendingOf st' = pendingOf st /\ failedOf st' = failedOf st
theorem Same.g {st st2:SortSt} (h:Same κ st st2) (g:Nat):Same κ st (SortSt.mk' (kindOf st2) (arrOf st2) (pendingOf st2) g (failedOf st2)):=h
theorem jK {σ α:Type} {M:Model} {c:Prop} [Decidable c] {a b:StateT σ Sem α} {Q:α -> σ -> Prop} {st:σ} (h1:wpS M A E s a Q st) (h2:wpS M A E s b Q st):wpS M A E s (if c then a else b) Q st:=by
 by_cases h:c
 ·rw [Oj h];exact h1
 ·rw [Oi h];exact h2
theorem exm (f:Nat -> Keyed) (Z:Array Nat):(Z.map f).extract 0 Z.size = Z.map f:=by
 have:Z.size = (Z.map f).size:=by simp
 rw [this];simp
theorem Cd {X:Array Nat} (h:∀ i j,i <= j -> j < X.size -> le (at' X i) (at' X j)):X.toList.Pairwise le:=by
 rw [Rx]
 intro i j hi hj hij
 have h2:j < X.size:=by simpa using hj
 rw [jc (by lia),jc h2]
 exact h i j (by lia) h2
theorem bT {σ α:Type} {M:Model} {c:Prop} [Decidable c] {a b:StateT σ Sem α} {Q:α -> σ -> Prop} {st:σ} (h1:c -> wpS M A E s a Q st) (h2:¬c -> wpS M A E s b Q st):wpS M A E s (if c then a else b) Q st:=by
 by_cases h:c
 ·rw [Oj h];exact h1 h
 ·rw [Oi h];exact h2 h
theorem Cr {σ α β:Type} {M:Model} {c:Prop} [Decidable c] {f:β -> StateT σ Sem α} {a b:β} {Q:α -> σ -> Prop} {st:σ} (h:∀ x,wpS M A E s (f x) Q st):wpS M A E s (if c then f a else f b) Q st:=jK (h a) (h b)
theorem xx {σ α β γ:Type} {M:Model} {jp:Unit -> β -> γ -> StateT σ Sem α} {m:StateT σ Sem α} {Q:α -> σ -> Prop} {st:σ} (P:β -> γ -> Prop) (h:∀ b c,P b c -> wpS M A E s (jp () b c) Q st) (k:(∀ b c,P b c -> wpS M A E s (jp () b c) Q st) -> wpS M A E s m Q st):wpS M A E s m Q st:=k h
theorem lu {σ β:Type} {M:Model} {b:Nat} {f:Nat -> β -> StateT σ Sem (ForInStep β)} (I:Nat -> β -> σ -> Prop) (Q:β -> σ -> Prop)
  {P:β -> σ -> Prop} {c:β} {st:σ} (h:I 0 c st)
  (hs:∀ i c st (R:ForInStep β -> σ -> Prop),(∀ c st,Q c st -> R (.done c) st) -> (∀ c st,I (i + 1) c st -> R (.yield c) st) -> i < b -> I i c st -> wpS M A E s (f i c) R st)
  (he:∀ c st,I b c st -> Q c st) (hp:∀ c st,Q c st -> P c st):wpS M A E s (forIn [0:b] c f) P st:=
 O6 (O7 I (fun i c st _ hb hi=>hs i c st _ (fun _ _ h=>h) (fun _ _ h=>h) hb hi) (fun c st h=>he c st (by rwa [Nat.zero_max] at h)) h) hp
theorem rel {p:Nat -> Prop} {u a b:Nat} (h:∀ i,a <= i -> i < b -> p (u + i)) (i:Nat) (h1:u + a <= i) (h2:i < u + b):p i:=by
 have:=h (i - u) (by lia) (by lia)
 rwa [show u + (i - u) = i by lia] at this
def LR (κ:SortKind) (it:Array Keyed) (st:SortSt) (le:Nat -> Nat -> Prop) (X Y:Array Nat) (r:Option (Array Keyed)) (st2:SortSt):Prop:=∃ R,r = some (R.map (kas_item it)) /\ ka le (X.toList ++ Y.toList) R /\ Same κ st st2
def LI (κ:SortKind) (st:SortSt) (le:Nat -> Nat -> Prop) (X Y:Array Nat) (v:Nat) (st2:SortSt) (O:Array Nat) (ia ib:Nat):Prop:=Same κ st st2 /\ ia + 1 < X.size /\ ib < Y.size /\ v <= ia + ib /\ J le (X.toList ++ Y.toList) X Y O ia ib
theorem D1 (o:Ord lt le) (hc:tW prog w A s κ it n lt) {X Y:Array Nat} {Q:Array Keyed -> SortSt -> Prop} {st:SortSt} (hk:kindOf st = κ) (hx:∀ i,i < X.size -> at' X i < n) (hy:∀ i,i < Y.size -> at' Y i < n)
  (x1:1 <= X.size) (y1:1 <= Y.size) (sx:∀ i j,i <= j -> j < X.size -> le (at' X i) (at' X j)) (sy:∀ i j,i <= j -> j < Y.size -> le (at' Y i) (at' Y j)) (hf:∀ i,i < X.size -> le (at' Y 0) (at' X i)) (hl:∀ i,i < Y.size -> le (at' Y i) (at' X (X.size - 1)))
  (h:∀ R st',Same κ st st' -> ka le (X.toList ++ Y.toList) R -> Q (R.map (kas_item it)) st') :
  wpS (model prog w) A E s (E1 (X.map (kas_item it)) (Y.map (kas_item it))) Q st:=by
 have sm0:Same κ st st:=⟨hk,rfl,rfl,rfl⟩
 have hl':∀ ia,ia + 1 = X.size -> ∀ i,i < Y.size -> le (at' Y i) (at' X ia):=fun ia e i hi=>by have:=hl i hi;rwa [<- e] at this
 have fin:∀ {O:Array Keyed} {R},O = R.map (kas_item it) -> ∀ {st'},Same κ st st' -> ka le (X.toList ++ Y.toList) R -> Q O st':=fun e _ sm g=>e ▸ h _ _ sm g
 have j0:J le (X.toList ++ Y.toList) X Y #[] 0 0:=⟨by simpa using Cd sx,by simpa using Cd sy,by simp⟩
 have j1:J le (X.toList ++ Y.toList) X Y #[at' Y 0] 0 1:=(j0.sy.one (by lia) fun i _ h2=>hf i h2).sy
 refine Ol (P9 (Pn ⟨rfl,?_⟩))
 refine Ol (bP (by lia) ?_)
 dsimp -zeta only
 simp -zeta only [Q4,P8]
 refine bT (fun e=>Oo (fin ?_ sm0 (j1.done1 (by lia) (by lia)))) fun e1=>bT (fun e=>Oo (fin ?_ sm0 (j1.last (by lia) (by lia) (hl' 0 (by lia))))) fun e2=>?_
 ·simp [exm]
 ·simp [exm]
 refine Ol (Pk (Ol (lu (fun x c st2=>∃ O ia ib g,c = (none,O.map (kas_item it),ia,ib,g) /\ LI κ st le X Y (x + 1) st2 O ia ib) (fun c st2=>LR κ it st le X Y c.1 st2) ⟨#[at' Y 0],0,1,_,by simp;rfl,sm0,by lia,by lia,by lia,j1⟩ ?s1 ?f1 ?p1)))
 case f1=>
  rintro c st2 ⟨O,ia,ib,g,rfl,sm,la,lb,ls,j⟩
  lia
 case p1=>
  rintro ⟨c,c'⟩ st2 ⟨R,rfl,hR,sm⟩
  exact Oo (h R st2 sm hR)
 rintro x c st2 QQ hD hY hx0 ⟨O,ia,ib,g,rfl,L⟩
 refine Ol (lu (fun y c st2=>∃ O ia ib a b,c = (none,O.map (kas_item it),ia,ib,a,b) /\ LI κ st le X Y (x + 1 + y) st2 O ia ib) (fun c st2=>LR κ it st le X Y c.1 st2 \/ ∃ O ia ib a b,c = (none,O.map (kas_item it),ia,ib,a,b) /\ LI κ st le X Y (x + 2) st2 O ia ib) ⟨O,ia,ib,0,0,rfl,L⟩ ?s2 ?f2 ?p2)
 case f2=>
  rintro c st2 ⟨O,ia,ib,a,b,rfl,sm,la,lb,ls,j⟩
  lia
 case s2=>
  clear hD hY
  rintro y c st2 QQ hD hY hy0 ⟨O,ia,ib,a,b,rfl,sm,la,lb,ls,j⟩
  have la':ia < X.size:=by lia
  refine Ol (bP lb (Ol (bP la' (Ol (w_lt hc sm.1 (hy ib lb) (hx ia la') ?_)))))
  dsimp -zeta only
  cases cw:lt (at' Y ib) (at' X ia) with
  | true=>
   have j2:J le (X.toList ++ Y.toList) X Y (O.push (at' Y ib)) ia (ib + 1):=(j.sy.one lb fun i h1 h2=>o.tr _ _ _ (o.yes _ _ cw) (sx _ _ h1 h2)).sy
   rw [Oj rfl]
   refine Ol (bP lb (bT (fun e=>Oo (hD _ _ (.inl ⟨_,?_,j2.done1 (by lia) (by lia),sm⟩))) fun e=>jK (Oo (hD _ _ (.inr ⟨_,ia,ib + 1,_,_,by rw [<- Po],sm,la,by lia,by lia,j2⟩))) (Oo (hY _ _ ⟨_,ia,ib + 1,_,_,by rw [<- Po],sm,la,by lia,by lia,j2⟩))))
   simp
  | false=>
   have j2:=j.one la' fun i h1 h2=>o.tr _ _ _ (o.no _ _ cw) (sy _ _ h1 h2)
   rw [Oi (by decide)]
   refine Ol (bP la' (bT (fun e=>Oo (hD _ _ (.inl ⟨_,?_,j2.last e (by lia) (hl' _ e),sm⟩))) fun e=>jK (Oo (hD _ _ (.inr ⟨_,ia + 1,ib,_,_,by rw [<- Po],sm,by lia,lb,by lia,j2⟩))) (Oo (hY _ _ ⟨_,ia + 1,ib,_,_,by rw [<- Po],sm,by lia,lb,by lia,j2⟩))))
   simp
 case p2=>
  clear L
  rintro ⟨c,c'⟩ st2 (⟨R,rfl,hR,sm⟩ | ⟨O,ia,ib,a,b,hcc,L⟩)
  ·exact Oo (hD _ _ ⟨R,rfl,hR,sm⟩)
  cases hcc
  refine Ol (P9 (Pn ⟨rfl,Ol (lu (fun y c st2=>∃ O ia ib m a b,c = (none,O.map (kas_item it),ia,ib,m,a,b) /\ LI κ st le X Y (x + 2) st2 O ia ib) (fun c st2=>LR κ it st le X Y c.1 st2 \/ ∃ O ia ib m a b,c = (none,O.map (kas_item it),ia,ib,m,a,b) /\ LI κ st le X Y (x + 2) st2 O ia ib) ⟨O,ia,ib,_,_,_,rfl,L⟩ ?s3 (fun _ _ h=>.inr h) ?p3)⟩))
  case p3=>
   rintro ⟨c,c'⟩ st2 (⟨R,rfl,hR,sm⟩ | ⟨O,ia,ib,m,a,b,hcc,sm,L⟩)
   ·exact Oo (hD _ _ ⟨R,rfl,hR,sm⟩)
   cases hcc
   exact Ol (Pe (Oo (hY _ _ ⟨O,ia,ib,_,rfl,sm.g _,L⟩)))
  clear hD hY L
  rintro y c st2 QQ hD hY hy0 ⟨O,ia,ib,m,a,b,rfl,sm,la,lb,ls,j⟩
  have dR:∀ {R' R t st2},R' = R.map (kas_item it) -> Same κ st st2 -> ka le (X.toList ++ Y.toList) R -> QQ (.done (some R',t)) st2:=fun e sm g=>hD _ _ (.inl ⟨_,OG some e,g,sm⟩)
  dsimp -zeta only
  extract_lets -underBinder s1 out s2 ia2 s3 ib2 s4 mg s5 ac bc jp
  refine Cr fun g=>?_
  replace sm:=sm.g g
  refine Ol (Pe (Ol (bP lb (Ol (iR o hc sm.1 hx (hy ib lb) (show ia + (X.size - ia) <= X.size by lia) (show 0 < X.size - ia by lia) (fun i k h1 h2=>sx (ia + i) (ia + k) (by lia) (show ia + k < X.size by change k < X.size - ia at h2;lia)) fun k k1 k2 k3=>?_)))))
  replace k2:=rel (p:=fun i=>le (at' X i) (at' Y ib)) (a:=0) fun i _ h=>k2 i h
  replace k3:∀ i,ia + k <= i -> i < X.size -> le (at' Y ib) (at' X i):=fun i h1 h2=>rel (p:=fun i=>le (at' Y ib) (at' X i)) k3 i h1 (show i < ia + (X.size - ia) by lia)
  dsimp -zeta only
  extract_lets -underBinder ac2 jp2
  refine xx (jp:=jp2) (fun O' i=>∃ O,O' = O.map (kas_item it) /\ i + 1 < X.size /\ x + 2 <= i + ib /\ J le (X.toList ++ Y.toList) X Y O i ib /\ ∀ l,i <= l -> l < X.size -> le (at' Y ib) (at' X l)) ?_ fun hj=>?_
  ·rintro O' i ⟨O,rfl,la,ls,j,ky⟩
   have j2:J le (X.toList ++ Y.toList) X Y (O.push (at' Y ib)) i (ib + 1):=(j.sy.one lb ky).sy
   have li:i < X.size:=by lia
   refine Ol (bP lb (bT (fun e=>Oo (dR ?_ sm (j2.done1 (Pj e.symm) (by lia)))) fun e=>Ol (bP li (Ol (iR o hc sm.1 hy (hx i li) (show ib + 1 + (Y.size - (ib + 1)) <= Y.size by lia) (show 0 < Y.size - (ib + 1) by change ¬ib + 1 = Y.size at e;lia) (fun i k h1 h2=>sy (ib + 1 + i) (ib + 1 + k) (by lia) (show ib + 1 + k < Y.size by change k < Y.size - (ib + 1) at h2;lia)) fun k k1 k2 k3=>?_)))))
   ·simp +zetaDelta
   replace k2:=rel (p:=fun l=>le (at' Y l) (at' X i)) (u:=ib + 1) (a:=0) fun i _ h=>k2 i h
   replace k3:∀ l,ib + 1 + k <= l -> l < Y.size -> le (at' X i) (at' Y l):=fun l h1 h2=>rel (p:=fun l=>le (at' X i) (at' Y l)) (u:=ib + 1) k3 l h1 (show l < ib + 1 + (Y.size - (ib + 1)) by lia)
   dsimp -zeta only
   extract_lets -underBinder bc2 jp3
   refine xx (jp:=jp3) (fun O' l=>∃ O,O' = O.map (kas_item it) /\ l < Y.size /\ ib < l /\ J le (X.toList ++ Y.toList) X Y O i l /\ ∀ i',l <= i' -> i' < Y.size -> le (at' X i) (at' Y i')) ?_ fun hj=>?_
   ·rintro O' l ⟨O,rfl,lb,lc,j,ky⟩
    have j2:=j.one li ky
    refine Ol (bP li (bT (fun e=>Oo (dR ?_ sm (j2.last e (by lia) (hl' _ e)))) fun e=>jK (Oo (hD _ _ (.inr ⟨_,i + 1,l,_,_,_,by rw [<- Po],sm,by lia,lb,by lia,j2⟩))) (Oo (hY _ _ ⟨_,i + 1,l,_,_,_,by rw [<- Po],sm,by lia,lb,by lia,j2⟩))))
    simp
   have j3:J le (X.toList ++ Y.toList) X Y (O.push (at' Y ib) ++ Y.extract (ib + 1) (ib + 1 + k)) i (ib + 1 + k):=(j2.sy.blk fun i' l h1 h2 h3 h4 h5=>o.tr _ _ _ (k2 i' h1 h2) (sx _ _ h4 h5)).sy
   refine bT (fun k0=>bT (fun e=>Oo (dR ?_ sm (j3.done1 (Pj e.symm) (O4 li)))) fun e=>hj _ _ ⟨_,?_,Nat.lt_of_le_of_ne (show ib + 1 + k <= Y.size by change k <= Y.size - (ib + 1) at k1;lia) e,show ib < ib + 1 + k by lia,j3,k3⟩) fun k0=>hj _ _ ⟨O.push (at' Y ib),?_,Nat.lt_of_le_of_ne lb e,QF ib,j2,fun l h1 h2=>k3 l (show ib + 1 + k <= l by change ib + 1 <= l at h1;lia) h2⟩
   ·simp +zetaDelta
   ·simp +zetaDelta
   ·simp +zetaDelta
  have j3:=j.blk (m:=k) fun i l h1 h2 h3 h4 h5=>o.tr _ _ _ (k2 i h1 h2) (sy _ _ h4 h5)
  have kk:ia + k <= X.size:=by change k <= X.size - ia at k1;lia
  refine bT (fun k0=>bT (fun e=>Oo (dR ?_ sm (j3.last e (by lia) (hl' _ e)))) fun e=>bT (fun e2=>Oo (dR ?_ sm (j3.done2 (Pj e2.symm) (by lia)))) fun e2=>hj _ _ ⟨_,?_,show ia + k + 1 < X.size by change ¬ia + k + 1 = X.size at e;change ¬ia + k = X.size at e2;lia,show x + 2 <= ia + k + ib by lia,j3,k3⟩) fun k0=>hj _ _ ⟨O,rfl,la,ls,j,fun l h1 h2=>k3 l (show ia + k <= l by change ia <= l at h1;lia) h2⟩
  ·simp +zetaDelta
  ·simp +zetaDelta
  ·simp +zetaDelta
end
section
variable {X Y O:Array Nat} {le:Nat -> Nat -> Prop} {tot:List Nat} {na nb:Nat}
theorem Cn {i:Nat} (h:i < X.size):X.toList.take (i + 1) = X.toList.take i ++ [at' X i]:=by
 rw [List.take_succ_eq_append_getElem (by simpa using h),jc h]
theorem kN {i j:Nat} (h:i <= j):X.toList.take j = X.toList.take i ++ (X.extract i j).toList:=by
 rw [Q1,Q2]
 have e:j = i + (j - i):=by lia
 conv=>lhs;rw [e,List.take_add]
theorem sL {i x:Nat} (h:x ∈ X.toList.take i):∃ j,j < i /\ j < X.size /\ at' X j = x:=by
 obtain ⟨k,hk⟩:=RX h
 rw [Rz] at hk
 split at hk
 ·obtain ⟨h1,h2⟩:=O5.mp hk
  have h1':k < X.size:=by simpa using h1
  exact ⟨k,by lia,h1',by rw [<- jc h1'];exact h2⟩
 ·cases hk
abbrev JH (le:Nat -> Nat -> Prop) (tot:List Nat) (X Y O:Array Nat) (na nb:Nat):Prop:=Inv (fun a b=>le b a) tot O.toList (X.toList.take na).reverse (Y.toList.take nb).reverse
theorem JH.sy (j:JH le tot X Y O na nb):JH le tot Y X O nb na:=Inv.symm j
theorem JH.one (j:JH le tot X Y O na nb) (h:1 <= na) (h2:na <= X.size) (k:∀ i,i < nb -> le (at' Y i) (at' X (na - 1))):JH le tot X Y (O.push (at' X (na - 1))) (na - 1) nb:=by
 unfold JH at j ⊢
 obtain ⟨m,rfl⟩:∃ m,na = m + 1:=⟨na - 1,by lia⟩
 rw [Cn (by lia),List.reverse_append] at j
 rw [Nat.add_sub_cancel] at k ⊢
 have:=Inv.block (xs:=[at' X m]) j (fun x hx y hy=>by
  rw [Ot] at hx
  subst hx
  obtain ⟨i,h1,h2,rfl⟩:=sL (RA.mp hy)
  exact k i h1)
 rwa [Qa]
theorem JH.blk {m:Nat} (j:JH le tot X Y O na nb) (h:m <= na) (h2:na <= X.size) (k:∀ i l,m <= i -> i < na -> l < nb -> le (at' Y l) (at' X i)):JH le tot X Y (O ++ (X.extract m na).reverse) m nb:=by
 unfold JH at j ⊢
 rw [kN h,List.reverse_append] at j
 have:=Inv.block j (fun x hx y hy=>by
  obtain ⟨i,h1,h2,h3,rfl⟩:=qR (RA.mp hx)
  obtain ⟨l,h4,h5,rfl⟩:=sL (RA.mp hy)
  exact k i l h1 h2 h4)
 rwa [PR,Array.toList_reverse]
theorem zi {l r:List Nat} (h:l.Pairwise (fun a b=>le b a) /\ l.Perm tot) (e:l = r.reverse):r.Pairwise le /\ r.Perm tot:=by
 subst e
 exact ⟨RY.mp h.1,(List.reverse_perm _).symm.trans h.2⟩
theorem Jf (m:Nat):(X.extract 0 m).toList = X.toList.take m:=by rw [Q1,Q2];simp
theorem JH.done1 (j:JH le tot X Y O na nb) (h:nb = 0) (h2:na <= X.size):ka le tot (X.extract 0 na ++ Y.extract 0 nb ++ O.reverse):=by
 subst h
 refine zi (l:=O.toList ++ (X.toList.take na).reverse) (Inv.doneA (by unfold JH at j;simpa using j)) ?_
 simp [Jf]
theorem JH.done2 (j:JH le tot X Y O na nb) (h:na = 0) (h2:nb <= Y.size):ka le tot (X.extract 0 na ++ Y.extract 0 nb ++ O.reverse):=by
 have:=j.sy.done1 h h2
 subst h
 simpa using this
theorem JH.first (j:JH le tot X Y O na nb) (h:nb = 1) (y1:1 <= Y.size) (h2:na <= X.size) (k:∀ i,i < X.size -> le (at' Y 0) (at' X i)):ka le tot (Y.extract 0 nb ++ X.extract 0 na ++ O.reverse):=by
 subst h
 have e:Y.toList.take 1 = [at' Y 0]:=by rw [Cn (i:=0) (by lia)];simp
 have j2:Inv (fun a b=>le b a) tot O.toList [at' Y 0] (X.toList.take na).reverse:=by have:=j.sy;unfold JH at this;rw [e] at this;exact this
 refine zi (j2.lastA fun y hy=>?_) ?_
 ·obtain ⟨i,h1,h2,rfl⟩:=sL (RA.mp hy)
  exact k i h2
 ·rw [PR,PR,Jf,Jf,e]
  simp
end
section
variable {prog:Program} {w:World} {A:Around} {E:Value -> Shared -> Prop} {s:Shared} {κ:SortKind} {it:Array Keyed} {n:Nat} {lt:Nat -> Nat -> Bool} {le:Nat -> Nat -> Prop}
def HI (κ:SortKind) (st:SortSt) (le:Nat -> Nat -> Prop) (X Y:Array Nat) (v:Nat) (st2:SortSt) (O:Array Nat) (na nb:Nat):Prop:=Same κ st st2 /\ 1 <= na /\ 1 < nb /\ na < X.size /\ nb <= Y.size /\ na + nb + v <= X.size + Y.size /\ JH le (X.toList ++ Y.toList) X Y O na nb
theorem D0 (o:Ord lt le) (hc:tW prog w A s κ it n lt) {X Y:Array Nat} {Q:Array Keyed -> SortSt -> Prop} {st:SortSt} (hk:kindOf st = κ) (hx:∀ i,i < X.size -> at' X i < n) (hy:∀ i,i < Y.size -> at' Y i < n)
  (x1:1 <= X.size) (y1:1 <= Y.size) (sx:∀ i j,i <= j -> j < X.size -> le (at' X i) (at' X j)) (sy:∀ i j,i <= j -> j < Y.size -> le (at' Y i) (at' Y j)) (hf:∀ i,i < X.size -> le (at' Y 0) (at' X i)) (hl:∀ i,i < Y.size -> le (at' Y i) (at' X (X.size - 1)))
  (h:∀ R st',Same κ st st' -> ka le (X.toList ++ Y.toList) R -> Q (R.map (kas_item it)) st') :
  wpS (model prog w) A E s (EZ (X.map (kas_item it)) (Y.map (kas_item it))) Q st:=by
 have sm0:Same κ st st:=⟨hk,rfl,rfl,rfl⟩
 have fin:∀ {O:Array Keyed} {R},O = R.map (kas_item it) -> ∀ {st'},Same κ st st' -> ka le (X.toList ++ Y.toList) R -> Q O st':=fun e _ sm g=>e ▸ h _ _ sm g
 have j0:JH le (X.toList ++ Y.toList) X Y #[] X.size Y.size:=by
  unfold JH
  rw [QG (by simp),QG (by simp)]
  exact ⟨by simpa using RY.mpr (Cd sx),by simpa using RY.mpr (Cd sy),by simpa using (List.reverse_perm X.toList).append (List.reverse_perm Y.toList)⟩
 have j1:JH le (X.toList ++ Y.toList) X Y #[at' X (X.size - 1)] (X.size - 1) Y.size:=j0.one x1 (Op _) fun i h2=>hl i h2
 refine Ol (P9 (Pn ⟨rfl,?_⟩))
 simp -zeta only [Q4,P8]
 refine Ol (bP (X:=X) (k:=X.size - 1) (by lia) (bT (fun e=>Oo (fin ?_ sm0 (j1.done2 e (by lia)))) fun e1=>bT (fun e=>Oo (fin ?_ sm0 (j1.first e (by lia) (by lia) hf))) fun e2=>?_))
 ·simp [exm]
 ·simp [exm]
 refine Ol (Pk (Ol (lu (fun x c st2=>∃ O na nb g,c = (none,na,nb,O.map (kas_item it),g) /\ HI κ st le X Y (x + 1) st2 O na nb) (fun c st2=>LR κ it st le X Y c.1 st2) ⟨#[at' X (X.size - 1)],X.size - 1,Y.size,_,by simp;rfl,sm0,by lia,by lia,by lia,by lia,by lia,j1⟩ ?s1 ?f1 ?p1)))
 case f1=>
  rintro c st2 ⟨O,na,nb,g,rfl,sm,la,lb,lx,ly,ls,j⟩
  lia
 case p1=>
  rintro ⟨c,c'⟩ st2 ⟨R,rfl,hR,sm⟩
  exact Oo (h R st2 sm hR)
 rintro x c st2 QQ hD hY hx0 ⟨O,na,nb,g,rfl,L⟩
 refine Ol (lu (fun y c st2=>∃ O na nb a b,c = (none,na,nb,O.map (kas_item it),a,b) /\ HI κ st le X Y (x + 1 + y) st2 O na nb) (fun c st2=>LR κ it st le X Y c.1 st2 \/ ∃ O na nb a b,c = (none,na,nb,O.map (kas_item it),a,b) /\ HI κ st le X Y (x + 2) st2 O na nb) ⟨O,na,nb,0,0,rfl,L⟩ ?s2 ?f2 ?p2)
 case f2=>
  rintro c st2 ⟨O,na,nb,a,b,rfl,sm,la,lb,lx,ly,ls,j⟩
  lia
 case s2=>
  clear hD hY
  rintro y c st2 QQ hD hY hy0 ⟨O,na,nb,a,b,rfl,sm,la,lb,lx,ly,ls,j⟩
  have la':na - 1 < X.size:=by lia
  have lb':nb - 1 < Y.size:=by lia
  refine Ol (bP lb' (Ol (bP la' (Ol (w_lt hc sm.1 (hy (nb - 1) lb') (hx (na - 1) la') ?_)))))
  dsimp -zeta only
  cases cw:lt (at' Y (nb - 1)) (at' X (na - 1)) with
  | true=>
   have j2:=j.one la (by lia) fun i h1=>o.tr _ _ _ (sy i (nb - 1) (by lia) lb') (o.yes _ _ cw)
   rw [Oj rfl]
   refine Ol (bP la' (bT (fun e=>Oo (hD _ _ (.inl ⟨_,?_,j2.done2 e ly,sm⟩))) fun e=>jK (Oo (hD _ _ (.inr ⟨_,na - 1,nb,_,_,by rw [<- Po],sm,by lia,lb,la',ly,by lia,j2⟩))) (Oo (hY _ _ ⟨_,na - 1,nb,_,_,by rw [<- Po],sm,by lia,lb,la',ly,by lia,j2⟩))))
   simp [PU]
  | false=>
   have j2:JH le (X.toList ++ Y.toList) X Y (O.push (at' Y (nb - 1))) na (nb - 1):=(j.sy.one (by lia) (by lia) fun i h1=>o.tr _ _ _ (sx i (na - 1) (by lia) la') (o.no _ _ cw)).sy
   rw [Oi (by decide)]
   refine Ol (bP lb' (bT (fun e=>Oo (hD _ _ (.inl ⟨_,?_,j2.first e y1 (by lia) hf,sm⟩))) fun e=>jK (Oo (hD _ _ (.inr ⟨_,na,nb - 1,_,_,by rw [<- Po],sm,la,by lia,lx,by lia,by lia,j2⟩))) (Oo (hY _ _ ⟨_,na,nb - 1,_,_,by rw [<- Po],sm,la,by lia,lx,by lia,by lia,j2⟩))))
   simp [PU]
 case p2=>
  clear L
  rintro ⟨c,c'⟩ st2 (⟨R,rfl,hR,sm⟩ | ⟨O,na,nb,a,b,hcc,L⟩)
  ·exact Oo (hD _ _ ⟨R,rfl,hR,sm⟩)
  cases hcc
  refine Ol (P9 (Pn ⟨rfl,Ol (lu (fun y c st2=>∃ O na nb m a b,c = (none,na,nb,O.map (kas_item it),m,a,b) /\ HI κ st le X Y (x + 2) st2 O na nb) (fun c st2=>LR κ it st le X Y c.1 st2 \/ ∃ O na nb m a b,c = (none,na,nb,O.map (kas_item it),m,a,b) /\ HI κ st le X Y (x + 2) st2 O na nb) ⟨O,na,nb,_,_,_,rfl,L⟩ ?s3 (fun _ _ h=>.inr h) ?p3)⟩))
  case p3=>
   rintro ⟨c,c'⟩ st2 (⟨R,rfl,hR,sm⟩ | ⟨O,na,nb,m,a,b,hcc,sm,L⟩)
   ·exact Oo (hD _ _ ⟨R,rfl,hR,sm⟩)
   cases hcc
   exact Ol (Pe (Oo (hY _ _ ⟨O,na,nb,_,rfl,sm.g _,L⟩)))
  clear hD hY L
  rintro y c st2 QQ hD hY hy0 ⟨O,na,nb,m,a,b,rfl,sm,la,lb,lx,ly,ls,j⟩
  have dR:∀ {R' R t st2},R' = R.map (kas_item it) -> Same κ st st2 -> ka le (X.toList ++ Y.toList) R -> QQ (.done (some R',t)) st2:=fun e sm g=>hD _ _ (.inl ⟨_,OG some e,g,sm⟩)
  have lb':nb - 1 < Y.size:=by lia
  dsimp -zeta only
  extract_lets -underBinder s1 na2 s2 nb2 s3 out s4 mg s5 ac bc jp
  refine Cr fun g=>?_
  replace sm:=sm.g g
  refine Ol (Pe (Ol (bP lb' (Ol (iR o hc sm.1 hx (hy (nb - 1) lb') (show 0 + na <= X.size by lia) (show na - 1 < na by lia) (fun i k h1 h2=>sx (0 + i) (0 + k) (by lia) (show 0 + k < X.size by change k < na at h2;lia)) fun k k1 k2 k3=>?_)))))
  simp only [Qb] at k2 k3
  change k <= na at k1
  dsimp -zeta only
  extract_lets -underBinder kk ac2 jp2
  refine xx (jp:=jp2) (fun i O'=>∃ O,O' = O.map (kas_item it) /\ 1 <= i /\ i < X.size /\ i + nb + (x + 2) <= X.size + Y.size /\ JH le (X.toList ++ Y.toList) X Y O i nb /\ ∀ l,l < i -> le (at' X l) (at' Y (nb - 1))) ?_ fun hj=>?_
  ·rintro i O' ⟨O,rfl,la,lx,ls,j,ky⟩
   have j2:JH le (X.toList ++ Y.toList) X Y (O.push (at' Y (nb - 1))) i (nb - 1):=(j.sy.one (by lia) (by lia) ky).sy
   have li:i - 1 < X.size:=by lia
   refine Ol (bP lb' (bT (fun e=>Oo (dR ?_ sm (j2.first e y1 (by lia) hf))) fun e=>Ol (bP li (Ol (iR o hc sm.1 hy (hx (i - 1) li) (show 0 + (nb - 1) <= Y.size by lia) (show nb - 1 - 1 < nb - 1 by lia) (fun i k h1 h2=>sy (0 + i) (0 + k) (by lia) (show 0 + k < Y.size by change k < nb - 1 at h2;lia)) fun k k1 k2 k3=>?_)))))
   ·simp +zetaDelta [PU]
   simp only [Qb] at k2 k3
   change k <= nb - 1 at k1
   dsimp -zeta only
   extract_lets -underBinder kk bc2 jp3
   refine xx (jp:=jp3) (fun l O'=>∃ O,O' = O.map (kas_item it) /\ 1 < l /\ l < nb /\ JH le (X.toList ++ Y.toList) X Y O i l /\ ∀ i',i' < l -> le (at' Y i') (at' X (i - 1))) ?_ fun hj=>?_
   ·rintro l O' ⟨O,rfl,lb,lc,j,ky⟩
    have j2:=j.one la (by lia) ky
    refine Ol (bP li (bT (fun e=>Oo (dR ?_ sm (j2.done2 e (by lia)))) fun e=>jK (Oo (hD _ _ (.inr ⟨_,i - 1,l,_,_,_,by rw [<- Po],sm,by lia,lb,li,by lia,by lia,j2⟩))) (Oo (hY _ _ ⟨_,i - 1,l,_,_,_,by rw [<- Po],sm,by lia,lb,li,by lia,by lia,j2⟩))))
    simp [PU]
   have j3:JH le (X.toList ++ Y.toList) X Y (O.push (at' Y (nb - 1)) ++ (Y.extract k (nb - 1)).reverse) i k:=(j2.sy.blk (by lia) (by lia) fun i' l h1 h2 h3=>o.tr _ _ _ (sx l (i - 1) (by lia) li) (k3 i' h1 h2)).sy
   refine bT (fun k0=>bT (fun e=>Oo (dR ?_ sm (j3.first e y1 (by lia) hf))) fun e=>bT (fun e2=>Oo (dR ?_ sm (j3.done1 e2 (by lia)))) fun e2=>hj _ _ ⟨_,?_,show 1 < k by change ¬k = 1 at e;change ¬k = 0 at e2;lia,by lia,j3,k2⟩) fun k0=>hj _ _ ⟨O.push (at' Y (nb - 1)),?_,show 1 < nb - 1 by change ¬nb - 1 = 1 at e;lia,show nb - 1 < nb by lia,j2,fun l h1=>k2 l (show l < k by change l < nb - 1 at h1;change ¬nb - 1 - k > 0 at k0;lia)⟩
   ·simp +zetaDelta [PU]
   ·simp +zetaDelta [PU]
   ·simp +zetaDelta [PU]
   ·simp +zetaDelta
  have j3:=j.blk (m:=k) k1 (by lia) fun i l h1 h2 h3=>o.tr _ _ _ (sy l (nb - 1) (by lia) lb') (k3 i h1 h2)
  refine bT (fun k0=>bT (fun e=>Oo (dR ?_ sm (j3.done2 e ly))) fun e=>hj _ _ ⟨_,?_,Nat.pos_of_ne_zero e,show k < X.size by lia,show k + nb + (x + 2) <= X.size + Y.size by lia,j3,k2⟩) fun k0=>hj _ _ ⟨O,rfl,la,lx,ls,j,fun l h1=>k2 l (show l < k by change l < na at h1;change ¬na - k > 0 at k0;lia)⟩
  ·simp +zetaDelta [PU]
  ·simp +zetaDelta [PU]
end
section
variable {α:Type}
theorem kK (lo:Nat):∀ (R:List α) (p:Array α) (j:Nat),lo + j + R.length <= p.size -> ((R.zipIdx j).foldl (fun a x=>a.setIfInBounds (lo + x.2) x.1) p).toList = p.toList.take (lo + j) ++ R ++ p.toList.drop (lo + j + R.length)
 | [],p,j,_=>by simp
 | r :: R,p,j,h=>by
  have hl:lo + j < p.toList.length:=by simp at h ⊢;lia
  rw [List.zipIdx_cons,OP,kK lo R _ (j + 1) (by simp at h ⊢;lia)]
  have e1:(p.setIfInBounds (lo + j) r).toList = p.toList.set (lo + j) r:=by simp
  have e2:(p.toList.set (lo + j) r).take (lo + (j + 1)) = p.toList.take (lo + j) ++ [r]:=by
   rw [<- Nat.add_assoc,List.take_succ_eq_append_getElem (by simpa using hl),List.take_set_of_le (Op _)]
   simp
  have e3:(p.toList.set (lo + j) r).drop (lo + (j + 1) + R.length) = p.toList.drop (lo + j + (r :: R).length):=by
   rw [List.drop_set_of_lt (by lia),Ow]
   congr 1;lia
  rw [e1,e2,e3]
  simp
end
section
variable {prog:Program} {w:World} {A:Around} {E:Value -> Shared -> Prop} {s:Shared} {κ:SortKind} {it:Array Keyed} {n:Nat} {lt:Nat -> Nat -> Bool} {le:Nat -> Nat -> Prop}
def Stt (κ:SortKind) (it:Array Keyed) (st:SortSt) (p:Array Nat) (pend:Array (Nat × Nat × Nat)):Prop:=kindOf st = κ /\ arrOf st = p.map (kas_item it) /\ pendingOf st = pend /\ failedOf st = none
structure Srtd (le:Nat -> Nat -> Prop) (p p':Array Nat) (lo hi:Nat):Prop where
 perm:p'.Perm p
 out:∀ k,k < lo \/ hi <= k -> at' p' k = at' p k
 asc:∀ i j,lo <= i -> i <= j -> j < hi -> le (at' p' i) (at' p' j)
theorem Ia {σ:Type} {M:Model} {x:σ} {Q:PUnit -> σ -> Prop} {st:σ} (h:Q ⟨⟩ x):wpS M A E s (set x:StateT σ Sem PUnit) Q st:=by
 unfold wpS
 rw [StateT.run_set]
 exact Om ⟨rfl,h⟩
theorem L6 (l:List Nat) (k:Nat):at' l.toArray k = (l[k]?).getD 0:=by simp [at']
theorem IZ (p:Array Nat) (k:Nat):at' p k = (p.toList[k]?).getD 0:=by simp [at']
theorem A4 {p:Array Nat} {R:List Nat} {lo:Nat} (h:lo + R.length <= p.size) (k:Nat):at' (p.toList.take lo ++ R ++ p.toList.drop (lo + R.length)).toArray k = if lo <= k /\ k < lo + R.length then (R[k - lo]?).getD 0 else at' p k:=by
 rw [L6,IZ]
 have hl:(p.toList.take lo).length = lo:=by rw [P6];simp;lia
 by_cases h1:k < lo
 ·rw [Oi (by lia),OV,Qn (by lia),Rz,Oj h1]
 ·by_cases h2:k < lo + R.length
  ·rw [Oj ⟨by lia,h2⟩,OV,Qm (by lia),hl,Qn (by lia)]
  ·rw [Oi (by lia),Qm (by rw [Ov,hl];lia),Ov,hl,Q3]
   congr 2;lia
theorem Fx {p:Array Nat} {R:List Nat} {lo:Nat} (h:R.Perm (p.extract lo (lo + R.length)).toList):(p.toList.take lo ++ R ++ p.toList.drop (lo + R.length)).toArray.Perm p:=by
 rw [QC]
 show (p.toList.take lo ++ R ++ p.toList.drop (lo + R.length)).Perm p.toList
 refine ((h.append_left _).append_right _).trans ?_
 rw [<- kN (by lia),Ry]
theorem D9 {p:Array Nat} {i j k:Nat} (h:i + k < j):at' (p.extract i j) k = at' p (i + k):=by
 rw [IZ,IZ,Q1,Q2,Rz,Oj (by lia),Q3]
theorem zu {p:Array Nat} {i j:Nat} (h:j <= p.size):(p.extract i j).size = j - i:=by simp;lia
theorem DZ (o:Ord lt le) (hc:tW prog w A s κ it n lt) {i sa na pw sb nb q:Nat} {p:Array Nat} {pend:Array (Nat × Nat × Nat)} {Q:Bool -> SortSt -> Prop} {st:SortSt} (S:Stt κ it st p pend) (h1:pend[i]? = some (sa,na,pw)) (h2:pend[i + 1]? = some (sb,nb,q))
  (hsb:sb = sa + na) (na1:1 <= na) (nb1:1 <= nb) (hz:sb + nb <= p.size) (hp:∀ i,i < p.size -> at' p i < n) (sA:∀ i j,i <= j -> j < na -> le (at' p (sa + i)) (at' p (sa + j))) (sB:∀ i j,i <= j -> j < nb -> le (at' p (sb + i)) (at' p (sb + j)))
  (h:∀ p' st',Stt κ it st' p' ((pend.setIfInBounds i (sa,na + nb,pw)).eraseIdxIfInBounds (i + 1)) -> Srtd le p p' sa (sa + (na + nb)) -> Q true st'):wpS (model prog w) A E s (mergeAt' i) Q st:=by
 obtain ⟨S1,S2,S3,S4⟩:=S
 refine Ol (Pk ?_)
 have S3':(sortPriv% PySem.Builtin.SortState.pending) st = pend:=S3
 have S2':(sortPriv% PySem.Builtin.SortState.a) st = p.map (kas_item it):=S2
 rw [S3',h1,h2]
 refine Ol (Ia ?_)
 rw [S2']
 generalize hst:(sortPriv% PySem.Builtin.SortState.mk) _ _ _ _ _ = st2
 have T:Stt κ it st2 p ((pend.setIfInBounds i (sa,na + nb,pw)).eraseIdxIfInBounds (i + 1)):=by subst hst;exact ⟨S1,rfl,rfl,S4⟩
 clear hst S1 S2 S3 S4 S2' S3' h1 h2
 generalize ((pend.setIfInBounds i (sa,na + nb,pw)).eraseIdxIfInBounds (i + 1)) = pend2 at T h
 have sA':∀ i j,sa <= i -> i <= j -> j < sb -> le (at' p i) (at' p j):=fun i j a1 a2 a3=>by
  have:=sA (i - sa) (j - sa) (by lia) (by lia)
  rwa [show sa + (i - sa) = i by lia,show sa + (j - sa) = j by lia] at this
 have sB':∀ i j,sb <= i -> i <= j -> j < sb + nb -> le (at' p i) (at' p j):=fun i j a1 a2 a3=>by
  have:=sB (i - sb) (j - sb) (by lia) (by lia)
  rwa [show sb + (i - sb) = i by lia,show sb + (j - sb) = j by lia] at this
 refine Ol (bP (by lia) ?_)
 refine Ol (iR o hc T.1 hp (hp sb (by lia)) (by lia) (by lia) sA fun k k1 k2 k3=>?_)
 have k2':∀ i,sa <= i -> i < sa + k -> le (at' p i) (at' p sb):=fun i a1 a2=>by
  have:=k2 (i - sa) (by lia)
  rwa [show sa + (i - sa) = i by lia] at this
 have k3':∀ i,sa + k <= i -> i < sb -> le (at' p sb) (at' p i):=fun i a1 a2=>by
  have:=k3 (i - sa) (by lia) (by lia)
  rwa [show sa + (i - sa) = i by lia] at this
 clear k2 k3
 dsimp only
 simp only [P8]
 by_cases e1:na - k = 0
 ·rw [Oj e1]
  refine Oo (h p st2 T ⟨.refl _,fun _ _=>rfl,fun i j a1 a2 a3=>?_⟩)
  by_cases b1:j < sb
  ·exact sA' i j a1 a2 b1
  ·by_cases b2:sb <= i
   ·exact sB' i j b2 a2 (by lia)
   ·exact o.tr _ _ _ (k2' i a1 (by lia)) (sB' sb j (Op _) (by lia) (by lia))
 rw [Oi e1]
 refine Ol (bP (by lia) ?_)
 have e2:sa + k + (na - k) - 1 = sb - 1:=by lia
 rw [e2]
 refine Ol (iR o hc T.1 hp (hp (sb - 1) (by lia)) (by lia) (by lia) sB fun m m1 k2 k3=>?_)
 have m2':∀ i,sb <= i -> i < sb + m -> le (at' p i) (at' p (sb - 1)):=fun i a1 a2=>by
  have:=k2 (i - sb) (by lia)
  rwa [show sb + (i - sb) = i by lia] at this
 have m3':∀ i,sb + m <= i -> i < sb + nb -> le (at' p (sb - 1)) (at' p i):=fun i a1 a2=>by
  have:=k3 (i - sb) (by lia) (by lia)
  rwa [show sb + (i - sb) = i by lia] at this
 clear k2 k3
 dsimp only
 by_cases e3:m = 0
 ·rw [Oj e3]
  subst e3
  refine Oo (h p st2 T ⟨.refl _,fun _ _=>rfl,fun i j a1 a2 a3=>?_⟩)
  by_cases b1:j < sb
  ·exact sA' i j a1 a2 b1
  ·by_cases b2:sb <= i
   ·exact sB' i j b2 a2 (by lia)
   ·exact o.tr _ _ _ (sA' i (sb - 1) a1 (by lia) (by lia)) (m3' j (by lia) (by lia))
 rw [Oi e3]
 generalize hr:na - k = r
 have hr1:na = k + r:=by lia
 have hr0:0 < r:=by lia
 clear hr e1 e2
 have zx:(p.extract (sa + k) sb).size = r:=by rw [zu (by lia)];lia
 have zy:(p.extract sb (sb + m)).size = m:=by rw [zu (by lia)];lia
 have ax:∀ i,i < r -> at' (p.extract (sa + k) sb) i = at' p (sa + k + i):=fun i hi=>D9 (by lia)
 have ay:∀ i,i < m -> at' (p.extract sb (sb + m)) i = at' p (sb + i):=fun i hi=>D9 (by lia)
 have exy:(p.extract (sa + k) sb).toList ++ (p.extract sb (sb + m)).toList = (p.extract (sa + k) (sb + m)).toList:=by
  have a1:=kN (X:=p) (i:=sa + k) (j:=sb) (by lia)
  have a2:=kN (X:=p) (i:=sb) (j:=sb + m) (by lia)
  have a3:=kN (X:=p) (i:=sa + k) (j:=sb + m) (by lia)
  rw [a1,a3,OV] at a2
  exact (List.append_cancel_left a2).symm
 have key:∀ R:Array Nat,ka le ((p.extract (sa + k) sb).toList ++ (p.extract sb (sb + m)).toList) R -> R.toList.length = r + m /\ Srtd le p (p.toList.take (sa + k) ++ R.toList ++ p.toList.drop (sa + k + R.toList.length)).toArray sa (sa + (na + nb)):=fun R g=>by
  have hlen:R.toList.length = r + m:=by
   rw [g.2.length_eq,Ov,O0,O0,zx,zy]
  refine ⟨hlen,?_,fun i hi=>?_,fun i j a1 a2 a3=>?_⟩
  ·refine Fx ?_
   rw [hlen,show sa + k + (r + m) = sb + m by lia,<- exy]
   exact g.2
  ·rw [A4 (by lia),Oi (by lia)]
  ·rw [A4 (by lia),A4 (by lia),hlen]
   have memR:∀ i,i < r + m -> ∃ c,(R.toList[i]?).getD 0 = at' p c /\ ((sa + k <= c /\ c < sb) \/ (sb <= c /\ c < sb + m)):=fun i hi=>by
    have hi':i < R.toList.length:=by lia
    have hm:R.toList[i] ∈ R.toList:=List.getElem_mem hi'
    have e:(R.toList[i]?).getD 0 = R.toList[i]:=by rw [PF hi'];rfl
    rw [e]
    rcases OC.mp (g.2.mem_iff.mp hm) with hm | hm
    ·obtain ⟨c,c1,c2,c3,c4⟩:=qR hm
     exact ⟨c,c4.symm,.inl ⟨c1,c2⟩⟩
    ·obtain ⟨c,c1,c2,c3,c4⟩:=qR hm
     exact ⟨c,c4.symm,.inr ⟨c1,c2⟩⟩
   by_cases b1:sa + k <= i /\ i < sa + k + (r + m)
   ·rw [Oj b1]
    by_cases b2:sa + k <= j /\ j < sa + k + (r + m)
    ·rw [Oj b2]
     by_cases b3:i = j
     ·subst b3;exact o.rf _
     ·have:=Rx.mp g.1 (i - (sa + k)) (j - (sa + k)) (by lia) (by lia) (by lia)
      rw [PF (by lia),PF (by lia)]
      exact this
    ·rw [Oi b2]
     obtain ⟨c,c1,c2⟩:=memR (i - (sa + k)) (by lia)
     rw [c1]
     rcases c2 with c2 | c2
     ·exact o.tr _ _ _ (sA' c (sb - 1) (by lia) (by lia) (by lia)) (m3' j (by lia) (by lia))
     ·exact sB' c j (by lia) (by lia) (by lia)
   ·rw [Oi b1]
    by_cases b2:sa + k <= j /\ j < sa + k + (r + m)
    ·rw [Oj b2]
     obtain ⟨c,c1,c2⟩:=memR (j - (sa + k)) (by lia)
     rw [c1]
     rcases c2 with c2 | c2
     ·exact sA' i c (by lia) (by lia) (by lia)
     ·exact o.tr _ _ _ (k2' i (by lia) (by lia)) (sB' sb c (Op _) (by lia) (by lia))
    ·rw [Oi b2]
     by_cases b3:j < sb
     ·exact sA' i j a1 a2 b3
     ·by_cases b4:sb <= i
      ·exact sB' i j b4 a2 (by lia)
      ·exact o.tr _ _ _ (k2' i a1 (by lia)) (sB' sb j (Op _) (by lia) (by lia))
 have fin:∀ (R:Array Nat) (st3:SortSt),Same κ st2 st3 -> ka le ((p.extract (sa + k) sb).toList ++ (p.extract sb (sb + m)).toList) R ->
   Q (failedOf st3).isNone (setArr st3 ((R.map (kas_item it)).toList.zipIdx.foldl (fun a x=>a.setIfInBounds (sa + k + x.2) x.1) (arrOf st3))):=fun R st3 sm g=>by
  obtain ⟨hlen,S⟩:=key R g
  have ea:arrOf st3 = p.map (kas_item it):=sm.2.1.trans T.2.1
  have ef:failedOf st3 = none:=sm.2.2.2.trans T.2.2.2
  rw [ef]
  refine h _ _ ⟨sm.1,?_,sm.2.2.1.trans T.2.2.1,ef⟩ S
  show (R.map (kas_item it)).toList.zipIdx.foldl (fun a x=>a.setIfInBounds (sa + k + x.2) x.1) (arrOf st3) = _
  rw [ea]
  apply Array.toList_inj.mp
  rw [kK (sa + k) _ _ 0 (by simp at hlen ⊢;lia)]
  simp
 have cx:(p.map (kas_item it)).extract (sa + k) sb = (p.extract (sa + k) sb).map (kas_item it):=by simp
 have cy:(p.map (kas_item it)).extract sb (sb + m) = (p.extract sb (sb + m)).map (kas_item it):=by simp
 rw [cx,cy]
 have hx:∀ i,i < (p.extract (sa + k) sb).size -> at' (p.extract (sa + k) sb) i < n:=fun i hi=>by rw [ax i (by lia)];exact hp _ (by lia)
 have hy:∀ i,i < (p.extract sb (sb + m)).size -> at' (p.extract sb (sb + m)) i < n:=fun i hi=>by rw [ay i (by lia)];exact hp _ (by lia)
 have sx:∀ i j,i <= j -> j < (p.extract (sa + k) sb).size -> le (at' (p.extract (sa + k) sb) i) (at' (p.extract (sa + k) sb) j):=fun i j a1 a2=>by rw [ax i (by lia),ax j (by lia)];exact sA' _ _ (by lia) (by lia) (by lia)
 have sy:∀ i j,i <= j -> j < (p.extract sb (sb + m)).size -> le (at' (p.extract sb (sb + m)) i) (at' (p.extract sb (sb + m)) j):=fun i j a1 a2=>by rw [ay i (by lia),ay j (by lia)];exact sB' _ _ (by lia) (by lia) (by lia)
 have hf:∀ i,i < (p.extract (sa + k) sb).size -> le (at' (p.extract sb (sb + m)) 0) (at' (p.extract (sa + k) sb) i):=fun i a1=>by rw [ay 0 (by lia),ax i (by lia)];exact k3' _ (by lia) (by lia)
 have hl:∀ i,i < (p.extract sb (sb + m)).size -> le (at' (p.extract sb (sb + m)) i) (at' (p.extract (sa + k) sb) ((p.extract (sa + k) sb).size - 1)):=fun i a1=>by
  rw [zx,ay i (by lia),ax _ (by lia),show sa + k + (r - 1) = sb - 1 by lia]
  exact m2' _ (by lia) (by lia)
 by_cases e4:r <= m
 ·rw [Oj e4]
  refine Ol (D1 o hc T.1 hx hy (by lia) (by lia) sx sy hf hl fun R st3 sm g=>?_)
  exact Ol (Pe (Ol (Pk (Oo (fin R st3 sm g)))))
 ·rw [Oi e4]
  refine Ol (D0 o hc T.1 hx hy (by lia) (by lia) sx sy hf hl fun R st3 sm g=>?_)
  exact Ol (Pe (Ol (Pk (Oo (fin R st3 sm g)))))
end
section
variable {le:Nat -> Nat -> Prop} {lt:Nat -> Nat -> Bool} {p p' p2:Array Nat} {a b c:Nat}
def Up (le:Nat -> Nat -> Prop) (p:Array Nat) (a b:Nat):Prop:=∀ i j,a <= i -> i <= j -> j < b -> le (at' p i) (at' p j)
def Dn (le:Nat -> Nat -> Prop) (p:Array Nat) (a b:Nat):Prop:=∀ i j,a <= i -> i <= j -> j < b -> le (at' p j) (at' p i)
def Es (le:Nat -> Nat -> Prop) (p:Array Nat) (a b:Nat):Prop:=∀ k,a <= k -> k < b -> le (at' p k) (at' p (b - 1)) /\ le (at' p (b - 1)) (at' p k)
def Near (p p':Array Nat) (lo hi:Nat):Prop:=p'.Perm p /\ ∀ k,k < lo \/ hi <= k -> at' p' k = at' p k
theorem Near.rf:Near p p a b:=⟨.refl _,fun _ _=>rfl⟩
theorem Near.tr (h:Near p p' a b) (h2:Near p' p2 a b):Near p p2 a b:=⟨h2.1.trans h.1,fun k hk=>(h2.2 k hk).trans (h.2 k hk)⟩
theorem Near.wide {d e:Nat} (h:Near p p' a b) (h1:d <= a) (h2:b <= e):Near p p' d e:=⟨h.1,fun k hk=>h.2 k (by lia)⟩
theorem Near.size (h:Near p p' a b):p'.size = p.size:=h.1.size_eq
theorem eA (h:b <= p.size):Near p (kas_rev p a b) a b:=⟨mirror_perm _ _ _ _,fun k hk=>by rw [bU h,Oi (by lia)]⟩
theorem yF {d:Nat} (h:b < p.size) (hd:d <= b):Near p (bubble p b d) (b - d) (b + 1):=⟨bubble_perm _ _ _,fun k hk=>by rw [n6 h hd,Oi (by lia),Oi (by lia)]⟩
theorem Up.succ (o:Ord lt le) (h:Up le p a b) (hab:a < b) (hl:le (at' p (b - 1)) (at' p b)):Up le p a (b + 1):=fun i j h1 h2 h3=>by
 by_cases e:j = b
 ·subst e
  by_cases e2:i = j
  ·subst e2;exact o.rf _
  ·exact o.tr _ _ _ (h i (j - 1) h1 (by lia) (by lia)) hl
 ·exact h i j h1 h2 (by lia)
theorem Dn.succ (o:Ord lt le) (h:Dn le p a b) (hab:a < b) (hl:le (at' p b) (at' p (b - 1))):Dn le p a (b + 1):=fun i j h1 h2 h3=>by
 by_cases e:j = b
 ·subst e
  by_cases e2:i = j
  ·subst e2;exact o.rf _
  ·exact o.tr _ _ _ hl (h i (j - 1) h1 (by lia) (by lia))
 ·exact h i j h1 h2 (by lia)
theorem Kf (o:Ord lt le):Up le p a (a + 1):=fun i j h1 h2 h3=>by
 have:i = j:=by lia
 subst this;exact o.rf _
theorem Up.of (h:Up le p a b) (k:∀ i,a <= i -> i < b -> at' p' i = at' p i):Up le p' a b:=fun i j h1 h2 h3=>by
 rw [k i h1 (by lia),k j (by lia) h3];exact h i j h1 h2 h3
theorem Dn.rev (o:Ord lt le) (h:Dn le p a b) (hb:b <= p.size) (hc:a <= c) (he:Es le p c b):Dn le (kas_rev p c b) a b:=by
 have key:∀ k,a <= k -> k < b -> ∃ k',a <= k' /\ k' < b /\ at' (kas_rev p c b) k = at' p k' /\ le (at' p k') (at' p k) /\ le (at' p k) (at' p k'):=fun k hk0 hk=>by
  rw [bU hb]
  split
  ·rename_i h1
   refine ⟨c + b - 1 - k,by lia,by lia,rfl,?_⟩
   obtain ⟨a1,a2⟩:=he k h1.1 hk
   obtain ⟨b1,b2⟩:=he (c + b - 1 - k) (by lia) (by lia)
   exact ⟨o.tr _ _ _ b1 a2,o.tr _ _ _ a1 b2⟩
  ·exact ⟨k,hk0,hk,rfl,o.rf _,o.rf _⟩
 intro i j h0 hij hj
 obtain ⟨i',_,_,e1,x1,x2⟩:=key i h0 (by lia)
 obtain ⟨j',_,_,e2,y1,y2⟩:=key j (by lia) hj
 rw [e1,e2]
 exact o.tr _ _ _ y1 (o.tr _ _ _ (h i j h0 hij hj) x2)
theorem Dn.turn (h:Dn le p a b) (hb:b <= p.size):Up le (kas_rev p a b) a b:=by
 intro i j h0 hij hj
 rw [bU hb,bU hb,Oj ⟨h0,by lia⟩,Oj ⟨by lia,hj⟩]
 exact h _ _ (by lia) (by lia) (by lia)
theorem oq (o:Ord lt le) (h:a + 1 = b):Es le p a b:=fun k h1 h2=>by
 have:k = b - 1:=by lia
 subst this
 exact ⟨o.rf _,o.rf _⟩
end
section
variable {prog:Program} {w:World} {A:Around} {E:Value -> Shared -> Prop} {s:Shared} {κ:SortKind} {it:Array Keyed} {n:Nat} {lt:Nat -> Nat -> Bool} {le:Nat -> Nat -> Prop} {p:Array Nat} {pend:Array (Nat × Nat × Nat)} {st:SortSt}
theorem gO (hc:tW prog w A s κ it n lt) (S:Stt κ it st p pend) (hp:∀ i,i < p.size -> at' p i < n) {i j:Nat} {Q:Option Bool -> SortSt -> Prop} (hi:i < p.size) (hj:j < p.size) (h:Q (some (lt (at' p i) (at' p j))) st):wpS (model prog w) A E s (ltAt' i j) Q st:=by
 rw [ltAt'_eq]
 refine Ol (Pk ?_)
 dsimp only
 rw [S.2.1]
 exact Ol (bP hi (Ol (bP hj (w_lt hc S.1 (hp _ hi) (hp _ hj) h))))
theorem nT (S:Stt κ it st p pend) {i j:Nat} {Q:Unit -> SortSt -> Prop} (h:∀ st',Stt κ it st' (kas_rev p i j) pend -> Q () st'):wpS (model prog w) A E s (reverseSlice' i j) Q st:=by
 rw [reverseSlice'_eq]
 refine Pe (h _ ⟨S.1,?_,S.2.2⟩)
 show mirror (arrOf st) i j ((j - i) / 2) = _
 rw [S.2.1]
 exact kas_swaps_map (kas_item it) (fun k=>i + k) (fun k=>j - 1 - k) _ p
theorem Kg (S:Stt κ it st p pend) {i j:Nat} {Q:Unit -> SortSt -> Prop} (h:∀ st',Stt κ it st' (bubble p i (i - j)) pend -> Q () st'):wpS (model prog w) A E s (moveDown' i j) Q st:=by
 rw [moveDown'_eq]
 refine Pe (h _ ⟨S.1,?_,S.2.2⟩)
 show bubble (arrOf st) i (i - j) = _
 rw [S.2.1]
 exact kas_swaps_map (kas_item it) (fun k=>i - k) (fun k=>i - k - 1) _ p
theorem LG (o:Ord lt le) (hc:tW prog w A s κ it n lt) (S:Stt κ it st p pend) (hp:∀ p':Array Nat,p'.Perm p -> ∀ i,i < p'.size -> at' p' i < n) {lo m ok:Nat} {Q:Bool -> SortSt -> Prop} (hz:lo + m <= p.size) (hok:ok <= m) (ok1:1 <= ok) (hs:Up le p lo (lo + ok))
  (h:∀ p' st',Stt κ it st' p' pend -> Near p p' lo (lo + m) -> Up le p' lo (lo + m) -> Q true st'):wpS (model prog w) A E s (binarySort' lo m ok) Q st:=by
 refine Ol (O6 (O7 (I:=fun k c st'=>c = (none,()) /\ ∃ p',Stt κ it st' p' pend /\ Near p p' lo (lo + m) /\ Up le p' lo (lo + min k m))
  (Q:=fun c st'=>c = (none,()) /\ ∃ p',Stt κ it st' p' pend /\ Near p p' lo (lo + m) /\ Up le p' lo (lo + m)) ?step ?fin ?init) ?post)
 case post=>
  rintro c st' ⟨rfl,p',S',N,U⟩
  exact Oo (h p' st' S' N U)
 case init=>exact ⟨rfl,p,S,.rf,by rw [show min (max ok 1) m = ok by lia];exact hs⟩
 case fin=>
  rintro c st' ⟨hc',p',S',N,U⟩
  exact ⟨hc',p',S',N,by rwa [show min (max (max ok 1) m) m = m by lia] at U⟩
 case step=>
  rintro k c st' hak hkn ⟨rfl,p',S',N,U⟩
  rw [show min k m = k by lia] at U
  have hsz:=N.size
  have hk1:1 <= k:=by lia
  have hkm:k < m:=by lia
  clear hak hkn hok ok1 hs
  refine Ol (O6 (O7 (I:=fun x c st''=>st'' = st' /\ ∃ l r,c = (none,l,r) /\ l <= r /\ r <= k /\ r - l <= k - x /\
    (∀ i,i < l -> le (at' p' (lo + i)) (at' p' (lo + k))) /\ (∀ i,r <= i -> i < k -> le (at' p' (lo + k)) (at' p' (lo + i))))
   (Q:=fun c st''=>st'' = st' /\ ∃ l r,c = (none,l,r) /\ l <= k /\
    (∀ i,i < l -> le (at' p' (lo + i)) (at' p' (lo + k))) /\ (∀ i,l <= i -> i < k -> le (at' p' (lo + k)) (at' p' (lo + i)))) ?istep ?ifin ?iinit) ?ipost)
  case iinit=>exact ⟨rfl,0,k,rfl,by lia,by lia,by lia,fun i hi=>by lia,fun i h1 h2=>by lia⟩
  case ifin=>
   rintro c st'' ⟨rfl,l,r,rfl,hlr,hrk,hm,hlo,hhi⟩
   have:l = r:=by lia
   subst this
   exact ⟨rfl,l,l,rfl,hrk,hlo,hhi⟩
  case istep=>
   rintro x c st'' _ hxk ⟨rfl,l,r,rfl,hlr,hrk,hm,hlo,hhi⟩
   dsimp only
   by_cases hge:l ≥ r
   ·rw [Oj hge]
    have:l = r:=by lia
    subst this
    exact Oo ⟨rfl,l,l,rfl,hrk,hlo,hhi⟩
   ·rw [Oi hge]
    refine Ol (gO hc S' (hp _ N.1) (by lia) (by lia) ?_)
    dsimp only
    cases cw:lt (at' p' (lo + k)) (at' p' (lo + (l + r) / 2)) with
    | true=>
     rw [Oj rfl]
     exact Oo ⟨rfl,l,(l + r) / 2,rfl,by lia,by lia,by lia,hlo,fun i h1 h2=>o.tr _ _ _ (o.yes _ _ cw) (U _ _ (by lia) (by lia) (by lia))⟩
    | false=>
     rw [Oi (by decide)]
     exact Oo ⟨rfl,(l + r) / 2 + 1,r,rfl,by lia,by lia,by lia,fun i h1=>o.tr _ _ _ (U _ _ (by lia) (by lia) (by lia)) (o.no _ _ cw),hhi⟩
  case ipost=>
   rintro c st'' ⟨rfl,l,r,rfl,hlk,hlo,hhi⟩
   dsimp only
   refine Ol (Kg S' fun st3 S3=>Oo ⟨rfl,_,S3,N.tr ((yF (by lia) (by lia)).wide (by lia) (by lia)),?_⟩)
   rw [show min (k + 1) m = k + 1 by lia,show lo + k - (lo + l) = k - l by lia]
   intro i j h1 h2 h3
   rw [n6 (by lia) (by lia),n6 (by lia) (by lia)]
   rw [show lo + k - (k - l) = lo + l by lia]
   by_cases i1:i = lo + l
   ·rw [Oj i1]
    by_cases j1:j = lo + l
    ·rw [Oj j1];exact o.rf _
    ·rw [Oi j1]
     rw [Oj (by lia)]
     have:=hhi (j - 1 - lo) (by lia) (by lia)
     rwa [show lo + (j - 1 - lo) = j - 1 by lia] at this
   ·rw [Oi i1]
    by_cases j1:j = lo + l
    ·rw [Oj j1,Oi (by lia)]
     have:=hlo (i - lo) (by lia)
     rwa [show lo + (i - lo) = i by lia] at this
    ·rw [Oi j1]
     by_cases i2:lo + l < i /\ i <= lo + k
     ·rw [Oj i2,Oj (by lia)]
      exact U _ _ (by lia) (by lia) (by lia)
     ·rw [Oi i2]
      by_cases j2:lo + l < j /\ j <= lo + k
      ·rw [Oj j2]
       exact U _ _ (by lia) (by lia) (by lia)
      ·rw [Oi j2]
       exact U _ _ (by lia) (by lia) (by lia)
end
section
variable {prog:Program} {w:World} {A:Around} {E:Value -> Shared -> Prop} {s:Shared} {κ:SortKind} {it:Array Keyed} {n:Nat} {lt:Nat -> Nat -> Bool} {le:Nat -> Nat -> Prop} {p:Array Nat} {pend:Array (Nat × Nat × Nat)} {st:SortSt}
theorem HY (o:Ord lt le) (hc:tW prog w A s κ it n lt) (S:Stt κ it st p pend) (hp:∀ p':Array Nat,p'.Perm p -> ∀ i,i < p'.size -> at' p' i < n) {lo nrem:Nat} {Q:Option Nat -> SortSt -> Prop} (h1:1 <= nrem) (hz:lo + nrem <= p.size)
  (h:∀ m p' st',Stt κ it st' p' pend -> 1 <= m -> m <= nrem -> Near p p' lo (lo + m) -> Up le p' lo (lo + m) -> Q (some m) st'):wpS (model prog w) A E s (countRun' lo nrem) Q st:=by
 refine Ol (O6 (O7 (I:=fun x c st'=>st' = st /\ c = (none,x) /\ x <= nrem /\ Up le p lo (lo + x))
  (Q:=fun c st'=>st' = st /\ ∃ m,c = (none,m) /\ 1 <= m /\ m <= nrem /\ Up le p lo (lo + m) /\ (m < nrem -> le (at' p (lo + m)) (at' p (lo + m - 1)))) ?s1 ?f1 ?i1) ?p1)
 case i1=>exact ⟨rfl,rfl,h1,Kf o⟩
 case f1=>
  rintro c st' ⟨rfl,rfl,k1,k2⟩
  exact ⟨rfl,_,rfl,by lia,k1,k2,fun _=>by lia⟩
 case s1=>
  rintro x c st' hx0 hx ⟨rfl,rfl,k1,k2⟩
  dsimp only
  refine Ol (gO hc S (hp p (.refl _)) (by lia) (by lia) ?_)
  dsimp only
  cases cw:lt (at' p (lo + x)) (at' p (lo + x - 1)) with
  | true=>
   rw [Oj rfl]
   exact Oo ⟨rfl,x,rfl,hx0,k1,k2,fun _=>o.yes _ _ cw⟩
  | false=>
   rw [Oi (by decide)]
   exact Oo ⟨rfl,rfl,by lia,Up.succ (b:=lo + x) o k2 (by lia) (o.no _ _ cw)⟩
 case p1=>
  rintro c st' ⟨rfl,m,rfl,m1,m2,U,hd⟩
  dsimp only
  simp only [P8]
  by_cases e1:m = nrem
  ·rw [Oj e1]
   exact Oo (h m p st' S m1 m2 .rf U)
  rw [Oi e1]
  have e1':m < nrem:=by lia
  clear e1
  by_cases e2:m > 1
  ·rw [Oj e2]
   refine Ol (gO hc S (hp p (.refl _)) (by lia) (by lia) ?_)
   dsimp only
   cases cw:lt (at' p lo) (at' p (lo + m - 1)) with
   | true=>
    rw [Oj rfl]
    exact Oo (h m p st' S m1 m2 .rf U)
   | false=>
    rw [Oi (by decide)]
    have g0:=o.no _ _ cw
    refine Ol (nT S fun stx Sx=>?_)
    have same:∀ i j,lo <= i -> i < lo + m -> lo <= j -> j < lo + m -> le (at' p i) (at' p j):=fun i j a1 a2 a3 a4=>o.tr _ _ _ (U i (lo + m - 1) a1 (by lia) (by lia)) (o.tr _ _ _ g0 (U lo j (Op _) a3 a4))
    have d0:Dn le (kas_rev p lo (lo + m)) lo (lo + m):=fun i j a1 a2 a3=>by
     rw [bU (by lia),bU (by lia),Oj (by lia),Oj (by lia)]
     exact same _ _ (by lia) (by lia) (by lia) (by lia)
    have Dx:Dn le (kas_rev p lo (lo + m)) lo (lo + (m + 1)):=Dn.succ (b:=lo + m) o d0 (by lia) (by
     rw [bU (by lia),bU (by lia),Oi (by lia),Oj (by lia)]
     exact o.tr _ _ _ (hd (by lia)) (same _ _ (by lia) (by lia) (by lia) (by lia)))
    have Nx:Near p (kas_rev p lo (lo + m)) lo (lo + (m + 1)):=(eA (by lia)).wide (Op _) (by lia)
    generalize kas_rev p lo (lo + m) = px at Sx Dx Nx
    refine Ol (P9 (Pn ⟨rfl,?_⟩))
    refine Ol (O6 (O7 (I:=fun x c st'=>∃ q p',c = (none,x,q) /\ Stt κ it st' p' pend /\ Near p p' lo (lo + x) /\ x <= nrem /\ q + 1 <= x /\ Dn le p' lo (lo + x) /\ Es le p' (lo + x - (q + 1)) (lo + x))
     (Q:=fun c st'=>∃ x q p',c = (none,x,q) /\ m + 1 <= x /\ Stt κ it st' p' pend /\ Near p p' lo (lo + x) /\ x <= nrem /\ q + 1 <= x /\ Dn le p' lo (lo + x) /\ Es le p' (lo + x - (q + 1)) (lo + x)) ?s2 ?f2 ?i2) ?p2)
    case i2=>exact ⟨0,px,rfl,Sx,Nx,by lia,by lia,Dx,oq o (by lia)⟩
    case f2=>
     rintro c st' ⟨q,p',rfl,S',N',k1,k2,D',E'⟩
     exact ⟨_,q,p',rfl,by lia,S',N',k1,k2,D',E'⟩
    case s2=>
     rintro x c st' hx0 hx ⟨q,p',rfl,S',N',k1,k2,D',E'⟩
     dsimp only
     have hs2:=N'.size
     refine Ol (gO hc S' (hp _ N'.1) (by lia) (by lia) ?_)
     dsimp only
     cases cw:lt (at' p' (lo + x)) (at' p' (lo + x - 1)) with
     | true=>
      rw [Oj rfl]
      have hl:=o.yes _ _ cw
      by_cases q0:q > 0
      ·rw [Oj q0]
       refine Ol (nT S' fun st4 S4=>Oo ?_)
       have d1:=D'.rev o (by lia) (by lia) E'
       have b1:at' (kas_rev p' (lo + x - (q + 1)) (lo + x)) (lo + x) = at' p' (lo + x):=by rw [bU (by lia),Oi (by lia)]
       have b2:at' (kas_rev p' (lo + x - (q + 1)) (lo + x)) (lo + x - 1) = at' p' (lo + x - (q + 1)):=by
        rw [bU (by lia),Oj (by lia)]
        congr 1;lia
       exact ⟨0,_,rfl,S4,(N'.tr ((eA (by lia)).wide (by lia) (by lia))).wide (by lia) (by lia),by lia,by lia,Dn.succ (b:=lo + x) o d1 (by lia) (by rw [b1,b2];exact o.tr _ _ _ hl (E' _ (Op _) (by lia)).2),oq o (by lia)⟩
      ·rw [Oi q0]
       exact Oo ⟨0,p',rfl,S',N'.wide (by lia) (by lia),by lia,by lia,Dn.succ (b:=lo + x) o D' (by lia) hl,oq o (by lia)⟩
     | false=>
      rw [Oi (by decide)]
      have g1:=o.no _ _ cw
      refine Ol (gO hc S' (hp _ N'.1) (by lia) (by lia) ?_)
      dsimp only
      cases cw2:lt (at' p' (lo + x - 1)) (at' p' (lo + x)) with
      | true=>
       rw [Oj rfl]
       exact Oo ⟨x,q,p',rfl,hx0,S',N',k1,k2,D',E'⟩
      | false=>
       rw [Oi (by decide)]
       have g2:=o.no _ _ cw2
       refine Oo ⟨q + 1,p',rfl,S',N'.wide (by lia) (by lia),by lia,by lia,Dn.succ (b:=lo + x) o D' (by lia) g2,fun k a1 a2=>?_⟩
       rw [show lo + (x + 1) - 1 = lo + x by lia]
       by_cases hk:k = lo + x
       ·subst hk;exact ⟨o.rf _,o.rf _⟩
       ·obtain ⟨x1,x2⟩:=E' k (by lia) (by lia)
        exact ⟨o.tr _ _ _ x1 g1,o.tr _ _ _ g2 x2⟩
    case p2=>
     rintro c st' ⟨x,q,p',rfl,x1,S',N',x2,x3,D',E'⟩
     dsimp only
     have hs2:=N'.size
     by_cases q0:q > 0
     ·rw [Oj q0]
      refine Ol (nT S' fun stX SX=>?_)
      have DX:=D'.rev o (by lia) (by lia) E'
      have NX:=N'.tr ((eA (by lia)).wide (a:=lo + x - (q + 1)) (b:=lo + x) (d:=lo) (e:=lo + x) (by lia) (by lia))
      generalize kas_rev p' (lo + x - (q + 1)) (lo + x) = pX at SX DX NX
      refine Ol (nT SX fun st4 S4=>?_)
      have hs4:=NX.size
      have N4:=NX.tr (eA (a:=lo) (b:=lo + x) (by lia))
      have U4:=DX.turn (by lia)
      refine Ol (O6 (O7 (I:=fun y c st'=>st' = st4 /\ c = (none,y) /\ y <= nrem /\ Up le (kas_rev pX lo (lo + x)) lo (lo + y))
       (Q:=fun c st'=>st' = st4 /\ ∃ y,c = (none,y) /\ x <= y /\ y <= nrem /\ Up le (kas_rev pX lo (lo + x)) lo (lo + y)) ?s3 ?f3 ?i3) ?p3)
      case i3=>exact ⟨rfl,rfl,x2,U4⟩
      case f3=>
       rintro c st' ⟨rfl,rfl,k1,k2⟩
       exact ⟨rfl,_,rfl,by lia,k1,k2⟩
      case s3=>
       rintro y c st' hy0 hy ⟨rfl,rfl,k1,k2⟩
       dsimp only
       have hs5:=N4.size
       refine Ol (gO hc S4 (hp _ N4.1) (by lia) (by lia) ?_)
       dsimp only
       cases cw:lt (at' (kas_rev pX lo (lo + x)) (lo + y)) (at' (kas_rev pX lo (lo + x)) (lo + y - 1)) with
       | true=>
        rw [Oj rfl]
        exact Oo ⟨rfl,y,rfl,hy0,k1,k2⟩
       | false=>
        rw [Oi (by decide)]
        exact Oo ⟨rfl,rfl,by lia,Up.succ (b:=lo + y) o k2 (by lia) (o.no _ _ cw)⟩
      case p3=>
       rintro c st' ⟨rfl,y,rfl,y1,y2,U⟩
       exact Oo (h y _ st' S4 (by lia) y2 (N4.wide (Op _) (by lia)) U)
     ·rw [Oi q0]
      have DX:=D'
      have NX:=N'
      have SX:=S'
      generalize p' = pX at SX DX NX
      refine Ol (nT SX fun st4 S4=>?_)
      have hs4:=NX.size
      have N4:=NX.tr (eA (a:=lo) (b:=lo + x) (by lia))
      have U4:=DX.turn (by lia)
      refine Ol (O6 (O7 (I:=fun y c st'=>st' = st4 /\ c = (none,y) /\ y <= nrem /\ Up le (kas_rev pX lo (lo + x)) lo (lo + y))
       (Q:=fun c st'=>st' = st4 /\ ∃ y,c = (none,y) /\ x <= y /\ y <= nrem /\ Up le (kas_rev pX lo (lo + x)) lo (lo + y)) ?s3 ?f3 ?i3) ?p3)
      case i3=>exact ⟨rfl,rfl,x2,U4⟩
      case f3=>
       rintro c st' ⟨rfl,rfl,k1,k2⟩
       exact ⟨rfl,_,rfl,by lia,k1,k2⟩
      case s3=>
       rintro y c st' hy0 hy ⟨rfl,rfl,k1,k2⟩
       dsimp only
       have hs5:=N4.size
       refine Ol (gO hc S4 (hp _ N4.1) (by lia) (by lia) ?_)
       dsimp only
       cases cw:lt (at' (kas_rev pX lo (lo + x)) (lo + y)) (at' (kas_rev pX lo (lo + x)) (lo + y - 1)) with
       | true=>
        rw [Oj rfl]
        exact Oo ⟨rfl,y,rfl,hy0,k1,k2⟩
       | false=>
        rw [Oi (by decide)]
        exact Oo ⟨rfl,rfl,by lia,Up.succ (b:=lo + y) o k2 (by lia) (o.no _ _ cw)⟩
      case p3=>
       rintro c st' ⟨rfl,y,rfl,y1,y2,U⟩
       exact Oo (h y _ st' S4 (by lia) y2 (N4.wide (Op _) (by lia)) U)
  ·rw [Oi e2]
   have m11:m = 1:=by lia
   have Sx:=S
   have Dx:Dn le p lo (lo + (m + 1)):=Dn.succ (b:=lo + m) o (fun i j a1 a2 a3=>by
    have:i = j:=by lia
    subst this;exact o.rf _) (by lia) (hd (by lia))
   have Nx:Near p p lo (lo + (m + 1)):=.rf
   obtain ⟨px,hpx⟩:∃ px,px = p:=⟨p,rfl⟩
   rw [<- hpx] at Sx Dx
   replace Nx:Near p px lo (lo + (m + 1)):=by rw [hpx];exact .rf
   refine Ol (P9 (Pn ⟨rfl,?_⟩))
   refine Ol (O6 (O7 (I:=fun x c st'=>∃ q p',c = (none,x,q) /\ Stt κ it st' p' pend /\ Near p p' lo (lo + x) /\ x <= nrem /\ q + 1 <= x /\ Dn le p' lo (lo + x) /\ Es le p' (lo + x - (q + 1)) (lo + x))
    (Q:=fun c st'=>∃ x q p',c = (none,x,q) /\ m + 1 <= x /\ Stt κ it st' p' pend /\ Near p p' lo (lo + x) /\ x <= nrem /\ q + 1 <= x /\ Dn le p' lo (lo + x) /\ Es le p' (lo + x - (q + 1)) (lo + x)) ?s2 ?f2 ?i2) ?p2)
   case i2=>exact ⟨0,px,rfl,Sx,Nx,by lia,by lia,Dx,oq o (by lia)⟩
   case f2=>
    rintro c st' ⟨q,p',rfl,S',N',k1,k2,D',E'⟩
    exact ⟨_,q,p',rfl,by lia,S',N',k1,k2,D',E'⟩
   case s2=>
    rintro x c st' hx0 hx ⟨q,p',rfl,S',N',k1,k2,D',E'⟩
    dsimp only
    have hs2:=N'.size
    refine Ol (gO hc S' (hp _ N'.1) (by lia) (by lia) ?_)
    dsimp only
    cases cw:lt (at' p' (lo + x)) (at' p' (lo + x - 1)) with
    | true=>
     rw [Oj rfl]
     have hl:=o.yes _ _ cw
     by_cases q0:q > 0
     ·rw [Oj q0]
      refine Ol (nT S' fun st4 S4=>Oo ?_)
      have d1:=D'.rev o (by lia) (by lia) E'
      have b1:at' (kas_rev p' (lo + x - (q + 1)) (lo + x)) (lo + x) = at' p' (lo + x):=by rw [bU (by lia),Oi (by lia)]
      have b2:at' (kas_rev p' (lo + x - (q + 1)) (lo + x)) (lo + x - 1) = at' p' (lo + x - (q + 1)):=by
       rw [bU (by lia),Oj (by lia)]
       congr 1;lia
      exact ⟨0,_,rfl,S4,(N'.tr ((eA (by lia)).wide (by lia) (by lia))).wide (by lia) (by lia),by lia,by lia,Dn.succ (b:=lo + x) o d1 (by lia) (by rw [b1,b2];exact o.tr _ _ _ hl (E' _ (Op _) (by lia)).2),oq o (by lia)⟩
     ·rw [Oi q0]
      exact Oo ⟨0,p',rfl,S',N'.wide (by lia) (by lia),by lia,by lia,Dn.succ (b:=lo + x) o D' (by lia) hl,oq o (by lia)⟩
    | false=>
     rw [Oi (by decide)]
     have g1:=o.no _ _ cw
     refine Ol (gO hc S' (hp _ N'.1) (by lia) (by lia) ?_)
     dsimp only
     cases cw2:lt (at' p' (lo + x - 1)) (at' p' (lo + x)) with
     | true=>
      rw [Oj rfl]
      exact Oo ⟨x,q,p',rfl,hx0,S',N',k1,k2,D',E'⟩
     | false=>
      rw [Oi (by decide)]
      have g2:=o.no _ _ cw2
      refine Oo ⟨q + 1,p',rfl,S',N'.wide (by lia) (by lia),by lia,by lia,Dn.succ (b:=lo + x) o D' (by lia) g2,fun k a1 a2=>?_⟩
      rw [show lo + (x + 1) - 1 = lo + x by lia]
      by_cases hk:k = lo + x
      ·subst hk;exact ⟨o.rf _,o.rf _⟩
      ·obtain ⟨x1,x2⟩:=E' k (by lia) (by lia)
       exact ⟨o.tr _ _ _ x1 g1,o.tr _ _ _ g2 x2⟩
   case p2=>
    rintro c st' ⟨x,q,p',rfl,x1,S',N',x2,x3,D',E'⟩
    dsimp only
    have hs2:=N'.size
    by_cases q0:q > 0
    ·rw [Oj q0]
     refine Ol (nT S' fun stX SX=>?_)
     have DX:=D'.rev o (by lia) (by lia) E'
     have NX:=N'.tr ((eA (by lia)).wide (a:=lo + x - (q + 1)) (b:=lo + x) (d:=lo) (e:=lo + x) (by lia) (by lia))
     generalize kas_rev p' (lo + x - (q + 1)) (lo + x) = pX at SX DX NX
     refine Ol (nT SX fun st4 S4=>?_)
     have hs4:=NX.size
     have N4:=NX.tr (eA (a:=lo) (b:=lo + x) (by lia))
     have U4:=DX.turn (by lia)
     refine Ol (O6 (O7 (I:=fun y c st'=>st' = st4 /\ c = (none,y) /\ y <= nrem /\ Up le (kas_rev pX lo (lo + x)) lo (lo + y))
      (Q:=fun c st'=>st' = st4 /\ ∃ y,c = (none,y) /\ x <= y /\ y <= nrem /\ Up le (kas_rev pX lo (lo + x)) lo (lo + y)) ?s3 ?f3 ?i3) ?p3)
     case i3=>exact ⟨rfl,rfl,x2,U4⟩
     case f3=>
      rintro c st' ⟨rfl,rfl,k1,k2⟩
      exact ⟨rfl,_,rfl,by lia,k1,k2⟩
     case s3=>
      rintro y c st' hy0 hy ⟨rfl,rfl,k1,k2⟩
      dsimp only
      have hs5:=N4.size
      refine Ol (gO hc S4 (hp _ N4.1) (by lia) (by lia) ?_)
      dsimp only
      cases cw:lt (at' (kas_rev pX lo (lo + x)) (lo + y)) (at' (kas_rev pX lo (lo + x)) (lo + y - 1)) with
      | true=>
       rw [Oj rfl]
       exact Oo ⟨rfl,y,rfl,hy0,k1,k2⟩
      | false=>
       rw [Oi (by decide)]
       exact Oo ⟨rfl,rfl,by lia,Up.succ (b:=lo + y) o k2 (by lia) (o.no _ _ cw)⟩
     case p3=>
      rintro c st' ⟨rfl,y,rfl,y1,y2,U⟩
      exact Oo (h y _ st' S4 (by lia) y2 (N4.wide (Op _) (by lia)) U)
    ·rw [Oi q0]
     have DX:=D'
     have NX:=N'
     have SX:=S'
     generalize p' = pX at SX DX NX
     refine Ol (nT SX fun st4 S4=>?_)
     have hs4:=NX.size
     have N4:=NX.tr (eA (a:=lo) (b:=lo + x) (by lia))
     have U4:=DX.turn (by lia)
     refine Ol (O6 (O7 (I:=fun y c st'=>st' = st4 /\ c = (none,y) /\ y <= nrem /\ Up le (kas_rev pX lo (lo + x)) lo (lo + y))
      (Q:=fun c st'=>st' = st4 /\ ∃ y,c = (none,y) /\ x <= y /\ y <= nrem /\ Up le (kas_rev pX lo (lo + x)) lo (lo + y)) ?s3 ?f3 ?i3) ?p3)
     case i3=>exact ⟨rfl,rfl,x2,U4⟩
     case f3=>
      rintro c st' ⟨rfl,rfl,k1,k2⟩
      exact ⟨rfl,_,rfl,by lia,k1,k2⟩
     case s3=>
      rintro y c st' hy0 hy ⟨rfl,rfl,k1,k2⟩
      dsimp only
      have hs5:=N4.size
      refine Ol (gO hc S4 (hp _ N4.1) (by lia) (by lia) ?_)
      dsimp only
      cases cw:lt (at' (kas_rev pX lo (lo + x)) (lo + y)) (at' (kas_rev pX lo (lo + x)) (lo + y - 1)) with
      | true=>
       rw [Oj rfl]
       exact Oo ⟨rfl,y,rfl,hy0,k1,k2⟩
      | false=>
       rw [Oi (by decide)]
       exact Oo ⟨rfl,rfl,by lia,Up.succ (b:=lo + y) o k2 (by lia) (o.no _ _ cw)⟩
     case p3=>
      rintro c st' ⟨rfl,y,rfl,y1,y2,U⟩
      exact Oo (h y _ st' S4 (by lia) y2 (N4.wide (Op _) (by lia)) U)
end
section
variable {le:Nat -> Nat -> Prop} {p p':Array Nat} {a b c:Nat}
noncomputable def Rn (le:Nat -> Nat -> Prop) (p:Array Nat):Nat -> List (Nat × Nat × Nat) -> Nat -> Prop
 | a,[],b=>a = b
 | a,e :: es,b=>e.1 = a /\ 1 <= e.2.1 /\ Up le p a (a + e.2.1) /\ Rn le p (a + e.2.1) es b
theorem Rn.len_le:∀ {l:List (Nat × Nat × Nat)} {a:Nat},Rn le p a l b -> a + l.length <= b
 | [],a,h=>by have:a = b:=h;simp [this]
 | e :: es,a,h=>by
  have:=Rn.len_le h.2.2.2
  have:=h.2.1
  simp;lia
theorem Rn.of:∀ {l:List (Nat × Nat × Nat)} {a:Nat},Rn le p a l b -> (∀ k,a <= k -> k < b -> at' p' k = at' p k) -> Rn le p' a l b
 | [],a,h,_=>h
 | e :: es,a,h,k=>⟨h.1,h.2.1,h.2.2.1.of fun i h1 h2=>k i h1 (by have:=Rn.len_le h.2.2.2;lia),Rn.of h.2.2.2 fun i h1 h2=>k i (by lia) h2⟩
theorem Rn.app:∀ {l l':List (Nat × Nat × Nat)} {a:Nat},Rn le p a (l ++ l') b -> ∃ c,Rn le p a l c /\ Rn le p c l' b
 | [],l',a,h=>⟨a,rfl,h⟩
 | e :: es,l',a,h=>by
  obtain ⟨c,h1,h2⟩:=Rn.app h.2.2.2
  exact ⟨c,⟨h.1,h.2.1,h.2.2.1,h1⟩,h2⟩
theorem Rn.put:∀ {l l':List (Nat × Nat × Nat)} {a:Nat},Rn le p a l c -> Rn le p c l' b -> Rn le p a (l ++ l') b
 | [],l',a,h,h2=>by have:a = c:=h;subst this;exact h2
 | e :: es,l',a,h,h2=>⟨h.1,h.2.1,h.2.2.1,Rn.put h.2.2.2 h2⟩
theorem Rn.same:∀ {l l':List (Nat × Nat × Nat)} {a:Nat},(l.map fun e=>(e.1,e.2.1)) = (l'.map fun e=>(e.1,e.2.1)) -> Rn le p a l b -> Rn le p a l' b
 | [],[],a,_,h=>h
 | [],_ :: _,a,h,_=>by simp at h
 | _ :: _,[],a,h,_=>by simp at h
 | e :: es,e' :: es',a,h,k=>by
  simp only [Ox,List.cons.injEq,Prod.mk.injEq] at h
  obtain ⟨⟨h1,h2⟩,h3⟩:=h
  obtain ⟨k1,k2,k3,k4⟩:=k
  rw [h1] at k1
  rw [h2] at k2 k3 k4
  exact ⟨k1,k2,k3,Rn.same h3 k4⟩
theorem G9 {c:Prop} [Decidable c] {k m:Nat} (h:k + 1 < m):(if c then k - 1 else k) + 1 < m:=by split <;> lia
theorem J4 {α:Type} (x z:α) (r:List α):∀ pre:List α,(pre ++ x :: r).set pre.length z = pre ++ z :: r
 | []=>rfl
 | y :: pre=>by simp
theorem Et {α:Type} (z y:α) (r:List α):∀ pre:List α,(pre ++ z :: y :: r).eraseIdx (pre.length + 1) = pre ++ z :: r
 | []=>rfl
 | x :: pre=>by
  have:=Et z y r pre
  simp only [List.cons_append,Ow,List.eraseIdx_cons_succ,this]
theorem J8 {α:Type} {l:List α} {i:Nat} (h:i + 1 < l.length):∃ pre x y post,l = pre ++ x :: y :: post /\ pre.length = i:=by
 refine ⟨l.take i,l[i],l[i + 1],l.drop (i + 2),?_,by rw [P6];lia⟩
 rw [<- Q0 h,<- Q0 (by lia),Ry]
end
section
variable {prog:Program} {w:World} {A:Around} {E:Value -> Shared -> Prop} {s:Shared} {κ:SortKind} {it:Array Keyed} {n:Nat} {lt:Nat -> Nat -> Bool} {le:Nat -> Nat -> Prop} {p:Array Nat} {pend:Array (Nat × Nat × Nat)} {st:SortSt}
theorem pb (o:Ord lt le) (hc:tW prog w A s κ it n lt) (S:Stt κ it st p pend) (hp:∀ i,i < p.size -> at' p i < n) {i b:Nat} {Q:Bool -> SortSt -> Prop} (hi:i + 1 < pend.size) (R:Rn le p 0 pend.toList b) (hb:b <= p.size)
  (h:∀ p' pend' st',Stt κ it st' p' pend' -> Near p p' 0 b -> Rn le p' 0 pend'.toList b -> pend'.size + 1 = pend.size -> Q true st'):wpS (model prog w) A E s (mergeAt' i) Q st:=by
 obtain ⟨pre,⟨sa,na,pw⟩,⟨sb,nb,q⟩,post,e,hl⟩:=J8 (l:=pend.toList) (i:=i) (by simpa using hi)
 rw [e] at R
 obtain ⟨c,R1,R2⟩:=R.app
 obtain ⟨r1,r2,r3,r4,r5,r6,r7⟩:=R2
 dsimp only at r1 r2 r3 r4 r5 r6 r7
 subst r1
 have hle:=r7.len_le
 have g1:pend[i]? = some (sa,na,pw):=by rw [<- Pp,e,Qm (by lia)];simp [hl]
 have g2:pend[i + 1]? = some (sb,nb,q):=by rw [<- Pp,e,Qm (by lia)];simp [hl]
 refine DZ o hc S g1 g2 r4 r2 r5 (by lia) hp (fun i j a1 a2=>r3 _ _ (by lia) (by lia) (by lia)) (fun i j a1 a2=>r6 _ _ (by lia) (by lia) (by lia)) fun p' st' S' so=>?_
 have en:((pend.setIfInBounds i (sa,na + nb,pw)).eraseIdxIfInBounds (i + 1)).toList = pre ++ (sa,na + nb,pw) :: post:=by
  have h2:i + 1 < (pend.setIfInBounds i (sa,na + nb,pw)).size:=by simpa using hi
  rw [Array.eraseIdxIfInBounds,dif_pos h2,Array.toList_eraseIdx,Array.toList_setIfInBounds,e,<- hl]
  rw [J4,Et]
 have hle1:=R1.len_le
 refine h p' _ st' S' ⟨so.perm,fun k hk=>so.out k (by lia)⟩ ?_ ?_
 ·rw [en]
  refine Rn.put (R1.of fun k _ h2=>so.out k (by lia)) ⟨rfl,by dsimp only;lia,fun i j a1 a2 a3=>so.asc i j a1 a2 a3,?_⟩
  dsimp only
  rw [show sa + (na + nb) = sa + na + nb by lia]
  exact r7.of fun k h1 h2=>so.out k (by lia)
 ·have e4:=OG List.length en
  have e3:=OG List.length e
  rw [O0] at e4 e3
  rw [e4,e3]
  simp only [Ov,Ow]
  lia
theorem Kh (o:Ord lt le) (hc:tW prog w A s κ it n lt) (S:Stt κ it st p #[]) (hp:∀ p':Array Nat,p'.Perm p -> ∀ i,i < p'.size -> at' p' i < n) {Q:Unit -> SortSt -> Prop}
  (h:∀ p' pend' st',Stt κ it st' p' pend' -> p'.Perm p -> Up le p' 0 p.size -> Q () st'):wpS (model prog w) A E s sortRuns' Q st:=by
 rw [sortRuns'_eq]
 refine Ol (Pk ?_)
 dsimp only
 rw [S.2.1,Q4]
 generalize minRun' p.size p.size 0 = minrun
 refine Ol (O6 (O7 (I:=fun x c st'=>∃ lo p' pend',c = (none,lo) /\ Stt κ it st' p' pend' /\ p'.Perm p /\ Rn le p' 0 pend'.toList lo /\ lo <= p.size /\ x <= lo)
  (Q:=fun c st'=>∃ p' pend',c.1 = none /\ Stt κ it st' p' pend' /\ p'.Perm p /\ Rn le p' 0 pend'.toList p.size) ?s1 ?f1 ?i1) ?p1)
 case i1=>exact ⟨0,p,#[],rfl,S,.refl _,rfl,by lia,by lia⟩
 case f1=>
  rintro c st' ⟨lo,p',pend',rfl,S',P',R',l1,l2⟩
  have:lo = p.size:=by lia
  subst this
  exact ⟨p',pend',rfl,S',P',R'⟩
 case s1=>
  rintro x c st' _ hx ⟨lo,p',pend',rfl,S',P',R',l1,l2⟩
  dsimp only
  by_cases e1:lo ≥ p.size
  ·rw [Oj e1]
   have:lo = p.size:=by lia
   subst this
   exact Oo ⟨p',pend',rfl,S',P',R'⟩
  rw [Oi e1]
  have hs':=P'.size_eq
  refine Ol (HY o hc S' (fun q hq=>hp q (hq.trans P')) (by lia) (by lia) fun m p2 st2 S2 m1 m2 N2 U2=>?_)
  have P2:=N2.1.trans P'
  have hs2:=P2.size_eq
  have R2:Rn le p2 0 pend'.toList lo:=R'.of fun k _ h2=>N2.2 k (.inl h2)
  dsimp only
  by_cases e2:m < minrun
  ·rw [Oj e2]
   refine Ol (P9 (Pn ⟨rfl,?_⟩))
   refine Ol (LG o hc S2 (fun q hq=>hp q (hq.trans P2)) (m:=min (p.size - lo) minrun) (by lia) (by lia) m1 U2 fun p3 st3 S3 N3 U3=>?_)
   replace R2:Rn le p3 0 pend'.toList lo:=R2.of fun k _ h2=>N3.2 k (.inl h2)
   replace P2:=N3.1.trans P2
   replace S2:=S3
   replace U2:=U3
   have hnn:1 <= min (p.size - lo) minrun:=by lia
   have hnn2:lo + min (p.size - lo) minrun <= p.size:=by lia
   clear S3 U3 N3 N2 hs2
   generalize min (p.size - lo) minrun = nn at *
   rw [Oi (by decide)]
   clear st2 p2
   generalize p3 = p2 at *
   generalize st3 = st2 at *
   refine Ol (Pk ?_)
   rw [S2.2.2.1]
   cases hbk:pend'.back? with
   | none=>
    dsimp only
    refine Ol (Pe (Oo ⟨lo + nn,p2,pend'.push (lo,nn,0),rfl,⟨S2.1,S2.2.1,?_,S2.2.2.2⟩,P2,?_,by lia,by lia⟩))
    ·show (pendingOf st2).push _ = _
     rw [S2.2.2.1]
    ·rw [Qa]
     exact R2.put ⟨rfl,hnn,U2,rfl⟩
   | some e=>
    obtain ⟨s1,n1,z1⟩:=e
    dsimp only
    generalize power' _ _ _ _ = pw
    refine Ol (O6 (O7 (I:=fun y c st3=>c = (none,()) /\ ∃ p3 pend3,Stt κ it st3 p3 pend3 /\ p3.Perm p /\ Rn le p3 0 pend3.toList lo /\ Up le p3 lo (lo + nn))
     (Q:=fun c st3=>c = (none,()) /\ ∃ p3 pend3,Stt κ it st3 p3 pend3 /\ p3.Perm p /\ Rn le p3 0 pend3.toList lo /\ Up le p3 lo (lo + nn)) ?s2 ?f2 ?i2) ?p2)
    case i2=>exact ⟨rfl,p2,pend',S2,P2,R2,U2⟩
    case f2=>exact fun c st3 h=>h
    case s2=>
     rintro y c st3 _ hy ⟨rfl,p3,pend3,S3,P3,R3,U3⟩
     refine Ol (Pk ?_)
     rw [S3.2.2.1]
     by_cases c1:pend3.size > 1
     ·rw [Oj c1]
      cases hg:pend3[pend3.size - 2]? with
      | none=>exact Oo ⟨rfl,p3,pend3,S3,P3,R3,U3⟩
      | some e=>
       obtain ⟨z2,z3,older⟩:=e
       dsimp only
       by_cases c2:older <= pw
       ·rw [Oj c2]
        exact Oo ⟨rfl,p3,pend3,S3,P3,R3,U3⟩
       ·rw [Oi c2]
        have hs3:=P3.size_eq
        refine Ol (pb o hc S3 (hp _ P3) (i:=pend3.size - 2) (by lia) R3 (by lia) fun p4 pend4 st4 S4 N4 R4 _=>?_)
        exact Oo ⟨rfl,p4,pend4,S4,N4.1.trans P3,R4,U3.of fun i h1 h2=>N4.2 i (.inr h1)⟩
     ·rw [Oi c1]
      exact Oo ⟨rfl,p3,pend3,S3,P3,R3,U3⟩
    case p2=>
     rintro c st3 ⟨rfl,p3,pend3,S3,P3,R3,U3⟩
     dsimp only
     refine Ol (Pe (Ol (Pe (Oo ⟨lo + nn,p3,(pend3.modify (pend3.size - 1) fun e=>(e.1,e.2.1,pw)).push (lo,nn,0),rfl,⟨S3.1,S3.2.1,?_,S3.2.2.2⟩,P3,?_,by lia,by lia⟩))))
     ·show ((pendingOf st3).modify ((pendingOf st3).size - 1) _).push _ = _
      rw [S3.2.2.1]
     ·rw [Qa]
      refine Rn.put (R3.same ?_) ⟨rfl,hnn,U3,rfl⟩
      apply QH
      intro k
      rw [OU,OU,Pp,Pp,Array.getElem?_modify]
      split
      ·cases pend3[k]? <;> rfl
      ·rfl
  ·rw [Oi e2]
   have hnn:=m1
   have hnn2:lo + m <= p.size:=by lia
   refine Ol (Pk ?_)
   rw [S2.2.2.1]
   cases hbk:pend'.back? with
   | none=>
    dsimp only
    refine Ol (Pe (Oo ⟨lo + m,p2,pend'.push (lo,m,0),rfl,⟨S2.1,S2.2.1,?_,S2.2.2.2⟩,P2,?_,by lia,by lia⟩))
    ·show (pendingOf st2).push _ = _
     rw [S2.2.2.1]
    ·rw [Qa]
     exact R2.put ⟨rfl,hnn,U2,rfl⟩
   | some e=>
    obtain ⟨s1,n1,z1⟩:=e
    dsimp only
    generalize power' _ _ _ _ = pw
    refine Ol (O6 (O7 (I:=fun y c st3=>c = (none,()) /\ ∃ p3 pend3,Stt κ it st3 p3 pend3 /\ p3.Perm p /\ Rn le p3 0 pend3.toList lo /\ Up le p3 lo (lo + m))
     (Q:=fun c st3=>c = (none,()) /\ ∃ p3 pend3,Stt κ it st3 p3 pend3 /\ p3.Perm p /\ Rn le p3 0 pend3.toList lo /\ Up le p3 lo (lo + m)) ?s2 ?f2 ?i2) ?p2)
    case i2=>exact ⟨rfl,p2,pend',S2,P2,R2,U2⟩
    case f2=>exact fun c st3 h=>h
    case s2=>
     rintro y c st3 _ hy ⟨rfl,p3,pend3,S3,P3,R3,U3⟩
     refine Ol (Pk ?_)
     rw [S3.2.2.1]
     by_cases c1:pend3.size > 1
     ·rw [Oj c1]
      cases hg:pend3[pend3.size - 2]? with
      | none=>exact Oo ⟨rfl,p3,pend3,S3,P3,R3,U3⟩
      | some e=>
       obtain ⟨z2,z3,older⟩:=e
       dsimp only
       by_cases c2:older <= pw
       ·rw [Oj c2]
        exact Oo ⟨rfl,p3,pend3,S3,P3,R3,U3⟩
       ·rw [Oi c2]
        have hs3:=P3.size_eq
        refine Ol (pb o hc S3 (hp _ P3) (i:=pend3.size - 2) (by lia) R3 (by lia) fun p4 pend4 st4 S4 N4 R4 _=>?_)
        exact Oo ⟨rfl,p4,pend4,S4,N4.1.trans P3,R4,U3.of fun i h1 h2=>N4.2 i (.inr h1)⟩
     ·rw [Oi c1]
      exact Oo ⟨rfl,p3,pend3,S3,P3,R3,U3⟩
    case p2=>
     rintro c st3 ⟨rfl,p3,pend3,S3,P3,R3,U3⟩
     dsimp only
     refine Ol (Pe (Ol (Pe (Oo ⟨lo + m,p3,(pend3.modify (pend3.size - 1) fun e=>(e.1,e.2.1,pw)).push (lo,m,0),rfl,⟨S3.1,S3.2.1,?_,S3.2.2.2⟩,P3,?_,by lia,by lia⟩))))
     ·show ((pendingOf st3).modify ((pendingOf st3).size - 1) _).push _ = _
      rw [S3.2.2.1]
     ·rw [Qa]
      refine Rn.put (R3.same ?_) ⟨rfl,hnn,U3,rfl⟩
      apply QH
      intro k
      rw [OU,OU,Pp,Pp,Array.getElem?_modify]
      split
      ·cases pend3[k]? <;> rfl
      ·rfl
 case p1=>
  rintro ⟨c,c'⟩ st' ⟨p',pend',hc1,S',P',R'⟩
  dsimp only at hc1
  subst hc1
  dsimp only
  refine Ol (O6 (O7 (I:=fun x c st'=>∃ p' pend',c = (none,()) /\ Stt κ it st' p' pend' /\ p'.Perm p /\ Rn le p' 0 pend'.toList p.size /\ pend'.size + x <= p.size)
   (Q:=fun c st'=>∃ p' pend',c = (none,()) /\ Stt κ it st' p' pend' /\ p'.Perm p /\ Rn le p' 0 pend'.toList p.size /\ pend'.size <= 1) ?s5 ?f5 ?i5) ?p5)
  case i5=>exact ⟨p',pend',rfl,S',P',R',by have:=R'.len_le;rw [O0] at this;lia⟩
  case f5=>
   rintro c st' ⟨p',pend',rfl,S',P',R',hl⟩
   exact ⟨p',pend',rfl,S',P',R',by lia⟩
  case s5=>
   rintro x c st' _ hx ⟨p',pend',rfl,S',P',R',hl⟩
   refine Ol (Pk ?_)
   rw [S'.2.2.1]
   by_cases e1:pend'.size <= 1
   ·rw [Oj e1]
    exact Oo ⟨p',pend',rfl,S',P',R',e1⟩
   rw [Oi e1]
   have hs':=P'.size_eq
   refine Ol (pb o hc S' (hp _ P') ?_ R' (by lia) fun p4 pend4 st4 S4 N4 R4 h4=>?_)
   ·exact G9 (by lia)
   ·exact Oo ⟨p4,pend4,rfl,S4,N4.1.trans P',R4,by lia⟩
  case p5=>
   rintro c st' ⟨p',pend',rfl,S',P',R',hl⟩
   refine Oo (h p' pend' st' S' P' ?_)
   cases hq:pend'.toList with
   | nil=>
    rw [hq] at R'
    have:0 = p.size:=R'
    intro i j _ _ h3
    lia
   | cons e es=>
    cases es with
    | nil=>
     rw [hq] at R'
     obtain ⟨r1,r2,r3,r4⟩:=R'
     have r4':0 + e.2.1 = p.size:=r4
     rw [<- r4']
     exact r3
    | cons e2 es=>
     have:=OG List.length hq
     rw [O0] at this
     simp at this
     lia
end
section
variable {prog:Program} {w:World} {A:Around} {E:Value -> Shared -> Prop} {s:Shared}
structure Known (prog:Program) (w:World) (s:Shared) (vs:List Value) (κ:SortKind) (lt:Nat -> Nat -> Bool):Prop where
 kind:∀ (A:Around) (E:Value -> Shared -> Prop) (h':Heap) (Q:SortKind -> Shared -> Prop),(∀ b o,s.heap.get? b = some o -> h'.get? b = some o) -> 2 <= vs.length -> Q κ { s with heap:=h' } -> wpAny (model prog w) A (keyKind' vs.toArray) Q E { s with heap:=h' }
 ask:∀ (A:Around) (h':Heap) (i j:Nat) (C:Bool -> Shared -> Prop),(∀ b o,s.heap.get? b = some o -> h'.get? b = some o) -> i < vs.length -> j < vs.length -> C (lt i j) { s with heap:=h' } -> kas_ask prog w A κ vs i j C { s with heap:=h' }
theorem Known.on {vs:List Value} {κ:SortKind} {lt:Nat -> Nat -> Bool} {h:Heap} (k:Known prog w s vs κ lt) (hk:∀ b o,s.heap.get? b = some o -> h.get? b = some o):Known prog w { s with heap:=h } vs κ lt:=
 ⟨fun A E h' Q h2=>k.kind A E h' Q fun b o e=>h2 b o (hk b o e),fun A h' i j C h2=>k.ask A h' i j C fun b o e=>h2 b o (hk b o e)⟩
noncomputable def gE (vs:List Value) (p:Array Nat):Array Value:=(p.toList.map fun i=>vs.getD i Value.none).toArray
theorem AW {vs:List Value} {p:Array Nat} (h:p.size = vs.length):(gE vs p).size = vs.length:=by
 unfold gE;simp [h]
theorem yV {vs:List Value}:gE vs (List.range vs.length).toArray = vs.toArray:=by
 unfold gE
 congr 1
 apply List.ext_getElem
 ·simp
 ·intro i h1 h2
  simp at h1
  simp [h1]
theorem GL {le:Nat -> Nat -> Prop} (rf:∀ a,le a a) {n:Nat} (h:n < 2) (p:Array Nat):Asc le p n:=fun i j hij hj=>by
 have e:i = j:=by lia
 subst e;exact rf _
theorem yB {a:Addr} {vs:List Value} {n:Nat} {κ:SortKind} {lt:Nat -> Nat -> Bool} {le:Nat -> Nat -> Prop} {P:PySem.Fin -> Shared -> Prop} (o:Ord lt le) (ho:s.heap.get? a = some (seqObj "list" vs.toArray n)) (hN:vs.length <= sizeLine)
  (hk:∀ h',(∀ b o,b ≠ a -> s.heap.get? b = some o -> h'.get? b = some o) -> Known prog w { s with heap:=h' } vs κ lt)
  (h:∀ p:Array Nat,p.Perm (List.range vs.length).toArray -> Asc le p vs.length -> P (.done (.ret .none)) { s with heap:=sortedHeap s.heap a vs (gE vs p) }):wpAny (model prog w) A (Builtin.«list.sort» ⟨[.ref a],[]⟩) P E s:=by
 have ha:a < s.heap.objs.size:=Oz ho
 obtain ⟨e1,ho1⟩:∃ e1,(s.heap.update a (Obj.mapSeq fun _=>#[])).get? a = some (seqObj "list" #[] e1):=⟨_,get?_update_seq ho fun _=>#[]⟩
 have ne1:a ≠ ((s.heap.update a (Obj.mapSeq fun _=>#[])).push (seqObj "tuple" vs.toArray 0)).objs.size:=by rw [size_push',Heap.size_update];exact OE (QB ha)
 have ne2:a ≠ (s.heap.update a (Obj.mapSeq fun _=>#[])).objs.size:=by rw [Heap.size_update];exact OE ha
 have ho6:(((s.heap.update a (Obj.mapSeq fun _=>#[])).push (seqObj "tuple" vs.toArray 0)).push (seqObj "list" #[] 0)).get? a = some (seqObj "list" #[] e1):=by rw [Heap.get?_push_ne _ _ _ ne1,Heap.get?_push_ne _ _ _ ne2,ho1]
 have keep:∀ b q,b ≠ a -> s.heap.get? b = some q -> (((s.heap.update a (Obj.mapSeq fun _=>#[])).push (seqObj "tuple" vs.toArray 0)).push (seqObj "list" #[] 0)).get? b = some q:=fun b q hb hq=>
  OA _ (OA _ ((Px _ _ _ _ hb).trans hq))
 have K:=hk _ keep
 rw [list_sort_plain];refine Oh (listItems_at ho rfl (Oh (listUpdate_at ho rfl (Oh (seqEpoch_at ho1 rfl (Oh (wpAny_newTuple (Oh (wpAny_newList (O8 ?_))))))))))
 dsimp only
 have hn:vs.toArray.size = vs.length:=by simp
 have fin:∀ (p:Array Nat) (st:SortSt),p.Perm (List.range vs.length).toArray -> Asc le p vs.length -> (arrOf st).map (·.2) = gE vs p -> failedOf st = none ->
   wpAny (model prog w) A (do
    let touched:=(← seqEpoch a) != e1
    Builtin.List.listUpdate (.ref a) fun _=>(arrOf st).map (·.2)
    if let some e:=failedOf st then rule "list.sort.comparison-raised"; throw e
    if touched then rule "list.sort.modified"; raiseError "ValueError" "list modified during sort"
    ret .none) P E { s with heap:=((s.heap.update a (Obj.mapSeq fun _=>#[])).push (seqObj "tuple" vs.toArray 0)).push (seqObj "list" #[] 0) }:=fun p st hp hs ho2 hf=>by
  have hz:(gE vs p).size <= sizeLine + 1:=by
   rw [AW (by rw [hp.size_eq];simp)];lia
  rw [ho2,hf]
  refine Oh (seqEpoch_at ho6 rfl (Oh (listUpdate_at ho6 rfl ?_ (hsz2:=hz))))
  simp only [bne_self_eq_false,Bool.false_eq_true,P7]
  exact Om (h p hp hs)
 by_cases h2:vs.toArray.size < 2
 ·rw [Oj h2,Oj h2]
  refine Oh (Om ?_)
  rw [StateT.run_pure]
  refine Oh (Om (fin (List.range vs.length).toArray _ (Array.Perm.refl _) (GL o.rf (by lia) _) ?_ rfl))
  rw [yV]
  show ((vs.toArray.zip vs.toArray).map (·.2)) = vs.toArray
  apply Array.ext
  ·simp
  ·intro i h1 h2;simp
 ·rw [Oi h2,Oi h2]
  refine Oh (K.kind _ _ _ _ (fun _ _ e=>e) (by lia) ?_)
  have pos:0 < vs.length:=by lia
  have perm0:∀ p':Array Nat,p'.Perm (List.range vs.length).toArray -> ∀ i,i < p'.size -> at' p' i < vs.length:=fun p' h' i _=>Ja pos h' i
  have esz:(vs.toArray.zip vs.toArray).size = vs.length:=by simp
  have er:=kas_range (vs.toArray.zip vs.toArray)
  rw [esz] at er
  have run:=Kh (prog:=prog) (w:=w) (A:=A) (E:=E) (κ:=κ) (it:=vs.toArray.zip vs.toArray) (n:=vs.length) (lt:=lt) (le:=le) (p:=(List.range vs.length).toArray) (st:=SortSt.mk' κ (vs.toArray.zip vs.toArray) #[] 7 none)
   (s:={ s with heap:=((s.heap.update a (Obj.mapSeq fun _=>#[])).push (seqObj "tuple" vs.toArray 0)).push (seqObj "list" #[] 0) })
   (Q:=fun _ st=>∃ p:Array Nat,(arrOf st).map (·.2) = gE vs p /\ failedOf st = none /\ p.Perm (List.range vs.length).toArray /\ Asc le p vs.length) o
   (fun i j C hi hj hc=>by rw [<- kat_ask_eq (ks:=vs) (vs:=vs) rfl];exact K.ask _ _ i j C (fun _ _ e=>e) hi hj hc) ⟨rfl,er.symm,rfl,rfl⟩ perm0
   (fun p' pend' st' S' hp hu=>⟨p',kat_snds rfl S'.2.1,S'.2.2.2,hp,fun i j hij hj=>hu i j (O9 _) hij (by simpa using hj)⟩)
  refine Oh (PD run (fun r s' hr=>?_) fun _ _ e=>e)
  ·obtain ⟨rfl,p,e2,hf,hp,hs⟩:=hr
   exact fin p r.2 hp hs e2 hf
theorem vW {l:Addr} {vs:List Value} {κ:SortKind} {lt:Nat -> Nat -> Bool} {le:Nat -> Nat -> Prop} {Q:Value -> Shared -> Prop} (o:Ord lt le) (hl:s.heap.IsList l vs.toArray) (hN:vs.length <= sizeLine) (hk:Known prog w s vs κ lt)
  (h:∀ p:Array Nat,p.Perm (List.range vs.length).toArray -> Asc le p vs.length -> Q (.ref (s.heap.objs.size + 1)) { s with heap:=sortedAll s.heap vs (gE vs p) }):wpAny (model prog w) A (call (.builtin "sorted") [.ref l]) Q E s:=by
 have hz:vs.length <= sizeLine:=hN
 have sz:((s.heap.push (seqObj "list" #[] 0)).update s.heap.objs.size (Obj.mapSeq (· ++ vs.toArray))).objs.size = s.heap.objs.size + 1:=by rw [Heap.size_update,size_push']
 have at1:(((s.heap.push (seqObj "list" #[] 0)).update s.heap.objs.size (Obj.mapSeq (· ++ vs.toArray))).push (seqObj "list" vs.toArray 0)).get? (s.heap.objs.size + 1) = some (seqObj "list" vs.toArray 0):=by rw [<- sz];exact OO _ rfl
 have old:∀ b q,s.heap.get? b = some q -> b ≠ s.heap.objs.size + 1 /\ (((s.heap.push (seqObj "list" #[] 0)).update s.heap.objs.size (Obj.mapSeq (· ++ vs.toArray))).push (seqObj "list" vs.toArray 0)).get? b = some q:=fun b q e=>by
  have hb:=Oz e
  refine ⟨OE (QB hb),OA _ ?_⟩
  rw [Px _ _ _ _ (OE hb)]
  exact OA _ e
 refine Calls.call_function_entry kind_sorted plain_sorted entry_sorted (args_sorted1 (.ref l)) ?_;unfold Builtin.«sorted»
 refine Oh (m:=checkCount "sorted" 1 1 _) (Om (Oh (collect_list hl (Oh (wpAny_newList ?_ hz)) hz)))
 show wpAny (model prog w) _ _ _ _ { s with heap:=((s.heap.push (seqObj "list" #[] 0)).update s.heap.objs.size (Obj.mapSeq (· ++ vs.toArray))).push (seqObj "list" vs.toArray 0) }
 rw [sz]
 refine Oh (O8 (Pt slot_list_sort ⟨_,at1,rfl⟩ entry_list_sort (yB (κ:=κ) (le:=le) o at1 hN (fun h' kp=>?_) fun p hp hs=>⟨_,rfl,Om ⟨_,rfl,h p hp hs⟩⟩) (args_list_sort _)))
 exact hk.on fun b q e=>kp b q (old b q e).1 (old b q e).2
end
section
variable {prog:Program} {w:World} {A:Around} {E:Value -> Shared -> Prop} {s:Shared}
noncomputable def gy:List Int -> List Int -> Bool
 | [],[]=>false
 | [],_ :: _=>true
 | _ :: _,[]=>false
 | x :: xs,y :: ys=>if x = y then gy xs ys else decide (x < y)
theorem pE:∀ a:List Int,gy a a = false
 | []=>rfl
 | x :: xs=>by unfold gy;rw [Oj rfl];exact pE xs
theorem sF:∀ a b:List Int,gy a b = true -> gy b a = false
 | [],[],h=>by unfold gy at h;cases h
 | [],_ :: _,_=>by unfold gy;rfl
 | _ :: _,[],h=>by unfold gy at h;cases h
 | x :: xs,y :: ys,h=>by
  unfold gy at h ⊢
  by_cases e:x = y
  ·rw [Oj e] at h;rw [Oj e.symm];exact sF xs ys h
  ·rw [Oi e] at h
   rw [Oi (OQ e)]
   have:=Qc h
   exact OY (by lia)
theorem sG:∀ a b c:List Int,gy b a = false -> gy c b = false -> gy c a = false
 | [],_,[],_,_=>rfl
 | [],[],_ :: _,_,h=>by unfold gy at h;cases h <;> rfl
 | [],_ :: _,_ :: _,_,_=>by unfold gy;rfl
 | _ :: _,[],_,h,_=>by unfold gy at h;cases h
 | x :: xs,y :: ys,[],_,h=>by unfold gy at h;cases h
 | x :: xs,y :: ys,z :: zs,h1,h2=>by
  unfold gy at h1 h2 ⊢
  by_cases e1:y = x
  ·rw [Oj e1] at h1
   by_cases e2:z = y
   ·rw [Oj e2] at h2
    rw [Oj (e2.trans e1)]
    exact sG xs ys zs h1 h2
   ·rw [Oi e2] at h2
    rw [Oi (by lia)]
    have:=Pq h2
    exact OY (by lia)
  ·rw [Oi e1] at h1
   have g1:=Pq h1
   by_cases e2:z = y
   ·rw [Oi (by lia)]
    exact OY (by lia)
   ·rw [Oi e2] at h2
    have g2:=Pq h2
    rw [Oi (by lia)]
    exact OY (by lia)
theorem EW (f:Nat -> List Int):Ord (fun i j=>gy (f i) (f j)) (fun i j=>gy (f j) (f i) = false):=
 ⟨fun a b c h1 h2=>sG _ _ _ h1 h2,fun a=>pE _,fun a b h=>sF _ _ h,fun a b h=>h⟩
def Ks (h:Heap) (v:Value) (ns:List Int):Prop:=∃ a o xs n,v = .ref a /\ h.get? a = some o /\ o.cls = .type "tuple" /\ o.data = .seq xs n /\ IntsAre xs.toList ns
theorem Hi:∀ (xs ys:List Value) (ns ms:List Int) (i:Nat) (fin:Bool) (Q:Bool -> Shared -> Prop),IntsAre xs ns -> IntsAre ys ms -> (fin = decide (xs.length < ys.length)) -> Q (gy ns ms) s ->
  KatLex prog w A true fin Q (xs.zip ys) i s:=by
 intro xs
 induction xs with
 | nil=>
  intro ys ns ms i fin Q hx hy hf hq
  cases hx
  rw [List.zip_nil_left]
  show Q fin s
  rw [hf]
  cases hy with
  | nil=>exact hq
  | cons b u ty=>exact hq
 | cons x xs ih=>
  intro ys ns ms i fin Q hx hy hf hq
  cases hx with
  | cons a t tx=>
   cases hy with
   | nil=>
    rw [List.zip_nil_right]
    show Q fin s
    rw [hf]
    exact hq
   | @cons c u ys' ms' ty=>
    rw [Q5]
    refine kat_cons ((SeqAt.EqAt.int_int a t c u) prog w _ _ ?_)
    unfold gy at hq
    by_cases e:a = c
    ·rw [Oj e] at hq
     have eb:(a == c) = true:=by simpa using e
     rw [eb]
     exact kat_yes (ih ys' _ ms' (i + 1) fin Q tx ty (by rw [hf];simp) hq)
    ·rw [Oi e] at hq
     have eb:(a == c) = false:=by simpa using e
     rw [eb]
     refine kat_no ?_
     cases q:i == 0 with
     | true=>exact oneLt_int hq
     | false=>exact kat_one _ _ (lt_int hq)
theorem AD {vs:List Value} {f:Nat -> List Int} (hv:∀ i,i < vs.length -> Ks s.heap (vs.getD i Value.none) (f i) /\ f i ≠ []):Known prog w s vs (tuples' true) fun i j=>gy (f i) (f j):=by
 refine ⟨fun A E h' Q hk h2 hq=>?_,fun A h' i j C hk hi hj hc=>?_⟩
 ·have hv':∀ v ∈ vs,∃ n t eW a o xs k,v = .ref a /\ h'.get? a = some o /\ o.cls = .type "tuple" /\ o.data = .seq xs k /\ xs.toList = Value.int n t :: eW:=fun v hm=>by
   obtain ⟨i,hi,e⟩:=List.getElem_of_mem hm
   obtain ⟨⟨a,o,xs,k,e1,e2,e3,e4,e5⟩,ne⟩:=hv i hi
   have ev:vs.getD i Value.none = v:=by rw [RZ,PF hi];exact e
   rw [ev] at e1
   revert e5 ne
   generalize f i = ns
   generalize ex:xs.toList = L
   intro ne e5
   cases e5 with
   | nil=>exact absurd rfl ne
   | @cons n t vs' ns' tl=>exact ⟨n,t,vs',a,o,xs,k,e1,hk _ _ e2,e3,e4,ex⟩
  have fs:∀ L:List Value,(∀ v ∈ L,∃ n t eW a o xs k,v = .ref a /\ h'.get? a = some o /\ o.cls = .type "tuple" /\ o.data = .seq xs k /\ xs.toList = Value.int n t :: eW) -> ∃ gs,KatTups h' L gs /\ gs.length = L.length /\ ∀ v ∈ gs,∃ n t,v = Value.int n t:=by
   intro L
   induction L with
   | nil=>exact fun _=>⟨[],.nil,rfl,fun _ h=>(by cases h)⟩
   | cons v L ih=>
    intro hL
    obtain ⟨gs,g1,g2,g3⟩:=ih fun u hu=>hL u (Ou _ hu)
    obtain ⟨n,t,eW,a,o,xs,k,rfl,e2,e3,e4,e5⟩:=hL v Oq
    refine ⟨.int n t :: gs,.cons e2 e3 e4 (by rw [<- Pp,e5];rfl) g1,by rw [Ow,Ow,g2],fun u hu=>?_⟩
    rcases Oy.mp hu with rfl | hu
    ·exact ⟨n,t,rfl⟩
    ·exact g3 u hu
  obtain ⟨gs,g1,g2,g3⟩:=fs vs hv'
  refine kat_kind (s:={ s with heap:=h' }) (T:=.type "int") g1 (by lia) (fun v hm=>?_) (by decide) hq
  obtain ⟨n,t,rfl⟩:=g3 v hm
  exact Looks.of_pure rfl
 ·obtain ⟨⟨a,o,xs,k,e1,e2,e3,e4,e5⟩,_⟩:=hv i hi
  obtain ⟨⟨a',o',xs',k',e1',e2',e3',e4',e5'⟩,_⟩:=hv j hj
  unfold kas_ask
  rw [e1,e1']
  refine kat_lt (s:={ s with heap:=h' }) (hk _ _ e2) e4 (hk _ _ e2') e4' ?_
  refine Hi (s:={ s with heap:=h' }) _ _ _ _ _ _ _ e5 e5' ?_ hc
  simp
theorem qQ:∀ {vs:List Value} {ns:List Int},IntsAre vs ns -> ∀ i,i < vs.length -> ∃ t,vs.getD i Value.none = .int (ns.getD i 0) t
 | _,_,.nil,i,h=>by simp at h
 | _,_,.cons n t _,0,_=>⟨t,rfl⟩
 | _,_,.cons n t tl,i + 1,h=>by
  obtain ⟨u,e⟩:=qQ tl i (by simpa using h)
  exact ⟨u,by simpa using e⟩
theorem sw {vs:List Value} {ns:List Int} (hI:IntsAre vs ns):Known prog w s vs oneType' fun i j=>decide (ns.getD i 0 < ns.getD j 0):=by
 refine ⟨fun A E h' Q hk h2 hq=>?_,fun A h' i j C hk hi hj hc=>?_⟩
 ·rw [ksk_kind (keys:=vs.toArray) (kz:=ns) (by simpa using hI) (by simpa using h2)]
  exact Om hq
 ·obtain ⟨t,e1⟩:=qQ hI i hi
  obtain ⟨u,e2⟩:=qQ hI j hj
  unfold kas_ask
  rw [e1,e2,keyLt'_oneType]
  exact oneLt_int hc
theorem yU (f:Nat -> Int):Ord (fun i j=>decide (f i < f j)) (fun i j=>f i <= f j):=
 ⟨fun _ _ _ h k=>Int.le_trans h k,fun _=>O1 _,fun a b h=>Int.le_of_lt (Qc h),fun a b h=>by have:=Pq h;show f b <= f a;lia⟩
theorem fG {vs:List Value} {ns:List Int} (hI:IntsAre vs ns):∀ L:List Nat,(∀ i ∈ L,i < vs.length) -> IntsAre (L.map fun i=>vs.getD i Value.none) (L.map fun i=>ns.getD i 0)
 | [],_=>.nil
 | i :: L,h=>by
  obtain ⟨t,e⟩:=qQ hI i (h i Oq)
  rw [Ox,Ox,e]
  exact .cons _ t (fG hI L fun j hj=>h j (Ou _ hj))
theorem sk:∀ {vs:List Value} {ns:List Int},IntsAre vs ns -> vs.length = ns.length
 | _,_,.nil=>rfl
 | _,_,.cons n t tl=>by rw [Ow,Ow,sk tl]
theorem xu {l:Addr} {vs:List Value} {ns:List Int} {Q:Value -> Shared -> Prop} (hl:s.heap.IsList l vs.toArray) (hI:IntsAre vs ns) (hN:vs.length <= sizeLine)
  (h:∀ (out:Array Value) ms,IntsAre out.toList ms -> ms.Perm ns -> ms.Pairwise (· <= ·) -> Q (.ref (s.heap.objs.size + 1)) { s with heap:=sortedAll s.heap vs out }):wpAny (model prog w) A (call (.builtin "sorted") [.ref l]) Q E s:=by
 refine vW (yU fun i=>ns.getD i 0) hl hN (sw hI) fun p hp ha=>?_
 have e:=sk hI
 have hb:∀ i ∈ p.toList,i < vs.length:=fun i hi=>by simpa using (QC.mp hp).mem_iff.mp hi
 rw [e] at hp ha
 obtain ⟨p1,p2⟩:=xh (vs:=ns) (d:=0) hp ha
 exact h (gE vs p) _ (by simpa [gE] using fG hI p.toList hb) p1 (p2 _ fun i j _ _ h=>h)
end
end Srt
namespace L2
open PySem
noncomputable def JJ (K:W.Frag):List V -> Hp -> VK -> Prop:=fun xs H Q=>∃ p ys,xs = [.ref p] /\ ((SqL K H p ys /\ ∀ l,H l = none -> Q (.ref l) (upd H l (.tup ys))) \/ (SqT K H p ys /\ Q (.ref p) H))
noncomputable def K3:List V -> Hp -> VK -> Prop:=fun xs H Q=>∃ i j,xs = [.int i,.int j] /\ Q (.int (if j > i then j else i)) H
noncomputable def KZ:List V -> Hp -> VK -> Prop:=fun xs H Q=>(∃ i,xs = [.int i] /\ Q (.int i) H) \/ ∃ k,xs = [.bl k] /\ Q (.int (if k then 1 else 0)) H
noncomputable def K4:R2:=fun x y H Q=>y = .non /\ Q (.bl (!decide (x = .non))) H
noncomputable def Lx (K:W.Frag) (ta:TE):TT:=fun σ H Q=>ta σ H fun x H'=>∃ k,D4 K x H' k /\ Q k H'
noncomputable def zb (K:W.Frag):List V -> Hp -> VK -> Prop:=fun xs H Q=>∃ p,∃ ns:List Int,xs = [.ref p] /\ SqL K H p (ns.map V.int) /\ ns.length < 30000 /\
 ∀ (ms:List Int) l,ms.Perm ns -> ms.Pairwise (· <= ·) -> H l = none -> Q (.ref l) (upd H l (.lst (ms.map V.int)))
noncomputable def Iz (K:W.Frag):List V -> Hp -> VK -> Prop:=fun xs H Q=>∃ p,∃ ns:List Int,xs = [.ref p] /\ SqL K H p (ns.map V.int) /\ Q (.int ns.sum) H
noncomputable def Jo (K:W.Frag) (tl:TE):TI:=fun σ H R=>tl σ H fun x H1=>∃ a,x = .ref a /\ (((∃ xs,SqL K H1 a xs) /\ R (Itl K a) H1) \/ ((∃ xs,SqT K H1 a xs) /\ R (Itt K a) H1))
end L2
namespace M
open PySem L2
inductive D where
 | non | bl (b:Bool) | int (i:Int) | str (x:Str) | ty (n:String) | lst (l:List D) | tup (l:List D) | scr (l:List D) | ins (N:Str) (ns:List Str) (l:List D) | dic (ks:List (List Int)) | dif (ks:List (List Int)) | mtp (l:List D)
 deriving Inhabited
theorem cN {S S':Hp} (s:Same S S') {a:Addr} {u:HO} (h:Rd S a u):Rd S' a u:=h.elim (fun e=>.inl (s _ _ e)) fun ⟨o,e⟩=>.inr ⟨o,s _ _ e⟩
theorem dH {K:W.Frag} {S S':Hp} (s:Same S S') {a:Addr} {xs:List V} (h:SqL K S a xs):SqL K S' a xs:=h.elim (fun e=>.inl (cN s e)) .inr
theorem a8 {K:W.Frag} {S S':Hp} (s:Same S S') {a:Addr} {xs:List V} (h:SqT K S a xs):SqT K S' a xs:=h.elim (fun e=>.inl (cN s e)) .inr
def TpA (K:W.Frag) (S:Hp) (a:Addr) (xs:List V):Prop:=S a = some (.tup xs)
theorem TpA.of {K:W.Frag} {S:Hp} {a:Addr} {xs:List V} (h:S a = some (.tup xs)):TpA K S a xs:=h
theorem TpA.sq {K:W.Frag} {S:Hp} {a:Addr} {xs:List V} (h:TpA K S a xs):SqT K S a xs:=SqT.of h
theorem TpA.mono {K:W.Frag} {S S':Hp} (s:Same S S') {a:Addr} {xs:List V} (h:TpA K S a xs):TpA K S' a xs:=s _ _ h
noncomputable def br (ks:List (List Int)):List (List Key × V):=ks.map fun k=>(k.map Sum.inl,V.bl true)
mutual
noncomputable def Den (K:W.Frag) (S:Hp):D -> V -> Prop
 | .non,v=>v = .non
 | .bl b,v=>v = .bl b
 | .int i,v=>v = .int i
 | .str x,v=>v = .str x
 | .ty x,v=>v = .ty x
 | .lst l,v=>∃ p xs,v = .ref p /\ Rd S p (.lst xs) /\ Dens K S l xs
 | .tup l,v=>∃ p xs,v = .ref p /\ TpA K S p xs /\ Dens K S l xs
 | .scr l,v=>∃ p xs,v = .ref p /\ SqL K S p xs /\ Dens K S l xs
 | .mtp l,v=>∃ p xs,v = .ref p /\ SqT K S p xs /\ Dens K S l xs
 | .ins N ns l,v=>∃ p C dx fs,v = .ref p /\ W.nsIn K mainGlobals N = some (some (.ref C)) /\ S p = some (.ins C dx fs) /\ fs.map (·.1) = ns /\ Dens K S l (fs.map (·.2))
 | .dic ks,v=>∃ p,v = .ref p /\ Rd S p (.dT (br ks))
 | .dif ks,v=>∃ p o,v = .ref p /\ S p = some (.frz o (.dT (br ks)))
noncomputable def Dens (K:W.Frag) (S:Hp):List D -> List V -> Prop
 | [],xs=>xs = []
 | d :: ds,xs=>∃ y ys,xs = y :: ys /\ Den K S d y /\ Dens K S ds ys
end
section
variable {K:W.Frag} {S S' H H':Hp}
theorem Dens.nil:Dens K S [] []:=by unfold Dens;rfl
theorem Dens.cons {d:D} {ds:List D} {y:V} {ys:List V} (h:Den K S d y) (k:Dens K S ds ys):Dens K S (d :: ds) (y :: ys):=by unfold Dens;exact ⟨y,ys,rfl,h,k⟩
theorem Dens.nil_of {xs:List V} (h:Dens K S [] xs):xs = []:=by unfold Dens at h;exact h
theorem Dens.cons_of {d:D} {ds:List D} {xs:List V} (h:Dens K S (d :: ds) xs):∃ y ys,xs = y :: ys /\ Den K S d y /\ Dens K S ds ys:=by unfold Dens at h;exact h
theorem Dens.length:∀ {ds:List D} {xs:List V},Dens K S ds xs -> ds.length = xs.length
 | [],_,h=>by rw [h.nil_of];rfl
 | _ :: _,_,h=>by
  obtain ⟨y,ys,rfl,_,k⟩:=h.cons_of
  rw [Ow,Ow,k.length]
theorem Dens.append:∀ {ds es:List D} {xs ys:List V},Dens K S ds xs -> Dens K S es ys -> Dens K S (ds ++ es) (xs ++ ys)
 | [],_,_,_,h,k=>by rw [h.nil_of];exact k
 | _ :: _,_,_,_,h,k=>by
  obtain ⟨y,ys,rfl,a,b⟩:=h.cons_of
  exact .cons a (b.append k)
theorem Dens.get:∀ {ds:List D} {xs:List V} {i:Nat} {d:D},Dens K S ds xs -> ds[i]? = some d -> ∃ x,xs[i]? = some x /\ Den K S d x
 | [],_,_,_,_,e=>by simp at e
 | _ :: _,_,0,_,h,e=>by
  obtain ⟨y,ys,rfl,a,b⟩:=h.cons_of
  simp at e;subst e
  exact ⟨y,rfl,a⟩
 | _ :: _,_,i + 1,_,h,e=>by
  obtain ⟨y,ys,rfl,a,b⟩:=h.cons_of
  obtain ⟨x,e1,h1⟩:=b.get (i:=i) (by simpa using e)
  exact ⟨x,by simpa using e1,h1⟩
theorem Dens.set:∀ {ds:List D} {xs:List V} {d:D} {x:V} (i:Nat),Dens K S ds xs -> Den K S d x -> Dens K S (ds.set i d) (xs.set i x)
 | [],_,_,_,_,h,_=>by rw [h.nil_of];exact .nil
 | _ :: _,_,_,_,0,h,k=>by
  obtain ⟨y,ys,rfl,a,b⟩:=h.cons_of
  exact .cons k b
 | _ :: _,_,_,_,i + 1,h,k=>by
  obtain ⟨y,ys,rfl,a,b⟩:=h.cons_of
  exact .cons a (b.set i k)
theorem Dens.take:∀ {ds:List D} {xs:List V} (i:Nat),Dens K S ds xs -> Dens K S (ds.take i) (xs.take i)
 | [],_,_,h=>by rw [h.nil_of];simp;exact .nil
 | _ :: _,_,0,h=>by simp;exact .nil
 | _ :: _,_,i + 1,h=>by
  obtain ⟨y,ys,rfl,a,b⟩:=h.cons_of
  exact .cons a (b.take i)
theorem Dens.drop:∀ {ds:List D} {xs:List V} (i:Nat),Dens K S ds xs -> Dens K S (ds.drop i) (xs.drop i)
 | [],_,_,h=>by rw [h.nil_of];simp;exact .nil
 | _ :: _,_,0,h=>h
 | _ :: _,_,i + 1,h=>by
  obtain ⟨y,ys,rfl,a,b⟩:=h.cons_of
  exact b.drop i
mutual
theorem Den.mono (s:Same S S'):∀ {d:D} {v:V},Den K S d v -> Den K S' d v
 | .dic _,_,h=>by
  unfold Den at *
  obtain ⟨p,e,h1⟩:=h
  exact ⟨p,e,cN s h1⟩
 | .dif _,_,h=>by
  unfold Den at *
  obtain ⟨p,o,e,h1⟩:=h
  exact ⟨p,o,e,s _ _ h1⟩
 | .non,_,h=>by unfold Den at *;exact h
 | .bl _,_,h=>by unfold Den at *;exact h
 | .int _,_,h=>by unfold Den at *;exact h
 | .str _,_,h=>by unfold Den at *;exact h
 | .ty _,_,h=>by unfold Den at *;exact h
 | .lst _,_,h=>by
  unfold Den at *
  obtain ⟨p,xs,e,h1,h2⟩:=h
  exact ⟨p,xs,e,cN s h1,Dens.mono s h2⟩
 | .tup _,_,h=>by
  unfold Den at *
  obtain ⟨p,xs,e,h1,h2⟩:=h
  exact ⟨p,xs,e,TpA.mono s h1,Dens.mono s h2⟩
 | .scr _,_,h=>by
  unfold Den at *
  obtain ⟨p,xs,e,h1,h2⟩:=h
  exact ⟨p,xs,e,dH s h1,Dens.mono s h2⟩
 | .mtp _,_,h=>by
  unfold Den at *
  obtain ⟨p,xs,e,h1,h2⟩:=h
  exact ⟨p,xs,e,a8 s h1,Dens.mono s h2⟩
 | .ins _ _ _,_,h=>by
  unfold Den at *
  obtain ⟨p,C,dx,fs,e,h0,h1,h2,h3⟩:=h
  exact ⟨p,C,dx,fs,e,h0,s _ _ h1,h2,Dens.mono s h3⟩
theorem Dens.mono (s:Same S S'):∀ {ds:List D} {xs:List V},Dens K S ds xs -> Dens K S' ds xs
 | [],_,h=>by rw [h.nil_of];exact .nil
 | _ :: _,_,h=>by
  obtain ⟨y,ys,rfl,a,b⟩:=h.cons_of
  exact .cons (Den.mono s a) (Dens.mono s b)
end
theorem den_int {i:Int} {v:V}:Den K S (.int i) v ↔ v = .int i:=by unfold Den;exact Py
theorem den_bl {b:Bool} {v:V}:Den K S (.bl b) v ↔ v = .bl b:=by unfold Den;exact Py
theorem den_non {v:V}:Den K S .non v ↔ v = .non:=by unfold Den;exact Py
theorem den_str {x:Str} {v:V}:Den K S (.str x) v ↔ v = .str x:=by unfold Den;exact Py
theorem den_ty {x:String} {v:V}:Den K S (.ty x) v ↔ v = .ty x:=by unfold Den;exact Py
theorem den_tup {l:List D} {v:V}:Den K S (.tup l) v ↔ ∃ p xs,v = .ref p /\ TpA K S p xs /\ Dens K S l xs:=by
 constructor
 ·intro h;unfold Den at h;exact h
 ·intro h;unfold Den;exact h
theorem gr {l:List D} {v:V} (h:Den K S (.tup l) v):∃ p xs,v = .ref p /\ SqT K S p xs /\ Dens K S l xs:=by
 obtain ⟨p,xs,e,h1,h2⟩:=den_tup.mp h
 exact ⟨p,xs,e,h1.sq,h2⟩
theorem den_lst {l:List D} {v:V}:Den K S (.lst l) v ↔ ∃ p xs,v = .ref p /\ Rd S p (.lst xs) /\ Dens K S l xs:=by
 constructor
 ·intro h;unfold Den at h;exact h
 ·intro h;unfold Den;exact h
theorem den_scr {l:List D} {v:V}:Den K S (.scr l) v ↔ ∃ p xs,v = .ref p /\ SqL K S p xs /\ Dens K S l xs:=by
 constructor
 ·intro h;unfold Den at h;exact h
 ·intro h;unfold Den;exact h
theorem den_mtp {l:List D} {v:V}:Den K S (.mtp l) v ↔ ∃ p xs,v = .ref p /\ SqT K S p xs /\ Dens K S l xs:=by
 constructor
 ·intro h;unfold Den at h;exact h
 ·intro h;unfold Den;exact h
theorem den_ins {N:Str} {ns:List Str} {l:List D} {v:V}:Den K S (.ins N ns l) v ↔ ∃ p C dx fs,v = .ref p /\ W.nsIn K mainGlobals N = some (some (.ref C)) /\ S p = some (.ins C dx fs) /\ fs.map (·.1) = ns /\ Dens K S l (fs.map (·.2)):=by
 constructor
 ·intro h;unfold Den at h;exact h
 ·intro h;unfold Den;exact h
def DenP (K:W.Frag) (S H:Hp) (d:D) (v:V):Prop:=Den K S d v \/ ∃ l p xs,d = .lst l /\ v = .ref p /\ H p = some (.lst xs) /\ Dens K S l xs
theorem DenP.lst {l:List D} {v:V} (s:Same S H) (h:DenP K S H (.lst l) v):∃ p xs,v = .ref p /\ Rd H p (.lst xs) /\ Dens K S l xs:=by
 rcases h with h | ⟨l',p,xs,e,e1,e2,e3⟩
 ·obtain ⟨p,xs,e,e1,e2⟩:=den_lst.mp h
  exact ⟨p,xs,e,cN s e1,e2⟩
 ·cases e
  exact ⟨p,xs,e1,.inl e2,e3⟩
theorem DenP.tup {l:List D} {v:V} (s:Same S H) (h:DenP K S H (.tup l) v):∃ p xs,v = .ref p /\ SqT K H p xs /\ Dens K S l xs:=by
 rcases h with h | ⟨l',p,xs,e,e1,e2,e3⟩
 ·obtain ⟨p,xs,e,e1,e2⟩:=gr h
  exact ⟨p,xs,e,a8 s e1,e2⟩
 ·cases e
theorem DenP.scr {l:List D} {v:V} (s:Same S H) (h:DenP K S H (.scr l) v):∃ p xs,v = .ref p /\ SqL K H p xs /\ Dens K S l xs:=by
 rcases h with h | ⟨l',p,xs,e,e1,e2,e3⟩
 ·obtain ⟨p,xs,e,e1,e2⟩:=den_scr.mp h
  exact ⟨p,xs,e,dH s e1,e2⟩
 ·cases e
theorem DenP.int {i:Int} {v:V} (h:DenP K S H (.int i) v):v = .int i:=by
 rcases h with h | ⟨l',p,xs,e,_⟩
 ·exact den_int.mp h
 ·cases e
theorem DenP.bl {i:Bool} {v:V} (h:DenP K S H (.bl i) v):v = .bl i:=by
 rcases h with h | ⟨l',p,xs,e,_⟩
 ·exact den_bl.mp h
 ·cases e
theorem DenP.str {i:Str} {v:V} (h:DenP K S H (.str i) v):v = .str i:=by
 rcases h with h | ⟨l',p,xs,e,_⟩
 ·exact den_str.mp h
 ·cases e
theorem DenP.non {v:V} (h:DenP K S H .non v):v = .non:=by
 rcases h with h | ⟨l',p,xs,e,_⟩
 ·exact den_non.mp h
 ·cases e
theorem DenP.ty {i:String} {v:V} (h:DenP K S H (.ty i) v):v = .ty i:=by
 rcases h with h | ⟨l',p,xs,e,_⟩
 ·exact den_ty.mp h
 ·cases e
def IT (o:HO):Prop:=∃ ks:List Int,o = .tup (ks.map V.int)
structure Ext (S H S' H':Hp):Prop where
 sh:Same S S'
 sub:Same S' H'
 alw:∀ b o,H b = some o -> S b = none -> H' b = some o /\ (S' b = none \/ IT o)
theorem Ext.al (z:Ext S H S' H') (b:Addr) (o:HO) (h:H b = some o) (n:S b = none) (hn:¬ IT o:=by exact fun ⟨_,z⟩=>nomatch z):H' b = some o /\ S' b = none:=
 ⟨(z.alw b o h n).1,(z.alw b o h n).2.resolve_right hn⟩
theorem Ext.refl (h:Same S H):Ext S H S H:=⟨Same.refl _,h,fun _ _ h n=>⟨h,.inl n⟩⟩
theorem Ext.trans {S1 H1 S2 H2:Hp} (a:Ext S H S1 H1) (b:Ext S1 H1 S2 H2):Ext S H S2 H2:=⟨a.sh.trans b.sh,b.sub,fun c o h n=>by
 obtain ⟨k1,k2⟩:=a.alw c o h n
 rcases k2 with k2 | k2
 ·exact b.alw c o k1 k2
 ·cases q:S1 c with
  | none=>exact ⟨(b.alw c o k1 q).1,.inr k2⟩
  | some u=>
   have:=a.sub c u q
   rw [k1] at this
   cases this
   exact ⟨b.sub c _ (b.sh c _ q),.inr k2⟩⟩
theorem Ext.same (a:Ext S H S' H') (s:Same S H):Same H H':=fun b o h=>by
 cases q:S b with
 | none=>exact (a.alw b o h q).1
 | some u=>
  have:=s b u q
  rw [h] at this
  cases this
  exact a.sub b o (a.sh b o q)
theorem Ext.new (s:Same S H) {p:Addr} {o:HO} (h:H p = none):Ext S H (upd S p o) (upd H p o) where
 sh:=fun b u e=>by rw [aB (ba e (s.free h))];exact e
 sub:=fun b u e=>by
  by_cases hb:b = p
  ·subst hb;rw [aD] at e ⊢;exact e
  ·rw [aB hb] at e ⊢;exact s b u e
 alw:=fun b u e n=>by
  have hb:=ba e h
  rw [aB hb,aB hb]
  exact ⟨e,.inl n⟩
theorem Ext.own (s:Same S H) {p:Addr} {o:HO} (h:H p = none):Ext S H S (upd H p o) where
 sh:=Same.refl _
 sub:=fun b u e=>by rw [aB (ba (s b u e) h)];exact s b u e
 alw:=fun b u e n=>by
  have hb:=ba e h
  rw [aB hb]
  exact ⟨e,.inl n⟩
theorem DenP.mono {d:D} {v:V} (e:Ext S H S' H') (s:Same S H) (h:DenP K S H d v):DenP K S' H' d v:=by
 rcases h with h | ⟨l,p,xs,h1,h2,h3,h4⟩
 ·exact .inl (h.mono e.sh)
 ·exact .inr ⟨l,p,xs,h1,h2,e.same s _ _ h3,h4.mono e.sh⟩
inductive DensP (K:W.Frag) (S H:Hp):List D -> List V -> Prop where
 | nil:DensP K S H [] []
 | cons {d ds v vs}:DenP K S H d v -> DensP K S H ds vs -> DensP K S H (d :: ds) (v :: vs)
inductive O where
 | sh (d:D) | lst (l:List O) | tup (l:List O) | dic (ks:List (List Int)) | hd (p:Addr) (ks:List (List Int)) (os:List O)
 deriving Inhabited
mutual
noncomputable def O.d:O -> D
 | .sh d=>d
 | .dic ks=>.dic ks
 | .hd _ ks os=>(O.ds os).headD (.dic ks)
 | .lst l=>.lst (O.ds l)
 | .tup l=>.tup (O.ds l)
noncomputable def O.ds:List O -> List D
 | []=>[]
 | o :: l=>o.d :: O.ds l
end
mutual
noncomputable def Own (K:W.Frag) (S H:Hp):O -> V -> List Addr -> Prop
 | .sh d,v,fp=>fp = [] /\ Den K S d v
 | .lst l,v,fp=>∃ a xs f,v = .ref a /\ fp = a :: f /\ H a = some (.lst xs) /\ Owns K S H l xs f
 | .tup l,v,fp=>∃ a xs f,v = .ref a /\ fp = a :: f /\ (H a = some (.tup xs) /\ ¬ IT (.tup xs)) /\ Owns K S H l xs f
 | .dic ks,v,fp=>∃ a,v = .ref a /\ fp = [a] /\ H a = some (.dT (br ks))
 | .hd p ks os,v,fp=>∃ xs f,v = xs.headD (.ref p) /\ fp = p :: f /\ H p = some (.dT (br ks)) /\ Owns K S H os xs f
noncomputable def Owns (K:W.Frag) (S H:Hp):List O -> List V -> List Addr -> Prop
 | [],xs,fp=>xs = [] /\ fp = []
 | o :: l,xs,fp=>∃ y ys f g,xs = y :: ys /\ fp = f ++ g /\ Own K S H o y f /\ Owns K S H l ys g
end
theorem den_dic {ks:List (List Int)} {v:V}:Den K S (.dic ks) v ↔ ∃ p,v = .ref p /\ Rd S p (.dT (br ks)):=by unfold Den;exact Py
theorem own_dic {ks:List (List Int)} {v:V} {fp:List Addr}:Own K S H (.dic ks) v fp ↔ ∃ a,v = .ref a /\ fp = [a] /\ H a = some (.dT (br ks)):=by unfold Own;exact Py
theorem den_dif {ks:List (List Int)} {v:V}:Den K S (.dif ks) v ↔ ∃ p o,v = .ref p /\ S p = some (.frz o (.dT (br ks))):=by unfold Den;exact Py
theorem own_hd {p:Addr} {ks:List (List Int)} {os:List O} {v:V} {fp:List Addr}:Own K S H (.hd p ks os) v fp ↔ ∃ xs f,v = xs.headD (.ref p) /\ fp = p :: f /\ H p = some (.dT (br ks)) /\ Owns K S H os xs f:=by
 constructor
 ·intro h;unfold Own at h;exact h
 ·intro h;unfold Own;exact h
theorem own_sh {d:D} {v:V} {fp:List Addr}:Own K S H (.sh d) v fp ↔ fp = [] /\ Den K S d v:=by unfold Own;exact Py
theorem own_lst {l:List O} {v:V} {fp:List Addr}:Own K S H (.lst l) v fp ↔ ∃ a xs f,v = .ref a /\ fp = a :: f /\ H a = some (.lst xs) /\ Owns K S H l xs f:=by
 constructor
 ·intro h;unfold Own at h;exact h
 ·intro h;unfold Own;exact h
theorem own_tup {l:List O} {v:V} {fp:List Addr}:Own K S H (.tup l) v fp ↔ ∃ a xs f,v = .ref a /\ fp = a :: f /\ (H a = some (.tup xs) /\ ¬ IT (.tup xs)) /\ Owns K S H l xs f:=by
 constructor
 ·intro h;unfold Own at h;exact h
 ·intro h;unfold Own;exact h
theorem Owns.nil:Owns K S H [] [] []:=by unfold Owns;exact ⟨rfl,rfl⟩
theorem Owns.cons {o:O} {l:List O} {y:V} {ys:List V} {f g:List Addr} (h:Own K S H o y f) (k:Owns K S H l ys g):Owns K S H (o :: l) (y :: ys) (f ++ g):=by unfold Owns;exact ⟨y,ys,f,g,rfl,rfl,h,k⟩
theorem Owns.nil_of {xs:List V} {fp:List Addr} (h:Owns K S H [] xs fp):xs = [] /\ fp = []:=by unfold Owns at h;exact h
theorem Owns.cons_of {o:O} {l:List O} {xs:List V} {fp:List Addr} (h:Owns K S H (o :: l) xs fp):∃ y ys f g,xs = y :: ys /\ fp = f ++ g /\ Own K S H o y f /\ Owns K S H l ys g:=by unfold Owns at h;exact h
theorem Owns.length:∀ {l:List O} {xs:List V} {fp:List Addr},Owns K S H l xs fp -> l.length = xs.length
 | [],_,_,h=>by rw [h.nil_of.1];rfl
 | _ :: _,_,_,h=>by
  obtain ⟨y,ys,f,g,rfl,rfl,_,k⟩:=h.cons_of
  rw [Ow,Ow,k.length]
theorem Owns.append:∀ {l m:List O} {xs ys:List V} {f g:List Addr},Owns K S H l xs f -> Owns K S H m ys g -> Owns K S H (l ++ m) (xs ++ ys) (f ++ g)
 | [],_,_,_,_,_,h,k=>by rw [h.nil_of.1,h.nil_of.2];exact k
 | _ :: _,_,_,_,_,_,h,k=>by
  obtain ⟨y,ys,f,g,rfl,rfl,a,b⟩:=h.cons_of
  rw [OV]
  exact .cons a (b.append k)
theorem lf:∀ {ds:List D} {xs:List V},Dens K S ds xs -> Owns K S H (ds.map .sh) xs []
 | [],_,h=>by rw [h.nil_of];exact .nil
 | _ :: _,_,h=>by
  obtain ⟨y,ys,rfl,a,b⟩:=h.cons_of
  exact .cons (f:=[]) (own_sh.mpr ⟨rfl,a⟩) (lf b)
theorem eU:∀ {ds:List D} {xs:List V} {fp:List Addr},Owns K S H (ds.map .sh) xs fp -> Dens K S ds xs /\ fp = []
 | [],_,_,h=>by rw [h.nil_of.1,h.nil_of.2];exact ⟨.nil,rfl⟩
 | _ :: _,_,_,h=>by
  obtain ⟨y,ys,f,g,rfl,rfl,a,b⟩:=h.cons_of
  obtain ⟨e,a⟩:=own_sh.mp a
  obtain ⟨b,e2⟩:=eU b
  exact ⟨.cons a b,by rw [e,e2];rfl⟩
mutual
theorem Own.mono (s:Same S S'):∀ {o:O} {v:V} {fp:List Addr},(∀ b ∈ fp,H' b = H b) -> Own K S H o v fp -> Own K S' H' o v fp
 | .dic _,_,_,k,h=>by
  obtain ⟨a,e,rfl,h1⟩:=own_dic.mp h
  exact own_dic.mpr ⟨a,e,rfl,by rw [k a Oq];exact h1⟩
 | .hd _ _ _,_,_,k,h=>by
  obtain ⟨xs,f,e,rfl,h1,h2⟩:=own_hd.mp h
  exact own_hd.mpr ⟨xs,f,e,rfl,by rw [k _ Oq];exact h1,Owns.mono s (fun b hb=>k b (Ou _ hb)) h2⟩
 | .sh _,_,_,k,h=>by
  obtain ⟨e,d⟩:=own_sh.mp h
  exact own_sh.mpr ⟨e,d.mono s⟩
 | .lst _,_,_,k,h=>by
  obtain ⟨a,xs,f,e,rfl,h1,h2⟩:=own_lst.mp h
  exact own_lst.mpr ⟨a,xs,f,e,rfl,by rw [k a Oq];exact h1,Owns.mono s (fun b hb=>k b (Ou _ hb)) h2⟩
 | .tup _,_,_,k,h=>by
  obtain ⟨a,xs,f,e,rfl,h1,h2⟩:=own_tup.mp h
  exact own_tup.mpr ⟨a,xs,f,e,rfl,by rw [k a Oq];exact h1,Owns.mono s (fun b hb=>k b (Ou _ hb)) h2⟩
theorem Owns.mono (s:Same S S'):∀ {l:List O} {xs:List V} {fp:List Addr},(∀ b ∈ fp,H' b = H b) -> Owns K S H l xs fp -> Owns K S' H' l xs fp
 | [],_,_,k,h=>by rw [h.nil_of.1,h.nil_of.2];exact .nil
 | _ :: _,_,_,k,h=>by
  obtain ⟨y,ys,f,g,rfl,rfl,a,b⟩:=h.cons_of
  exact .cons (Own.mono s (fun b hb=>k b (OH _ hb)) a) (Owns.mono s (fun b hb=>k b (OB _ hb)) b)
end
mutual
theorem Own.there:∀ {o:O} {v:V} {fp:List Addr},Own K S H o v fp -> ∀ b ∈ fp,H b ≠ none
 | .dic _,_,_,h=>by
  obtain ⟨a,e,rfl,h1⟩:=own_dic.mp h
  intro b hb
  rw [Ot] at hb
  subst hb
  rw [h1];exact fun z=>by cases z
 | .hd _ _ _,_,_,h=>by
  obtain ⟨xs,f,e,rfl,h1,h2⟩:=own_hd.mp h
  intro b hb
  rcases Oy.mp hb with rfl | hb
  ·rw [h1];exact fun z=>by cases z
  ·exact Owns.there h2 b hb
 | .sh _,_,_,h=>by
  obtain ⟨e,d⟩:=own_sh.mp h
  rw [e];intro b hb;cases hb
 | .lst _,_,_,h=>by
  obtain ⟨a,xs,f,e,rfl,h1,h2⟩:=own_lst.mp h
  intro b hb
  rcases Oy.mp hb with rfl | hb
  ·rw [h1];exact fun z=>by cases z
  ·exact Owns.there h2 b hb
 | .tup _,_,_,h=>by
  obtain ⟨a,xs,f,e,rfl,⟨h1,_⟩,h2⟩:=own_tup.mp h
  intro b hb
  rcases Oy.mp hb with rfl | hb
  ·rw [h1];exact fun z=>by cases z
  ·exact Owns.there h2 b hb
theorem Owns.there:∀ {l:List O} {xs:List V} {fp:List Addr},Owns K S H l xs fp -> ∀ b ∈ fp,H b ≠ none
 | [],_,_,h=>by rw [h.nil_of.2];intro b hb;cases hb
 | _ :: _,_,_,h=>by
  obtain ⟨y,ys,f,g,rfl,rfl,a,b⟩:=h.cons_of
  intro c hc
  rcases OC.mp hc with hc | hc
  ·exact Own.there a c hc
  ·exact Owns.there b c hc
end
mutual
theorem Own.nit:∀ {o:O} {v:V} {fp:List Addr},Own K S H o v fp -> ∀ b ∈ fp,∀ u,H b = some u -> ¬ IT u
 | .dic _,_,_,h=>by
  obtain ⟨a,e,rfl,h1⟩:=own_dic.mp h
  intro b hb u hu
  rw [Ot.mp hb,h1] at hu
  cases hu
  exact fun ⟨_,z⟩=>nomatch z
 | .hd _ _ _,_,_,h=>by
  obtain ⟨xs,f,e,rfl,h1,h2⟩:=own_hd.mp h
  intro b hb u hu
  rcases Oy.mp hb with rfl | hb
  ·rw [h1] at hu
   cases hu
   exact fun ⟨_,z⟩=>nomatch z
  ·exact Owns.nit h2 b hb u hu
 | .sh _,_,_,h=>by
  obtain ⟨e,d⟩:=own_sh.mp h
  rw [e];intro b hb;cases hb
 | .lst _,_,_,h=>by
  obtain ⟨a,xs,f,e,rfl,h1,h2⟩:=own_lst.mp h
  intro b hb u hu
  rcases Oy.mp hb with rfl | hb
  ·rw [h1] at hu
   cases hu
   exact fun ⟨_,z⟩=>nomatch z
  ·exact Owns.nit h2 b hb u hu
 | .tup _,_,_,h=>by
  obtain ⟨a,xs,f,e,rfl,⟨h1,hn⟩,h2⟩:=own_tup.mp h
  intro b hb u hu
  rcases Oy.mp hb with rfl | hb
  ·rw [h1] at hu
   cases hu
   exact hn
  ·exact Owns.nit h2 b hb u hu
theorem Owns.nit:∀ {l:List O} {xs:List V} {fp:List Addr},Owns K S H l xs fp -> ∀ b ∈ fp,∀ u,H b = some u -> ¬ IT u
 | [],_,_,h=>by rw [h.nil_of.2];intro b hb;cases hb
 | _ :: _,_,_,h=>by
  obtain ⟨y,ys,f,g,rfl,rfl,a,b⟩:=h.cons_of
  intro c hc u hu
  rcases OC.mp hc with hc | hc
  ·exact Own.nit a c hc u hu
  ·exact Owns.nit b c hc u hu
end
mutual
theorem Own.den {S2:Hp} (s:Same S S2):∀ {o:O} {v:V} {fp:List Addr},(∀ b ∈ fp,S2 b = H b) -> Own K S H o v fp -> Den K S2 o.d v
 | .dic _,_,_,k,h=>by
  obtain ⟨a,e,rfl,h1⟩:=own_dic.mp h
  rw [O.d]
  exact den_dic.mpr ⟨a,e,.inl (by rw [k a Oq];exact h1)⟩
 | .hd p ks os,_,_,k,h=>by
  obtain ⟨xs,f,e,rfl,h1,h2⟩:=own_hd.mp h
  have ds:=Owns.den s (fun b hb=>k b (Ou _ hb)) h2
  rw [O.d,e]
  cases q:O.ds os with
  | nil=>
   rw [q] at ds
   rw [ds.nil_of]
   exact den_dic.mpr ⟨p,rfl,.inl (by rw [k p Oq];exact h1)⟩
  | cons d l=>
   rw [q] at ds
   obtain ⟨y,ys,rfl,a,_⟩:=ds.cons_of
   exact a
 | .sh _,_,_,k,h=>by
  obtain ⟨e,d⟩:=own_sh.mp h
  exact d.mono s
 | .lst l,_,_,k,h=>by
  obtain ⟨a,xs,f,e,rfl,h1,h2⟩:=own_lst.mp h
  rw [O.d]
  exact den_lst.mpr ⟨a,xs,e,.inl (by rw [k a Oq];exact h1),Owns.den s (fun b hb=>k b (Ou _ hb)) h2⟩
 | .tup l,_,_,k,h=>by
  obtain ⟨a,xs,f,e,rfl,h1,h2⟩:=own_tup.mp h
  rw [O.d]
  exact den_tup.mpr ⟨a,xs,e,TpA.of (by rw [k a Oq];exact h1.1),Owns.den s (fun b hb=>k b (Ou _ hb)) h2⟩
theorem Owns.den {S2:Hp} (s:Same S S2):∀ {l:List O} {xs:List V} {fp:List Addr},(∀ b ∈ fp,S2 b = H b) -> Owns K S H l xs fp -> Dens K S2 (O.ds l) xs
 | [],_,_,k,h=>by rw [h.nil_of.1,O.ds];exact .nil
 | _ :: _,_,_,k,h=>by
  obtain ⟨y,ys,f,g,rfl,rfl,a,b⟩:=h.cons_of
  rw [O.ds]
  exact .cons (Own.den s (fun b hb=>k b (OH _ hb)) a) (Owns.den s (fun b hb=>k b (OB _ hb)) b)
end
theorem Own.denH {o:O} {v:V} {fp:List Addr} (s:Same S H) (h:Own K S H o v fp):Den K H o.d v:=h.den s fun _ _=>rfl
theorem Ext.keeps {fp:List Addr} (e:Ext S H S' H') (h:∀ b ∈ fp,S b = none) (t:∀ b ∈ fp,H b ≠ none) (ni:∀ b ∈ fp,∀ u,H b = some u -> ¬ IT u):(∀ b ∈ fp,H' b = H b) /\ ∀ b ∈ fp,S' b = none:=by
 have key:∀ b ∈ fp,H' b = H b /\ S' b = none:=fun b hb=>by
  cases q:H b with
  | none=>exact absurd q (t b hb)
  | some o=>exact e.al b o q (h b hb) (ni b hb o q)
 exact ⟨fun b hb=>(key b hb).1,fun b hb=>(key b hb).2⟩
inductive Sl where
 | un | lo | sh (d:D) | ow (o:O)
 deriving Inhabited
noncomputable abbrev Env:=List Sl
structure RlF (K:W.Frag) (A:Hp) (Λ:Nat -> Option Addr) (Φ:Nat -> List Addr) (ρ:Env) (σ:St) (S H:Hp):Prop where
 len:σ.length = ρ.length
 sub:Same S H
 sh:∀ (i:Nat) d,ρ[i]? = some (.sh d) -> ∃ v,σ[i]? = some (some v) /\ Den K S d v
 ow:∀ (i:Nat) o,ρ[i]? = some (.ow o) -> ∃ v,σ[i]? = some (some v) /\ Own K S H o v (Φ i) /\ (Φ i).Nodup /\ ∀ b ∈ Φ i,S b = none /\ A b = none
 dj:∀ (i j:Nat) o o',i ≠ j -> ρ[i]? = some (.ow o) -> ρ[j]? = some (.ow o') -> ∀ b ∈ Φ i,b ∉ Φ j
 lo:∀ (i:Nat),ρ[i]? = some .lo -> ∃ a,Λ i = some a /\ σ[i]? = some (some (.ref a))
 asub:Same A H
 adis:∀ b,S b = none \/ A b = none \/ ∃ u,A b = some u /\ IT u
def RlA (K:W.Frag) (A:Hp) (Λ:Nat -> Option Addr) (ρ:Env) (σ:St) (S H:Hp):Prop:=∃ Φ,RlF K A Λ Φ ρ σ S H
def Rl (K:W.Frag) (ρ:Env) (σ:St) (S H:Hp):Prop:=∃ A Λ Φ,RlF K A Λ Φ ρ σ S H
theorem RlF.ext {A:Hp} {Λ:Nat -> Option Addr} {Φ:Nat -> List Addr} {ρ:Env} {σ:St} (r:RlF K A Λ Φ ρ σ S H) (e:Ext S H S' H'):RlF K A Λ Φ ρ σ S' H' where
 len:=r.len
 sub:=e.sub
 sh:=fun i d h=>by
  obtain ⟨v,h1,h2⟩:=r.sh i d h
  exact ⟨v,h1,h2.mono e.sh⟩
 ow:=fun i o h=>by
  obtain ⟨v,h1,h2,h3,h4⟩:=r.ow i o h
  obtain ⟨k1,k2⟩:=e.keeps (fun b hb=>(h4 b hb).1) h2.there h2.nit
  exact ⟨v,h1,h2.mono e.sh k1,h3,fun b hb=>⟨k2 b hb,(h4 b hb).2⟩⟩
 dj:=r.dj
 lo:=r.lo
 asub:=fun b o h=>e.same r.sub b o (r.asub b o h)
 adis:=fun b=>by
  rcases r.adis b with h | h
  ·cases q:A b with
   | none=>exact .inr (.inl rfl)
   | some o=>
    rcases (e.alw b o (r.asub b o q) h).2 with k | k
    ·exact .inl k
    ·exact .inr (.inr ⟨o,rfl,k⟩)
  ·exact .inr h
theorem RlA.ext {A:Hp} {Λ:Nat -> Option Addr} {ρ:Env} {σ:St} (r:RlA K A Λ ρ σ S H) (e:Ext S H S' H'):RlA K A Λ ρ σ S' H':=let ⟨Φ,f⟩:=r;⟨Φ,f.ext e⟩
theorem RlA.toRl {A:Hp} {Λ:Nat -> Option Addr} {ρ:Env} {σ:St} (r:RlA K A Λ ρ σ S H):Rl K ρ σ S H:=let ⟨Φ,f⟩:=r;⟨A,Λ,Φ,f⟩
theorem RlA.sub {A:Hp} {Λ:Nat -> Option Addr} {ρ:Env} {σ:St} (r:RlA K A Λ ρ σ S H):Same S H:=let ⟨_,f⟩:=r;f.sub
theorem RlA.asub {A:Hp} {Λ:Nat -> Option Addr} {ρ:Env} {σ:St} (r:RlA K A Λ ρ σ S H):Same A H:=let ⟨_,f⟩:=r;f.asub
theorem RlA.adis {A:Hp} {Λ:Nat -> Option Addr} {ρ:Env} {σ:St} (r:RlA K A Λ ρ σ S H):∀ b,S b = none \/ A b = none \/ ∃ u,A b = some u /\ IT u:=let ⟨_,f⟩:=r;f.adis
theorem Rl.ext {ρ:Env} {σ:St} (r:Rl K ρ σ S H) (e:Ext S H S' H'):Rl K ρ σ S' H':=let ⟨A,Λ,Φ,f⟩:=r;⟨A,Λ,Φ,f.ext e⟩
theorem Rl.sub {ρ:Env} {σ:St} (r:Rl K ρ σ S H):Same S H:=let ⟨_,_,_,f⟩:=r;f.sub
theorem Rl.sh {ρ:Env} {σ:St} (r:Rl K ρ σ S H):∀ (i:Nat) d,ρ[i]? = some (.sh d) -> ∃ v,σ[i]? = some (some v) /\ Den K S d v:=let ⟨_,_,_,f⟩:=r;f.sh
theorem Rl.ow {ρ:Env} {σ:St} (r:Rl K ρ σ S H):∀ (i:Nat) o,ρ[i]? = some (.ow o) -> ∃ v fp,σ[i]? = some (some v) /\ Own K S H o v fp /\ fp.Nodup /\ ∀ b ∈ fp,S b = none:=fun i o h=>by
 obtain ⟨A,Λ,Φ,f⟩:=r
 obtain ⟨v,h1,h2,h3,h4⟩:=f.ow i o h
 exact ⟨v,_,h1,h2,h3,fun b hb=>(h4 b hb).1⟩
noncomputable abbrev XE:=Env -> Option D
noncomputable abbrev XT:=Env -> Option Bool
noncomputable abbrev XA:=Env -> Option (List D)
def SE (K:W.Frag) (t:TE) (e:XE):Prop:=∀ ρ σ S H (Q:VK) d,Rl K ρ σ S H -> e ρ = some d -> (∀ v S' H',Ext S H S' H' -> Den K S' d v -> Q v H') -> t σ H Q
def SPk (K:W.Frag) (t:TE) (e:XE):Prop:=∀ ρ σ S H (Q:VK) d,Rl K ρ σ S H -> e ρ = some d -> (∀ v S' H',Ext S H S' H' -> DenP K S' H' d v -> Q v H') -> t σ H Q
def SF (K:W.Frag) (t:TE) (e:XA):Prop:=∀ ρ σ S H (Q:VK) l,Rl K ρ σ S H -> e ρ = some l -> (∀ a xs S' H',Ext S H S' H' -> H a = none -> S' a = none -> H' a = some (.lst xs) -> Dens K S' l xs -> Q (.ref a) H') -> t σ H Q
def ST (K:W.Frag) (t:TT) (c:XT):Prop:=∀ ρ σ S H (Q:Bool -> Hp -> Prop) b,Rl K ρ σ S H -> c ρ = some b -> (∀ S' H',Ext S H S' H' -> Q b H') -> t σ H Q
def SA (K:W.Frag) (t:TA) (e:XA):Prop:=∀ ρ σ S H (Q:List V -> Hp -> Prop) ds,Rl K ρ σ S H -> e ρ = some ds -> (∀ vs S' H',Ext S H S' H' -> Dens K S' ds vs -> Q vs H') -> t σ H Q
def SAP (K:W.Frag) (t:TA) (e:XA):Prop:=∀ ρ σ S H (Q:List V -> Hp -> Prop) ds,Rl K ρ σ S H -> e ρ = some ds -> (∀ vs S' H',Ext S H S' H' -> DensP K S' H' ds vs -> Q vs H') -> t σ H Q
theorem SE.p {t:TE} {e:XE} (h:SE K t e):SPk K t e:=fun ρ σ S H Q d r x k=>h ρ σ S H Q d r x fun v S' H' z dv=>k v S' H' z (.inl dv)
@[simp] noncomputable def xL (e:XA):XE:=fun ρ=>(e ρ).map D.lst
theorem SF.e {t:TE} {e:XA} (h:SF K t e):SE K t (xL e):=fun ρ σ S H Q d r x k=>by
 unfold xL at x
 cases q:e ρ with
 | none=>rw [q] at x;cases x
 | some l=>
  rw [q] at x
  cases x
  refine h ρ σ S H Q l r q fun a xs S' H' z h1 h2 h3 h4=>?_
  have s2:Same S' (upd S' a (.lst xs)):=fun b u e=>by rw [aB (ba e h2)];exact e
  refine k _ (upd S' a (.lst xs)) H' ⟨z.sh.trans s2,fun b u e=>?_,fun b o e n=>?_⟩ (den_lst.mpr ⟨a,xs,rfl,.inl aD,h4.mono s2⟩)
  ·by_cases hb:b = a
   ·subst hb;rw [aD] at e;cases e;exact h3
   ·rw [aB hb] at e;exact z.sub b u e
  ·obtain ⟨y1,y2⟩:=z.alw b o e n
   exact ⟨y1,by rw [aB (ba e h1)];exact y2⟩
@[simp] noncomputable def aw (i:Nat):XE:=fun ρ=>match ρ[i]? with | some (.sh d)=>some d | _=>none
noncomputable def shs:List O -> Option (List D)
 | []=>some []
 | .sh d :: l=>(shs l).map fun r=>d :: r
 | _=>none
theorem qW:∀ l:List D,shs (l.map .sh) = some l
 | []=>rfl
 | d :: l=>by rw [Ox,shs,qW l];rfl
theorem oW:∀ {os:List O} {l:List D},shs os = some l -> os = l.map .sh
 | [],l,h=>by cases h;rfl
 | o :: os,l,h=>by
  cases o with
  | sh d=>
   have h':(shs os).map (fun r=>d :: r) = some l:=h
   cases q:shs os with
   | none=>rw [q] at h';cases h'
   | some m=>rw [q] at h';cases h';rw [oW q];rfl
  | lst _=>cases h
  | tup _=>cases h
  | dic _=>cases h
  | hd _ _ _=>cases h
noncomputable def Fi:Sl -> Option D
 | .sh d=>some d
 | .ow (.sh d)=>some d
 | .ow (.lst os)=>(shs os).map D.lst
 | _=>none
@[simp] theorem LO (d:D):Fi (.ow (.sh d)) = some d:=rfl
@[simp] theorem LQ (d:D):Fi (.sh d) = some d:=rfl
@[simp] theorem LP (l:List D):Fi (.ow (.lst (l.map .sh))) = some (.lst l):=by show (shs _).map D.lst = _;rw [qW];rfl
@[simp] noncomputable def ah (i:Nat):XE:=fun ρ=>(ρ[i]?).bind Fi
theorem aG (i:Nat):SE K (jI i) (aw i):=fun ρ σ S H Q d r x k=>by
 unfold aw at x
 split at x
 ·rename_i d' e
  cases x
  obtain ⟨v,h1,h2⟩:=r.sh i _ e
  exact ⟨v,h1,k v S H (Ext.refl r.sub) h2⟩
 ·cases x
theorem aj (i:Nat):SPk K (jI i) (ah i):=fun ρ σ S H Q d r x k=>by
 unfold ah at x
 cases q:ρ[i]? with
 | none=>rw [q] at x;cases x
 | some s=>
  rw [q] at x
  cases s with
  | un=>cases x
  | lo=>cases x
  | sh d'=>
   cases x
   obtain ⟨v,h1,h2⟩:=r.sh i _ q
   exact ⟨v,h1,k v S H (Ext.refl r.sub) (.inl h2)⟩
  | ow o=>
   cases o with
   | sh d'=>
    cases x
    obtain ⟨v,fp,h1,h2,h3,h4⟩:=r.ow i _ q
    exact ⟨v,h1,k v S H (Ext.refl r.sub) (.inl (own_sh.mp h2).2)⟩
   | tup l=>cases x
   | dic ks=>cases x
   | hd _ _ _=>cases x
   | lst os=>
    have x':(shs os).map D.lst = some d:=x
    cases qs:shs os with
    | none=>rw [qs] at x';cases x'
    | some l=>
     rw [qs] at x'
     cases x'
     have e:=oW qs
     subst e
     obtain ⟨v,fp,h1,h2,h3,h4⟩:=r.ow i _ q
     obtain ⟨a,xs,f,rfl,rfl,h5,h6⟩:=own_lst.mp h2
     exact ⟨_,h1,k _ S H (Ext.refl r.sub) (.inr ⟨l,a,xs,rfl,rfl,h5,(eU h6).1⟩)⟩
def SQ (K:W.Frag) (t:TE) (e:XE):Prop:=∀ ρ σ S H (Q:VK) d,Rl K ρ σ S H -> e ρ = some d -> (∀ v S' H',Ext S H S' H' -> Den K H' d v -> Q v H') -> t σ H Q
theorem rQ {d:D} {v:V} (s:Same S H) (h:DenP K S H d v):Den K H d v:=by
 rcases h with h | ⟨l,p,xs,rfl,rfl,h1,h2⟩
 ·exact h.mono s
 ·exact den_lst.mpr ⟨p,xs,rfl,.inl h1,h2.mono s⟩
theorem SPk.q {t:TE} {e:XE} (h:SPk K t e):SQ K t e:=fun ρ σ S H Q d r x k=>h ρ σ S H Q d r x fun v S' H' z dv=>k v S' H' z (rQ z.sub dv)
noncomputable def Fj:Sl -> Option D
 | .sh d=>some d
 | .ow o=>some o.d
 | _=>none
@[simp] theorem KQ (d:D):Fj (.sh d) = some d:=rfl
@[simp] theorem KP (o:O):Fj (.ow o) = some o.d:=rfl
@[simp] noncomputable def Cw (i:Nat):XE:=fun ρ=>(ρ[i]?).bind Fj
theorem FW (i:Nat):SQ K (jI i) (Cw i):=fun ρ σ S H Q d r x k=>by
 unfold Cw at x
 cases q:ρ[i]? with
 | none=>rw [q] at x;cases x
 | some s=>
  rw [q] at x
  cases s with
  | un=>cases x
  | lo=>cases x
  | sh d'=>
   cases x
   obtain ⟨v,h1,h2⟩:=r.sh i _ q
   exact ⟨v,h1,k v S H (Ext.refl r.sub) (h2.mono r.sub)⟩
  | ow o=>
   cases x
   obtain ⟨v,fp,h1,h2,h3,h4⟩:=r.ow i _ q
   exact ⟨_,h1,k _ S H (Ext.refl r.sub) (h2.denH r.sub)⟩
@[simp] noncomputable def xC (d:D):XE:=fun _=>some d
noncomputable def ox:D -> Option V
 | .non=>some .non | .bl b=>some (.bl b) | .int i=>some (.int i) | .str x=>some (.str x) | .ty x=>some (.ty x) | _=>none
theorem m7 {d:D} {v:V} (h:ox d = some v):Den K S d v:=by
 cases d <;> simp [ox] at h <;> subst h <;> unfold Den <;> rfl
theorem s_c {v:V} {d:D} (h:ox d = some v):SE K (tC v) (xC d):=fun ρ σ S H Q e r x k=>by
 cases x
 exact k v S H (Ext.refl r.sub) (m7 h)
@[simp] noncomputable def xFl (e:XE):XE:=fun ρ=>(e ρ).bind fun d=>if (ox d).isSome then some d else none
theorem G1 {d:D} {v w:V} (h:ox d = some w) (k:Den K S d v):v = w:=by
 cases d <;> simp [ox] at h <;> subst h <;> unfold Den at k <;> exact k
theorem SQ.fl {t:TE} {e:XE} (h:SQ K t e):SE K t (xFl e):=fun ρ σ S H Q d r x k=>by
 unfold xFl at x
 cases q:e ρ with
 | none=>rw [q] at x;cases x
 | some d'=>
  rw [q] at x
  dsimp only [Option.bind] at x
  split at x
  ·rename_i hf
   cases x
   obtain ⟨w,hw⟩:=Rs.mp hf
   refine h ρ σ S H Q d r q fun v S' H' z dv=>k v S' H' z ?_
   rw [G1 hw dv]
   exact m7 hw
  ·cases x
@[simp] noncomputable def xOp (f:D -> D -> Option D) (a b:XE):XE:=fun ρ=>(a ρ).bind fun x=>(b ρ).bind fun y=>f x y
def SR2 (K:W.Frag) (r:R2) (f:D -> D -> Option D):Prop:=∀ S H x y d e g (Q:VK),Same S H -> DenP K S H d x -> DenP K S H e y -> f d e = some g -> (∀ v S' H',Ext S H S' H' -> Den K S' g v -> Q v H') -> r x y H Q
theorem aH {r:R2} {f:D -> D -> Option D} {ta tb:TE} {a b:XE} (hr:SR2 K r f) (ha:SPk K ta a) (hb:SPk K tb b):SE K (tOp r ta tb) (xOp f a b):=fun ρ σ S H Q d r x k=>by
 unfold xOp at x
 cases qa:a ρ with
 | none=>rw [qa] at x;cases x
 | some da=>
  rw [qa] at x
  dsimp only [Option.bind] at x
  cases qb:b ρ with
  | none=>rw [qb] at x;cases x
  | some db=>
   rw [qb] at x
   refine ha ρ σ S H _ da r qa fun v S1 H1 z1 d1=>?_
   have r1:=r.ext z1
   refine hb ρ σ S1 H1 _ db r1 qb fun w S2 H2 z2 d2=>?_
   exact hr S2 H2 v w da db d Q z2.sub (d1.mono z2 r1.sub) d2 x fun u S3 H3 z3 d3=>k u S3 H3 ((z1.trans z2).trans z3) d3
theorem GZ {S2 H3 S3:Hp} (s:Same S H) (z:Ext H H S3 H3):Ext S H S H3:=⟨Same.refl _,fun b u e=>z.sub b u (z.sh b u (s b u e)),fun b o h n=>⟨z.sub b o (z.sh b o h),.inl n⟩⟩
theorem IE {r:R2} {f:D -> D -> Option D} {ta tb:TE} {a b:XE} (hr:SR2 K r f) (ha:SQ K ta a) (hb:SQ K tb b):SQ K (tOp r ta tb) (xOp f a b):=fun ρ σ S H Q d r x k=>by
 unfold xOp at x
 cases qa:a ρ with
 | none=>rw [qa] at x;cases x
 | some da=>
  rw [qa] at x
  dsimp only [Option.bind] at x
  cases qb:b ρ with
  | none=>rw [qb] at x;cases x
  | some db=>
   rw [qb] at x
   refine ha ρ σ S H _ da r qa fun v S1 H1 z1 d1=>?_
   have r1:=r.ext z1
   refine hb ρ σ S1 H1 _ db r1 qb fun w S2 H2 z2 d2=>?_
   exact hr H2 H2 v w da db d Q (Same.refl _) (.inl (d1.mono (z2.same r1.sub))) (.inl d2) x fun u S3 H3 z3 d3=>k u S2 H3 ((z1.trans z2).trans (GZ (S2:=S2) z2.sub z3)) (d3.mono z3.sub)
@[simp] noncomputable def xUn (f:D -> Option D) (a:XE):XE:=fun ρ=>(a ρ).bind f
def SR1 (K:W.Frag) (r:V -> Hp -> VK -> Prop) (f:D -> Option D):Prop:=∀ S H x d g (Q:VK),Same S H -> DenP K S H d x -> f d = some g -> (∀ v S' H',Ext S H S' H' -> Den K S' g v -> Q v H') -> r x H Q
theorem j4 {r:V -> Hp -> VK -> Prop} {f:D -> Option D} {ta:TE} {a:XE} (hr:SR1 K r f) (ha:SPk K ta a):SE K (tUn r ta) (xUn f a):=fun ρ σ S H Q d r x k=>by
 unfold xUn at x
 cases qa:a ρ with
 | none=>rw [qa] at x;cases x
 | some da=>
  rw [qa] at x
  refine ha ρ σ S H _ da r qa fun v S1 H1 z1 d1=>?_
  exact hr S1 H1 v da d Q z1.sub d1 x fun u S3 H3 z3 d3=>k u S3 H3 (z1.trans z3) d3
@[simp] noncomputable def aq:XA:=fun _=>some []
@[simp] noncomputable def ad (a:XE) (b:XA):XA:=fun ρ=>(a ρ).bind fun x=>(b ρ).bind fun y=>some (x :: y)
theorem au:SA K nP aq:=fun ρ σ S H Q ds r x k=>by cases x;exact k [] S H (Ext.refl r.sub) .nil
theorem bE:SAP K nP aq:=fun ρ σ S H Q ds r x k=>by cases x;exact k [] S H (Ext.refl r.sub) .nil
theorem iU {a:XE} {b:XA} {ρ:Env} {ds:List D} (x:ad a b ρ = some ds):∃ d r,a ρ = some d /\ b ρ = some r /\ ds = d :: r:=by
 unfold ad at x
 cases qa:a ρ with
 | none=>rw [qa] at x;cases x
 | some da=>
  rw [qa] at x
  dsimp only [Option.bind] at x
  cases qb:b ρ with
  | none=>rw [qb] at x;cases x
  | some db=>rw [qb] at x;cases x;exact ⟨_,_,rfl,rfl,rfl⟩
theorem af {ta:TE} {tr:TA} {a:XE} {b:XA} (ha:SE K ta a) (hb:SA K tr b):SA K (eK ta tr) (ad a b):=fun ρ σ S H Q ds r x k=>by
 obtain ⟨da,db,qa,qb,rfl⟩:=iU x
 refine ha ρ σ S H _ da r qa fun v S1 H1 z1 d1=>hb ρ σ S1 H1 _ db (r.ext z1) qb fun vs S2 H2 z2 d2=>k _ S2 H2 (z1.trans z2) (.cons (d1.mono z2.sh) d2)
theorem a5 {ta:TE} {tr:TA} {a:XE} {b:XA} (ha:SPk K ta a) (hb:SAP K tr b):SAP K (eK ta tr) (ad a b):=fun ρ σ S H Q ds r x k=>by
 obtain ⟨da,db,qa,qb,rfl⟩:=iU x
 refine ha ρ σ S H _ da r qa fun v S1 H1 z1 d1=>hb ρ σ S1 H1 _ db (r.ext z1) qb fun vs S2 H2 z2 d2=>k _ S2 H2 (z1.trans z2) (.cons (d1.mono z2 (r.ext z1).sub) d2)
@[irreducible] noncomputable def LIM:Nat:=1000000
theorem eR:LIM < sizeLine:=by rw [OJ];unfold LIM;decide
@[simp] noncomputable def a7 (a:XA):XE:=fun ρ=>(a ρ).bind fun l=>if l.length <= LIM then some (.tup l) else none
theorem bn {t:TA} {a:XA} (h:SA K t a):SE K (HW t) (a7 a):=fun ρ σ S H Q d r x k=>by
 unfold a7 at x
 cases q:a ρ with
 | none=>rw [q] at x;cases x
 | some l=>
  rw [q] at x
  dsimp only [Option.bind] at x
  split at x
  ·rename_i hl
   cases x
   refine h ρ σ S H _ l r q fun vs S1 H1 z1 d1=>⟨?_,fun p hp=>?_⟩
   ·rw [<- d1.length];exact O4 (Pf hl eR)
   ·have z2:=Ext.new (o:=.tup vs) z1.sub hp
    exact k _ _ _ (z1.trans z2) (den_tup.mpr ⟨p,vs,rfl,TpA.of aD,d1.mono z2.sh⟩)
  ·cases x
@[simp] noncomputable def jL (a:XA):XA:=fun ρ=>(a ρ).bind fun l=>if l.length <= LIM then some l else none
theorem gH {t:TA} {a:XA} (h:SA K t a):SF K (Kc t) (jL a):=fun ρ σ S H Q l r x k=>by
 unfold jL at x
 cases q:a ρ with
 | none=>rw [q] at x;cases x
 | some l=>
  rw [q] at x
  dsimp only [Option.bind] at x
  split at x
  ·rename_i hl
   cases x
   refine h ρ σ S H _ l r q fun vs S1 H1 z1 d1=>⟨?_,fun p hp=>?_⟩
   ·rw [<- d1.length];exact O4 (Pf hl eR)
   ·have hp0:H p = none:=(z1.same r.sub).free hp
    exact k p vs S1 _ (z1.trans (Ext.own z1.sub hp)) hp0 (z1.sub.free hp) aD d1
  ·cases x
@[simp] noncomputable def xCB (f:List D -> Option D) (a:XA):XE:=fun ρ=>(a ρ).bind f
def SRB (K:W.Frag) (r:List V -> Hp -> VK -> Prop) (f:List D -> Option D):Prop:=∀ S H vs ds g (Q:VK),Same S H -> DensP K S H ds vs -> f ds = some g -> (∀ v S' H',Ext S H S' H' -> Den K S' g v -> Q v H') -> r vs H Q
theorem gR {r:List V -> Hp -> VK -> Prop} {f:List D -> Option D} {t:TA} {a:XA} (hr:SRB K r f) (h:SAP K t a):SE K (tCB r t) (xCB f a):=fun ρ σ S H Q d rl x k=>by
 unfold xCB at x
 cases q:a ρ with
 | none=>rw [q] at x;cases x
 | some ds=>
  rw [q] at x
  refine h ρ σ S H _ ds rl q fun vs S1 H1 z1 d1=>?_
  exact hr S1 H1 vs ds d Q z1.sub d1 x fun v S2 H2 z2 d2=>k v S2 H2 (z1.trans z2) d2
@[simp] noncomputable def Bo (f:List D -> Option (List D)) (a:XA):XA:=fun ρ=>(a ρ).bind f
def SRF (K:W.Frag) (r:List V -> Hp -> VK -> Prop) (f:List D -> Option (List D)):Prop:=∀ S H vs ds g (Q:VK),Same S H -> DensP K S H ds vs -> f ds = some g -> (∀ a xs H',Ext S H S H' -> H a = none -> H' a = some (.lst xs) -> Dens K S g xs -> Q (.ref a) H') -> r vs H Q
theorem FN {r:List V -> Hp -> VK -> Prop} {f:List D -> Option (List D)} {t:TA} {a:XA} (hr:SRF K r f) (h:SAP K t a):SF K (tCB r t) (Bo f a):=fun ρ σ S H Q d rl x k=>by
 unfold Bo at x
 cases q:a ρ with
 | none=>rw [q] at x;cases x
 | some ds=>
  rw [q] at x
  refine h ρ σ S H _ ds rl q fun vs S1 H1 z1 d1=>?_
  exact hr S1 H1 vs ds d Q z1.sub d1 x fun b xs H2 z2 h1 h2 d2=>k b xs S1 H2 (z1.trans z2) ((z1.same rl.sub).free h1) (z1.sub.free h1) h2 d2
def STr (K:W.Frag) (t:TE) (e:Env -> Option O):Prop:=∀ ρ σ S H (Q:VK) o,Rl K ρ σ S H -> e ρ = some o -> (∀ v fp S' H',Ext S H S' H' -> Own K S' H' o v fp -> fp.Nodup -> (∀ b ∈ fp,H b = none /\ S' b = none) -> Q v H') -> t σ H Q
@[simp] noncomputable def xLT (e:XA):Env -> Option O:=fun ρ=>(e ρ).map fun l=>.lst (l.map .sh)
theorem SF.t {t:TE} {e:XA} (h:SF K t e):STr K t (xLT e):=fun ρ σ S H Q o r x k=>by
 unfold xLT at x
 cases q:e ρ with
 | none=>rw [q] at x;cases x
 | some l=>
  rw [q] at x
  cases x
  refine h ρ σ S H Q l r q fun a xs S' H' z h1 h2 h3 h4=>?_
  refine k _ [a] S' H' z (own_lst.mpr ⟨a,xs,[],rfl,rfl,h3,lf h4⟩) (by simp) fun b hb=>?_
  rw [Ot.mp hb]
  exact ⟨h1,h2⟩
@[simp] noncomputable def xSh (e:XE):Env -> Option O:=fun ρ=>(e ρ).map .sh
theorem SE.t {t:TE} {e:XE} (h:SE K t e):STr K t (xSh e):=fun ρ σ S H Q o r x k=>by
 unfold xSh at x
 cases q:e ρ with
 | none=>rw [q] at x;cases x
 | some d=>
  rw [q] at x
  cases x
  exact h ρ σ S H Q d r q fun v S' H' z dv=>k v [] S' H' z (own_sh.mpr ⟨rfl,dv⟩) .nil fun b hb=>by cases hb
noncomputable def pZ (S H:Hp) (fp:List Addr):Hp:=fun b=>if b ∈ fp then H b else S b
theorem k6 {fp:List Addr} {b:Addr} (h:b ∈ fp):pZ S H fp b = H b:=by unfold pZ;rw [Oj h]
theorem ei {fp:List Addr} {b:Addr} (h:b ∉ fp):pZ S H fp b = S b:=by unfold pZ;rw [Oi h]
theorem oz {fp:List Addr} (n:∀ b ∈ fp,S b = none):Same S (pZ S H fp):=fun b o e=>by
 rw [ei fun hb=>by rw [n b hb] at e;cases e]
 exact e
theorem ym {fp:List Addr} (s:Same S H):Same (pZ S H fp) H:=fun b o e=>by
 by_cases hb:b ∈ fp
 ·rw [k6 hb] at e;exact e
 ·rw [ei hb] at e;exact s b o e
theorem EA {fp:List Addr} (z:Ext S H S' H') (n:∀ b ∈ fp,H b = none /\ S' b = none):Ext S H (pZ S' H' fp) H':=
 ⟨z.sh.trans (oz fun b hb=>(n b hb).2),ym z.sub,fun b o h hn=>⟨(z.alw b o h hn).1,by rw [ei fun hb=>by rw [(n b hb).1] at h;cases h];exact (z.alw b o h hn).2⟩⟩
@[simp] noncomputable def xOD (e:Env -> Option O):XE:=fun ρ=>(e ρ).map O.d
theorem STr.e {t:TE} {e:Env -> Option O} (h:STr K t e):SE K t (xOD e):=fun ρ σ S H Q d r x k=>by
 unfold xOD at x
 cases q:e ρ with
 | none=>rw [q] at x;cases x
 | some o=>
  rw [q] at x
  cases x
  exact h ρ σ S H Q o r q fun v fp S' H' z ow nd n=>k v _ H' (EA z n) (ow.den (oz fun b hb=>(n b hb).2) fun b hb=>k6 hb)
noncomputable def iq (K:W.Frag) (n:Nat) (m:List D -> Option O):Sp:=fun vs H Q _=>vs.length = n /\ ∃ S ds o,Same S H /\ Dens K S ds vs /\ m ds = some o /\ ∀ v fp S' H',Ext S H S' H' -> Own K S' H' o v fp -> fp.Nodup -> (∀ b ∈ fp,H b = none /\ S' b = none) -> Q v H'
@[simp] noncomputable def Bp (m:List D -> Option O) (a:XA):Env -> Option O:=fun ρ=>(a ρ).bind m
theorem HF {n:Nat} {m:List D -> Option O} {E:XK} {t:TA} {a:XA} (h:SA K t a) (hn:∀ ρ ds,a ρ = some ds -> ds.length = n):STr K (zF (iq K n m) [] E t) (Bp m a):=fun ρ σ S H Q o rl x k=>by
 unfold Bp at x
 cases q:a ρ with
 | none=>rw [q] at x;cases x
 | some ds=>
  rw [q] at x
  refine h ρ σ S H _ ds rl q fun vs S1 H1 z1 d1=>?_
  rw [OZ]
  refine ⟨by rw [<- d1.length];exact hn ρ ds q,S1,ds,o,z1.sub,d1,x,fun v fp S2 H2 z2 ow nd n=>k v fp S2 H2 (z1.trans z2) ow nd fun b hb=>⟨(z1.same rl.sub).free (n b hb).1,(n b hb).2⟩⟩
@[simp] noncomputable def bC (m:List D -> Option D) (a:XA):XE:=fun ρ=>(a ρ).bind m
theorem cG {n:Nat} {m:List D -> Option O} {E:XK} {t:TA} {a:XA} (h:SA K t a) (hn:∀ ρ ds,a ρ = some ds -> ds.length = n):SE K (zF (iq K n m) [] E t) (bC (fun ds=>(m ds).map O.d) a):=by
 have:=(HF (m:=m) (E:=E) h hn).e
 have e:xOD (Bp m a) = bC (fun ds=>(m ds).map O.d) a:=by
  funext ρ
  show ((a ρ).bind m).map O.d = (a ρ).bind fun ds=>(m ds).map O.d
  cases a ρ <;> rfl
 rw [e] at this
 exact this
@[simp] noncomputable def ML (m:List D -> Option D) (a:XA):XE:=fun ρ=>((a ρ).bind m).bind fun d=>if (ox d).isSome then some d else none
def SAT (K:W.Frag) (t:TA) (e:Env -> Option (List O)):Prop:=∀ ρ σ S H (Q:List V -> Hp -> Prop) os,Rl K ρ σ S H -> e ρ = some os -> (∀ vs fp S' H',Ext S H S' H' -> Owns K S' H' os vs fp -> fp.Nodup -> (∀ b ∈ fp,H b = none /\ S' b = none) -> Q vs H') -> t σ H Q
@[simp] noncomputable def Gy:Env -> Option (List O):=fun _=>some []
@[simp] noncomputable def xz (a:Env -> Option O) (b:Env -> Option (List O)):Env -> Option (List O):=fun ρ=>(a ρ).bind fun x=>(b ρ).bind fun y=>some (x :: y)
theorem F7:SAT K nP Gy:=fun ρ σ S H Q ds r x k=>by cases x;exact k [] [] S H (Ext.refl r.sub) .nil .nil fun _ hb=>by cases hb
theorem Ck {ta:TE} {tr:TA} {a:Env -> Option O} {b:Env -> Option (List O)} (ha:STr K ta a) (hb:SAT K tr b):SAT K (eK ta tr) (xz a b):=fun ρ σ S H Q os r x k=>by
 unfold xz at x
 cases qa:a ρ with
 | none=>rw [qa] at x;cases x
 | some oa=>
  rw [qa] at x
  dsimp only [Option.bind] at x
  cases qb:b ρ with
  | none=>rw [qb] at x;cases x
  | some ob=>
   rw [qb] at x
   cases x
   refine ha ρ σ S H _ oa r qa fun v fp S1 H1 z1 o1 nd1 n1=>hb ρ σ S1 H1 _ ob (r.ext z1) qb fun vs fq S2 H2 z2 o2 nd2 n2=>?_
   obtain ⟨k1,k2⟩:=z2.keeps (fun b hb=>(n1 b hb).2) o1.there o1.nit
   refine k _ _ S2 H2 (z1.trans z2) (.cons (o1.mono z2.sh k1) o2) ?_ fun c hc=>?_
   ·refine Pr.mpr ⟨nd1,nd2,fun c hc d hd e=>?_⟩
    subst e
    exact o1.there c hc (n2 c hd).1
   ·rcases OC.mp hc with hc | hc
    ·exact ⟨(n1 c hc).1,k2 c hc⟩
    ·exact ⟨(z1.same r.sub).free (n2 c hc).1,(n2 c hc).2⟩
@[simp] noncomputable def iI:List O -> Bool
 | []=>true
 | .sh (.int _) :: l=>iI l
 | .hd _ _ _ :: l=>iI l
 | _ :: _=>false
@[simp] noncomputable def GE (a:Env -> Option (List O)):Env -> Option O:=fun ρ=>(a ρ).bind fun l=>if l.length <= LIM /\ iI l = false then some (.tup l) else none
theorem Am {d:D} {k:Int} (h:Den K S d (.int k)):d = .int k:=by
 cases d <;> unfold Den at h <;> first | (cases h;rfl) | (cases h;done) | (obtain ⟨_,h,_⟩:=h;cases h;done) | (obtain ⟨_,_,h,_⟩:=h;cases h;done) | (obtain ⟨_,_,_,h,_⟩:=h;cases h;done) | (obtain ⟨_,_,_,_,h,_⟩:=h;cases h;done)
theorem yW:∀ {l:List O} {xs:List V} {fp:List Addr} {ks:List Int},Owns K S H l xs fp -> xs = ks.map V.int -> iI l = true
 | [],_,_,_,_,_=>rfl
 | o :: l,_,_,ks,h,e=>by
  obtain ⟨y,ys,f,g,rfl,rfl,a,b⟩:=h.cons_of
  cases ks with
  | nil=>cases e
  | cons k ks=>
   rw [Ox] at e
   cases e
   have ih:=yW b rfl
   cases o with
   | sh d=>
    obtain ⟨_,d1⟩:=own_sh.mp a
    have:d = .int k:=Am d1
    subst this
    unfold iI
    exact ih
   | lst _=>obtain ⟨_,_,_,e,_⟩:=own_lst.mp a;cases e
   | tup _=>obtain ⟨_,_,_,e,_⟩:=own_tup.mp a;cases e
   | dic _=>obtain ⟨_,e,_⟩:=own_dic.mp a;cases e
   | hd p q os=>
    unfold iI
    exact ih
@[simp] noncomputable def Gw (a:Env -> Option (List O)):Env -> Option O:=fun ρ=>(a ρ).bind fun l=>if l.length <= LIM then some (.lst l) else none
theorem o9 {fp:List Addr} {p:Addr} {o:HO} (h:H p = none) (t:∀ b ∈ fp,H b ≠ none):(∀ b ∈ fp,upd H p o b = H b) /\ p ∉ fp:=by
 have np:p ∉ fp:=fun hp=>t p hp h
 exact ⟨fun b hb=>aB fun e=>np (e ▸ hb),np⟩
theorem J2 {t:TA} {a:Env -> Option (List O)} (h:SAT K t a):STr K (HW t) (GE a):=fun ρ σ S H Q o r x k=>by
 unfold GE at x
 cases q:a ρ with
 | none=>rw [q] at x;cases x
 | some l=>
  rw [q] at x
  dsimp only [Option.bind] at x
  split at x
  ·rename_i hlc
   obtain ⟨hl,hc⟩:=hlc
   cases x
   refine h ρ σ S H _ l r q fun vs fp S1 H1 z1 o1 nd1 n1=>⟨?_,fun p hp=>?_⟩
   ·rw [<- o1.length];exact O4 (Pf hl eR)
   ·obtain ⟨k1,k2⟩:=o9 (o:=.tup vs) hp o1.there
    have nit:¬ IT (.tup vs):=fun hpt0=>by
     obtain ⟨ks,e⟩:=hpt0
     cases e
     rw [yW o1 rfl] at hc
     cases hc
    refine k _ (p :: fp) S1 _ (z1.trans (Ext.own z1.sub hp)) (own_tup.mpr ⟨p,vs,fp,rfl,rfl,⟨aD,nit⟩,o1.mono (Same.refl _) k1⟩) (OL.mpr ⟨k2,nd1⟩) fun b hb=>?_
    rcases Oy.mp hb with rfl | hb
    ·exact ⟨(z1.same r.sub).free hp,z1.sub.free hp⟩
    ·exact n1 b hb
  ·cases x
theorem JU {t:TA} {a:Env -> Option (List O)} (h:SAT K t a):STr K (Kc t) (Gw a):=fun ρ σ S H Q o r x k=>by
 unfold Gw at x
 cases q:a ρ with
 | none=>rw [q] at x;cases x
 | some l=>
  rw [q] at x
  dsimp only [Option.bind] at x
  split at x
  ·rename_i hl
   cases x
   refine h ρ σ S H _ l r q fun vs fp S1 H1 z1 o1 nd1 n1=>⟨?_,fun p hp=>?_⟩
   ·rw [<- o1.length];exact O4 (Pf hl eR)
   ·obtain ⟨k1,k2⟩:=o9 (o:=.lst vs) hp o1.there
    refine k _ (p :: fp) S1 _ (z1.trans (Ext.own z1.sub hp)) (own_lst.mpr ⟨p,vs,fp,rfl,rfl,aD,o1.mono (Same.refl _) k1⟩) (OL.mpr ⟨k2,nd1⟩) fun b hb=>?_
    rcases Oy.mp hb with rfl | hb
    ·exact ⟨(z1.same r.sub).free hp,z1.sub.free hp⟩
    ·exact n1 b hb
  ·cases x
theorem bi {ρ:Env} {ds:List D} (h:aq ρ = some ds):ds.length = 0:=by cases h;rfl
theorem aC {a:XE} {b:XA} {n:Nat} (h:∀ ρ ds,b ρ = some ds -> ds.length = n) (ρ:Env) (ds:List D) (x:ad a b ρ = some ds):ds.length = n + 1:=by
 obtain ⟨da,db,qa,qb,rfl⟩:=iU x
 rw [Ow,h ρ db qb]
@[simp] noncomputable def zP (a b:XE):XE:=fun ρ=>(a ρ).bind fun x=>match x with | .bl true=>b ρ | .bl false=>some (.bl false) | _=>none
@[simp] noncomputable def Ki (a b:XE):XE:=fun ρ=>(a ρ).bind fun x=>match x with | .bl true=>some (.bl true) | .bl false=>b ρ | _=>none
@[simp] noncomputable def GA (a:XE):XE:=fun ρ=>(a ρ).bind fun x=>match x with | .bl c=>some (.bl (!c)) | _=>none
theorem A9 {ta tb:TE} {a b:XE} (ha:SPk K ta a) (hb:SE K tb b):SE K (IH ta tb) (zP a b):=fun ρ σ S H Q d r x k=>by
 unfold zP at x
 cases qa:a ρ with
 | none=>rw [qa] at x;cases x
 | some da=>
  rw [qa] at x
  dsimp only [Option.bind] at x
  refine ha ρ σ S H _ da r qa fun v S1 H1 z1 d1=>?_
  split at x
  ·exact ⟨true,d1.bl,yt (hb ρ σ S1 H1 Q d (r.ext z1) x fun w S2 H2 z2 d2=>k w S2 H2 (z1.trans z2) d2)⟩
  ·cases x
   exact ⟨false,d1.bl,yr (k _ S1 H1 z1 (den_bl.mpr rfl))⟩
  ·cases x
theorem Lg {ta tb:TE} {a b:XE} (ha:SPk K ta a) (hb:SE K tb b):SE K (Lu ta tb) (Ki a b):=fun ρ σ S H Q d r x k=>by
 unfold Ki at x
 cases qa:a ρ with
 | none=>rw [qa] at x;cases x
 | some da=>
  rw [qa] at x
  dsimp only [Option.bind] at x
  refine ha ρ σ S H _ da r qa fun v S1 H1 z1 d1=>?_
  split at x
  ·cases x
   exact ⟨true,d1.bl,yt (k _ S1 H1 z1 (den_bl.mpr rfl))⟩
  ·exact ⟨false,d1.bl,yr (hb ρ σ S1 H1 Q d (r.ext z1) x fun w S2 H2 z2 d2=>k w S2 H2 (z1.trans z2) d2)⟩
  ·cases x
theorem JV {ta:TE} {a:XE} (ha:SPk K ta a):SE K (IJ ta) (GA a):=fun ρ σ S H Q d r x k=>by
 unfold GA at x
 cases qa:a ρ with
 | none=>rw [qa] at x;cases x
 | some da=>
  rw [qa] at x
  dsimp only [Option.bind] at x
  refine ha ρ σ S H _ da r qa fun v S1 H1 z1 d1=>?_
  split at x
  ·cases x
   exact ⟨_,d1.bl,k _ S1 H1 z1 (den_bl.mpr rfl)⟩
  ·cases x
@[simp] noncomputable def N5 (c:XT) (a b:XE):XE:=fun ρ=>(c ρ).bind fun q=>if q = true then a ρ else b ρ
@[simp] noncomputable def xB (a:XE):XT:=fun ρ=>(a ρ).bind fun x=>match x with | .bl c=>some c | _=>none
theorem s_b {ta:TE} {a:XE} (ha:SPk K ta a):ST K (tB ta) (xB a):=fun ρ σ S H Q b r x k=>by
 unfold xB at x
 cases qa:a ρ with
 | none=>rw [qa] at x;cases x
 | some da=>
  rw [qa] at x
  dsimp only [Option.bind] at x
  refine ha ρ σ S H _ da r qa fun v S1 H1 z1 d1=>?_
  split at x
  ·cases x
   exact ⟨_,d1.bl,k S1 H1 z1⟩
  ·cases x
theorem bS {ta:TE} {a:XE} (ha:SPk K ta a):ST K (IL ta) (xB a):=s_b ha
noncomputable def zL:D -> Option Bool
 | .non=>some false
 | .bl b=>some b
 | .int i=>some (i != 0)
 | .str y=>if y.length <= LIM then some ((y.length:Int) != 0) else none
 | .lst l=>some (!l.isEmpty)
 | .tup l=>some (!l.isEmpty)
 | .scr l=>some (!l.isEmpty)
 | _=>none
theorem mq {ds:List D} {xs:List V} (h:Dens K S ds xs):(!ds.isEmpty) = !xs.isEmpty:=by
 have:=h.length
 cases ds <;> cases xs <;> simp_all
@[simp] noncomputable def pd (a:XE):XT:=fun ρ=>(a ρ).bind zL
theorem Gi {d:D} {v:V} {b:Bool} (s:Same S H) (h:DenP K S H d v) (x:zL d = some b):D4 K v H b:=by
 cases d with
 | non=>rw [h.non];cases x;rfl
 | bl c=>rw [h.bl];cases x;rfl
 | int i=>rw [h.int];cases x;rfl
 | str y=>
  rw [h.str]
  have x':(if y.length <= LIM then some ((y.length:Int) != 0) else none) = some b:=x
  split at x'
  ·rename_i hl;cases x';exact ⟨O4 (Pf hl eR),rfl⟩
  ·cases x'
 | lst l=>
  obtain ⟨p,xs,rfl,h1,h2⟩:=h.lst s
  cases x
  exact .inl ⟨xs,.inl h1,mq h2⟩
 | tup l=>
  obtain ⟨p,xs,rfl,h1,h2⟩:=h.tup s
  cases x
  exact .inr (.inl ⟨xs,h1,mq h2⟩)
 | scr l=>
  obtain ⟨p,xs,rfl,h1,h2⟩:=h.scr s
  cases x
  exact .inl ⟨xs,h1,mq h2⟩
 | _=>cases x
end
section
variable {K:W.Frag} {S S' H H':Hp}
theorem Lh {ta:TE} {a:XE} (ha:SPk K ta a):ST K (fun σ H Q=>ta σ H fun x H'=>∃ k,D4 K x H' k /\ Q k H') (pd a):=fun ρ σ S H Q b r x k=>by
 unfold pd at x
 cases qa:a ρ with
 | none=>rw [qa] at x;cases x
 | some da=>
  rw [qa] at x
  exact ha ρ σ S H _ da r qa fun v S1 H1 z1 d1=>⟨b,Gi z1.sub d1 x,k S1 H1 z1⟩
@[simp] noncomputable def xy (a b:XT):XT:=fun ρ=>(a ρ).bind fun x=>if x = true then b ρ else some false
@[simp] noncomputable def xOr (a b:XT):XT:=fun ρ=>(a ρ).bind fun x=>if x = true then some true else b ρ
@[simp] noncomputable def Gz (a:XT):XT:=fun ρ=>(a ρ).map fun x=>!x
theorem vP {ta tb:TT} {a b:XT} (ha:ST K ta a) (hb:ST K tb b):ST K (Lo ta tb) (xy a b):=fun ρ σ S H Q d r x k=>by
 unfold xy at x
 cases qa:a ρ with
 | none=>rw [qa] at x;cases x
 | some q=>
  rw [qa] at x
  dsimp only [Option.bind] at x
  refine ha ρ σ S H _ q r qa fun S1 H1 z1=>?_
  cases q with
  | true=>exact yt (hb ρ σ S1 H1 Q d (r.ext z1) (by simpa using x) fun S2 H2 z2=>k S2 H2 (z1.trans z2))
  | false=>
   have:d = false:=by simpa using x.symm
   subst this
   exact yr (k S1 H1 z1)
theorem FR {ta tb:TT} {a b:XT} (ha:ST K ta a) (hb:ST K tb b):ST K (tOr ta tb) (xOr a b):=fun ρ σ S H Q d r x k=>by
 unfold xOr at x
 cases qa:a ρ with
 | none=>rw [qa] at x;cases x
 | some q=>
  rw [qa] at x
  dsimp only [Option.bind] at x
  refine ha ρ σ S H _ q r qa fun S1 H1 z1=>?_
  cases q with
  | false=>exact yr (hb ρ σ S1 H1 Q d (r.ext z1) (by simpa using x) fun S2 H2 z2=>k S2 H2 (z1.trans z2))
  | true=>
   have:d = true:=by simpa using x.symm
   subst this
   exact yt (k S1 H1 z1)
theorem FQ {ta:TT} {a:XT} (ha:ST K ta a):ST K (Ls ta) (Gz a):=fun ρ σ S H Q d r x k=>by
 unfold Gz at x
 cases qa:a ρ with
 | none=>rw [qa] at x;cases x
 | some q=>
  rw [qa] at x
  cases x
  exact ha ρ σ S H _ q r qa k
inductive Out where
 | nx (ρ:Env) | rt (d:D) | ro (o:O) | bk (ρ:Env) | ct (ρ:Env)
noncomputable abbrev XS:=Env -> Option Out
noncomputable def Done (K:W.Frag) (A:Hp) (Λ:Nat -> Option Addr) (S:Hp) (E:Ends):Out -> Prop
 | .nx ρ=>∀ σ' S' H',RlA K A Λ ρ σ' S' H' -> Same S S' -> E.nx σ' H'
 | .bk ρ=>∀ σ' S' H',RlA K A Λ ρ σ' S' H' -> Same S S' -> E.bk σ' H'
 | .ct ρ=>∀ σ' S' H',RlA K A Λ ρ σ' S' H' -> Same S S' -> E.ct σ' H'
 | .rt d=>∀ v S' H',Same S S' -> Same S' H' -> Same A H' -> (∀ b,S' b = none \/ A b = none \/ ∃ u,A b = some u /\ IT u) -> Den K S' d v -> E.rt v H'
 | .ro o=>∀ v fp S' H',Same S S' -> Same S' H' -> Same A H' -> (∀ b,S' b = none \/ A b = none \/ ∃ u,A b = some u /\ IT u) -> Own K S' H' o v fp -> fp.Nodup -> (∀ b ∈ fp,S' b = none /\ A b = none) -> E.rt v H'
theorem Done.mono {A:Hp} {Λ:Nat -> Option Addr} {E:Ends} {o:Out} (s:Same S S') (h:Done K A Λ S E o):Done K A Λ S' E o:=by
 cases o with
 | nx ρ=>exact fun σ1 S1 H1 r z=>h σ1 S1 H1 r (s.trans z)
 | bk ρ=>exact fun σ1 S1 H1 r z=>h σ1 S1 H1 r (s.trans z)
 | ct ρ=>exact fun σ1 S1 H1 r z=>h σ1 S1 H1 r (s.trans z)
 | rt d=>exact fun v S1 H1 z=>h v S1 H1 (s.trans z)
 | ro d=>exact fun v fp S1 H1 z=>h v fp S1 H1 (s.trans z)
def SS (K:W.Frag) (t:TS) (m:XS):Prop:=∀ A Λ ρ σ S H (E:Ends) o,RlA K A Λ ρ σ S H -> m ρ = some o -> Done K A Λ S E o -> t E σ H
@[simp] noncomputable def jY:XS:=fun ρ=>some (.nx ρ)
theorem ip:SS K II jY:=fun A Λ ρ σ S H E o r x k=>by cases x;exact k σ S H r (Same.refl _)
@[simp] noncomputable def MK:XS:=fun ρ=>some (.bk ρ)
@[simp] noncomputable def Ni:XS:=fun ρ=>some (.ct ρ)
@[simp] noncomputable def Gx:XS:=fun _=>none
theorem HJ {t:TS}:SS K t Gx:=fun A Λ ρ σ S H E o r x k=>by cases x
@[simp] noncomputable def bd (m n:XS):XS:=fun ρ=>match m ρ with | some (.nx ρ')=>n ρ' | o=>o
theorem aN {t u:TS} {m n:XS} (ht:SS K t m) (hu:SS K u n):SS K (Lv t u) (bd m n):=fun A Λ ρ σ S H E o r x k=>by
 unfold bd at x
 cases q:m ρ with
 | none=>rw [q] at x;cases x
 | some om=>
  rw [q] at x
  refine ht A Λ ρ σ S H _ om r q ?_
  cases om with
  | nx ρ'=>exact fun σ' S' H' r' z=>hu A Λ ρ' σ' S' H' E o r' x (k.mono z)
  | rt d=>cases x;exact k
  | ro d=>cases x;exact k
  | bk d=>cases x;exact k
  | ct d=>cases x;exact k
@[simp] noncomputable def kS (e:XE):XS:=fun ρ=>(e ρ).map .rt
theorem gI {te:TE} {e:XE} (h:SE K te e):SS K (DR te) (kS e):=fun A Λ ρ σ S H E o r x k=>by
 unfold kS at x
 cases q:e ρ with
 | none=>rw [q] at x;cases x
 | some d=>
  rw [q] at x
  cases x
  refine h ρ σ S H _ d r.toRl q fun v S1 H1 z1 d1=>?_
  have r1:=r.ext z1
  exact k v S1 H1 z1.sh z1.sub r1.asub r1.adis d1
@[simp] noncomputable def GC (e:Env -> Option O):XS:=fun ρ=>(e ρ).map .ro
theorem JX {te:TE} {e:Env -> Option O} (h:STr K te e):SS K (DR te) (GC e):=fun A Λ ρ σ S H E o r x k=>by
 unfold GC at x
 cases q:e ρ with
 | none=>rw [q] at x;cases x
 | some ot=>
  rw [q] at x
  cases x
  refine h ρ σ S H _ ot r.toRl q fun v fp S1 H1 z1 o1 nd n=>?_
  have r1:=r.ext z1
  exact k v fp S1 H1 z1.sh z1.sub r1.asub r1.adis o1 nd fun b hb=>⟨(n b hb).2,r.asub.free (n b hb).1⟩
@[simp] noncomputable def zS (i:Nat):XS:=fun ρ=>match ρ[i]? with | some (.sh d)=>some (.rt d) | some (.ow o)=>some (.ro o) | _=>none
theorem Bd (i:Nat):SS K (DR (jI i)) (zS i):=fun A Λ ρ σ S H E o r x k=>by
 unfold zS at x
 cases q:ρ[i]? with
 | none=>rw [q] at x;cases x
 | some s=>
  rw [q] at x
  obtain ⟨Φ,f⟩:=r
  cases s with
  | un=>cases x
  | lo=>cases x
  | sh d=>
   cases x
   obtain ⟨v,h1,h2⟩:=f.sh i d q
   exact ⟨v,h1,k v S H (Same.refl _) f.sub f.asub f.adis h2⟩
  | ow ot=>
   cases x
   obtain ⟨v,h1,h2,h3,h4⟩:=f.ow i ot q
   exact ⟨v,h1,k v _ S H (Same.refl _) f.sub f.asub f.adis h2 h3 h4⟩
@[simp] noncomputable def Nu:XS:=fun _=>some (.rt .non)
@[simp] noncomputable def xIf (c:XT) (m n:XS):XS:=fun ρ=>(c ρ).bind fun b=>if b = true then m ρ else n ρ
theorem qK {tc:TT} {t u:TS} {c:XT} {m n:XS} (hc:ST K tc c) (ht:SS K t m) (hu:SS K u n):SS K (Lr tc t u) (xIf c m n):=fun A Λ ρ σ S H E o r x k=>by
 unfold xIf at x
 cases qc:c ρ with
 | none=>rw [qc] at x;cases x
 | some q=>
  rw [qc] at x
  dsimp only [Option.bind] at x
  refine hc ρ σ S H _ q r.toRl qc fun S1 H1 z1=>?_
  cases q with
  | true=>exact yt (ht A Λ ρ σ S1 H1 E o (r.ext z1) (by simpa using x) (k.mono z1.sh))
  | false=>exact yr (hu A Λ ρ σ S1 H1 E o (r.ext z1) (by simpa using x) (k.mono z1.sh))
theorem bv {α:Type} {l:List α} {i j:Nat} {x y:α} (h:(l.set i x)[j]? = some y):(i = j /\ y = x /\ i < l.length) \/ (i ≠ j /\ l[j]? = some y):=by
 by_cases hij:i = j
 ·subst hij
  have hl:=(O5.mp h).1
  rw [PQ] at hl
  rw [Qv hl] at h
  exact .inl ⟨rfl,(O2 h).symm,hl⟩
 ·rw [Pg hij] at h
  exact .inr ⟨hij,h⟩
theorem RlF.set {A:Hp} {Λ:Nat -> Option Addr} {Φ:Nat -> List Addr} {ρ:Env} {σ:St} {d:D} {v:V} (r:RlF K A Λ Φ ρ σ S H) (i:Nat) (h:Den K S d v):RlF K A Λ Φ (ρ.set i (.sh d)) (σ.set i (some v)) S H where
 len:=by rw [PQ,PQ];exact r.len
 sub:=r.sub
 sh:=fun j e hj=>by
  rcases bv hj with ⟨rfl,e,hl⟩ | ⟨hij,hj⟩
  ·cases e
   exact ⟨v,Qv (by rw [r.len];exact hl),h⟩
  ·rw [Pg hij]
   exact r.sh j e hj
 ow:=fun j o hj=>by
  rcases bv hj with ⟨rfl,e,hl⟩ | ⟨hij,hj⟩
  ·cases e
  ·rw [Pg hij]
   exact r.ow j o hj
 dj:=fun j k o o' hjk h1 h2=>by
  rcases bv h1 with ⟨rfl,e,hl⟩ | ⟨hij,h1⟩
  ·cases e
  ·rcases bv h2 with ⟨rfl,e,hl⟩ | ⟨hik,h2⟩
   ·cases e
   ·exact r.dj j k o o' hjk h1 h2
 lo:=fun j hj=>by
  rcases bv hj with ⟨rfl,e,hl⟩ | ⟨hij,hj⟩
  ·cases e
  ·rw [Pg hij]
   exact r.lo j hj
 asub:=r.asub
 adis:=r.adis
theorem RlA.set {A:Hp} {Λ:Nat -> Option Addr} {ρ:Env} {σ:St} {d:D} {v:V} (r:RlA K A Λ ρ σ S H) (i:Nat) (h:Den K S d v):RlA K A Λ (ρ.set i (.sh d)) (σ.set i (some v)) S H:=let ⟨Φ,f⟩:=r;⟨Φ,f.set i h⟩
theorem RlF.put {A:Hp} {Λ:Nat -> Option Addr} {Φ:Nat -> List Addr} {ρ:Env} {σ:St} {o:O} {v:V} {fp:List Addr} (r:RlF K A Λ Φ ρ σ S H) (i:Nat) (sub:Same S H') (asub:Same A H') (ow:Own K S H' o v fp) (nd:fp.Nodup) (n:∀ b ∈ fp,S b = none /\ A b = none)
  (keep:∀ (j:Nat) o',j ≠ i -> ρ[j]? = some (.ow o') -> ∀ b ∈ Φ j,H' b = H b /\ b ∉ fp):RlF K A Λ (fun j=>if j = i then fp else Φ j) (ρ.set i (.ow o)) (σ.set i (some v)) S H' where
 len:=by rw [PQ,PQ];exact r.len
 sub:=sub
 sh:=fun j e hj=>by
  rcases bv hj with ⟨rfl,e,hl⟩ | ⟨hij,hj⟩
  ·cases e
  ·rw [Pg hij]
   exact r.sh j e hj
 ow:=fun j o' hj=>by
  rcases bv hj with ⟨rfl,e,hl⟩ | ⟨hij,hj⟩
  ·cases e
   rw [Oj rfl]
   exact ⟨v,Qv (by rw [r.len];exact hl),ow,nd,n⟩
  ·rw [Pg hij,Oi (OQ hij)]
   obtain ⟨w,h1,h2,h3,h4⟩:=r.ow j o' hj
   exact ⟨w,h1,h2.mono (Same.refl _) fun b hb=>(keep j o' (OQ hij) hj b hb).1,h3,h4⟩
 dj:=fun j k o1 o2 hjk h1 h2 b hb hb2=>by
  rcases bv h1 with ⟨rfl,e,hl⟩ | ⟨hij,h1⟩
  ·rcases bv h2 with ⟨rfl,e,hl⟩ | ⟨hik,h2⟩
   ·exact hjk rfl
   ·rw [Oj rfl] at hb
    rw [Oi (OQ hik)] at hb2
    exact (keep k o2 (OQ hik) h2 b hb2).2 hb
  ·rcases bv h2 with ⟨rfl,e,hl⟩ | ⟨hik,h2⟩
   ·rw [Oj rfl] at hb2
    rw [Oi (OQ hij)] at hb
    exact (keep j o1 (OQ hij) h1 b hb).2 hb2
   ·rw [Oi (OQ hij)] at hb
    rw [Oi (OQ hik)] at hb2
    exact r.dj j k o1 o2 hjk h1 h2 b hb hb2
 lo:=fun j hj=>by
  rcases bv hj with ⟨rfl,e,hl⟩ | ⟨hij,hj⟩
  ·cases e
  ·rw [Pg hij]
   exact r.lo j hj
 asub:=asub
 adis:=r.adis
theorem tI {α:Type} {l:List α} {i:Nat} {x:α} (h:l[i]? = some x):l.set i x = l:=by
 apply QH
 intro j
 by_cases e:i = j
 ·subst e
  rw [Qv (O5.mp h).1,h]
 ·rw [Pg e]
noncomputable def frz (i:Nat) (ρ:Env):Env:=match ρ[i]? with | some (.ow o)=>ρ.set i (.sh o.d) | _=>ρ
theorem RlA.frz {A:Hp} {Λ:Nat -> Option Addr} {ρ:Env} {σ:St} (r:RlA K A Λ ρ σ S H) (i:Nat):∃ S',Same S S' /\ RlA K A Λ (frz i ρ) σ S' H:=by
 unfold M.frz
 cases q:ρ[i]? with
 | none=>exact ⟨S,Same.refl _,r⟩
 | some s=>
  cases s with
  | un=>exact ⟨S,Same.refl _,r⟩
  | lo=>exact ⟨S,Same.refl _,r⟩
  | sh d=>exact ⟨S,Same.refl _,r⟩
  | ow o=>
   dsimp only
   obtain ⟨Φ,f⟩:=r
   obtain ⟨v,h1,h2,h3,h4⟩:=f.ow i o q
   have s2:Same S (pZ S H (Φ i)):=oz fun b hb=>(h4 b hb).1
   have hd:Den K (pZ S H (Φ i)) o.d v:=h2.den s2 fun b hb=>k6 hb
   refine ⟨_,s2,Φ,?_⟩
   exact {
    len:=by rw [PQ];exact f.len
    sub:=ym f.sub
    sh:=fun j d hj=>by
     rcases bv hj with ⟨rfl,e,hl⟩ | ⟨hij,hj⟩
     ·cases e
      exact ⟨v,h1,hd⟩
     ·obtain ⟨w,k1,k2⟩:=f.sh j d hj
      exact ⟨w,k1,k2.mono s2⟩
    ow:=fun j o' hj=>by
     rcases bv hj with ⟨rfl,e,hl⟩ | ⟨hij,hj⟩
     ·cases e
     ·obtain ⟨w,k1,k2,k3,k4⟩:=f.ow j o' hj
      exact ⟨w,k1,k2.mono s2 fun _ _=>rfl,k3,fun b hb=>⟨by rw [ei fun hi=>f.dj i j o o' hij q hj b hi hb];exact (k4 b hb).1,(k4 b hb).2⟩⟩
    dj:=fun j k o1 o2 hjk g1 g2=>by
     rcases bv g1 with ⟨rfl,e,hl⟩ | ⟨hij,g1⟩
     ·cases e
     ·rcases bv g2 with ⟨rfl,e,hl⟩ | ⟨hik,g2⟩
      ·cases e
      ·exact f.dj j k o1 o2 hjk g1 g2
    lo:=fun j hj=>by
     rcases bv hj with ⟨rfl,e,hl⟩ | ⟨hij,hj⟩
     ·cases e
     ·exact f.lo j hj
    asub:=f.asub
    adis:=fun b=>by
     by_cases hb:b ∈ Φ i
     ·exact .inr (.inl (h4 b hb).2)
     ·rw [ei hb];exact f.adis b }
@[simp] noncomputable def LH (i:Nat) (m:XS):XS:=fun ρ=>m (frz i ρ)
theorem Lf {t:TS} {m:XS} (i:Nat) (h:SS K t m):SS K t (LH i m):=fun A Λ ρ σ S H E o r x k=>by
 obtain ⟨S',s,r'⟩:=r.frz i
 exact h A Λ _ σ S' H E o r' x (k.mono s)
noncomputable abbrev XG:=D -> Env -> Option Env
noncomputable abbrev XGs:=List D -> Env -> Option Env
def SG (K:W.Frag) (g:TG) (x:XG):Prop:=∀ A Λ ρ σ S H v d (Q:St -> Hp -> Prop) ρ',RlA K A Λ ρ σ S H -> Den K S d v -> x d ρ = some ρ' -> (∀ σ',RlA K A Λ ρ' σ' S H -> Q σ' H) -> g v σ H Q
def SGs (K:W.Frag) (g:TGs) (x:XGs):Prop:=∀ A Λ ρ σ S H vs ds (Q:St -> Hp -> Prop) ρ',RlA K A Λ ρ σ S H -> Dens K S ds vs -> x ds ρ = some ρ' -> (∀ σ',RlA K A Λ ρ' σ' S H -> Q σ' H) -> g vs σ H Q
@[simp] noncomputable def ag (i:Nat):XG:=fun d ρ=>some (ρ.set i (.sh d))
noncomputable def aX:XGs:=fun ds ρ=>match ds with | []=>some ρ | _=>none
noncomputable def ao (x:XG) (y:XGs):XGs:=fun ds ρ=>match ds with | d :: r=>(x d ρ).bind (y r) | []=>none
noncomputable def aU (y:XGs):XG:=fun d ρ=>match d with | .tup l=>y l ρ | .mtp l=>y l ρ | _=>none
theorem ar (i:Nat):SG K (kx i) (ag i):=fun A Λ ρ σ S H v d Q ρ' r dv x k=>by cases x;exact k _ (r.set i dv)
theorem dZ:SGs K Jm aX:=fun A Λ ρ σ S H vs ds Q ρ' r dv x k=>by
 cases ds with
 | nil=>cases x;exact ⟨dv.nil_of,k σ r⟩
 | cons _ _=>cases x
theorem aJ {g:TG} {gs:TGs} {x:XG} {y:XGs} (h:SG K g x) (hs:SGs K gs y):SGs K (EB g gs) (ao x y):=fun A Λ ρ σ S H vs ds Q ρ' r dv e k=>by
 cases ds with
 | nil=>cases e
 | cons d ds=>
  obtain ⟨v,vs,rfl,h1,h2⟩:=dv.cons_of
  have e':(x d ρ).bind (y ds) = some ρ':=e
  cases q:x d ρ with
  | none=>rw [q] at e';cases e'
  | some ρ1=>
   rw [q] at e'
   exact ⟨v,vs,rfl,h A Λ ρ σ S H v d _ ρ1 r h1 q fun σ1 r1=>hs A Λ ρ1 σ1 S H vs ds Q ρ' r1 h2 e' k⟩
def yy (y:XGs) (n:Nat):Prop:=∀ ds ρ ρ',y ds ρ = some ρ' -> ds.length = n
theorem cE:yy aX 0:=fun ds ρ ρ' e=>by cases ds with | nil=>rfl | cons _ _=>cases e
theorem aF {x:XG} {y:XGs} {n:Nat} (h:yy y n):yy (ao x y) (n + 1):=fun ds ρ ρ' e=>by
 cases ds with
 | nil=>cases e
 | cons d ds=>
  have e':(x d ρ).bind (y ds) = some ρ':=e
  cases q:x d ρ with
  | none=>rw [q] at e';cases e'
  | some ρ1=>rw [q] at e';rw [Ow,h ds ρ1 ρ' e']
theorem fE {gs:TGs} {y:XGs} {n:Nat} (hs:SGs K gs y) (hl:yy y n):SG K (G4 K n gs) (aU y):=fun A Λ ρ σ S H v d Q ρ' r dv e k=>by
 cases d with
 | tup l=>
  obtain ⟨p,xs,rfl,h1,h2⟩:=gr dv
  exact ⟨p,xs,rfl,a8 r.sub h1,by rw [<- h2.length];exact hl l ρ ρ' e,hs A Λ ρ σ S H xs l Q ρ' r h2 e k⟩
 | mtp l=>
  obtain ⟨p,xs,rfl,h1,h2⟩:=den_mtp.mp dv
  exact ⟨p,xs,rfl,a8 r.sub h1,by rw [<- h2.length];exact hl l ρ ρ' e,hs A Λ ρ σ S H xs l Q ρ' r h2 e k⟩
 | _=>cases e
@[simp] noncomputable def fS (e:XE) (g:XG):XS:=fun ρ=>(e ρ).bind fun d=>(g d ρ).map .nx
theorem du {te:TE} {g:TG} {e:XE} {x:XG} (h:SE K te e) (hg:SG K g x):SS K (zE te g) (fS e x):=fun A Λ ρ σ S H E o r y k=>by
 unfold fS at y
 cases q:e ρ with
 | none=>rw [q] at y;cases y
 | some d=>
  rw [q] at y
  dsimp only [Option.bind] at y
  cases q2:x d ρ with
  | none=>rw [q2] at y;cases y
  | some ρ'=>
   rw [q2] at y
   cases y
   exact h ρ σ S H _ d r.toRl q fun v S1 H1 z1 d1=>hg A Λ ρ σ S1 H1 v d _ ρ' (r.ext z1) d1 q2 fun σ' r'=>k σ' S1 H1 r' z1.sh
@[simp] noncomputable def wa (e:Env -> Option O) (i:Nat):XS:=fun ρ=>(e ρ).map fun o=>.nx (ρ.set i (.ow o))
theorem Ba {te:TE} {e:Env -> Option O} {i:Nat} (h:STr K te e):SS K (zE te (kx i)) (wa e i):=fun A Λ ρ σ S H E o r y k=>by
 unfold wa at y
 cases q:e ρ with
 | none=>rw [q] at y;cases y
 | some ot=>
  rw [q] at y
  cases y
  obtain ⟨Φ,f⟩:=r
  refine h ρ σ S H _ ot ⟨A,Λ,Φ,f⟩ q fun v fp S1 H1 z1 o1 nd n=>?_
  have r1:=f.ext z1
  refine k _ S1 H1 ⟨_,r1.put (H':=H1) i r1.sub r1.asub o1 nd (fun b hb=>⟨(n b hb).2,f.asub.free (n b hb).1⟩) fun j o' hj e1 b hb=>⟨rfl,fun hf=>?_⟩⟩ z1.sh
  obtain ⟨w,_,k2,_,_⟩:=f.ow j o' e1
  exact k2.there b hb (n b hf).1
@[simp] noncomputable def iT (e:XA) (i:Nat):XS:=wa (xLT e) i
theorem fR {te:TE} {e:XA} {i:Nat} (h:SF K te e):SS K (zE te (kx i)) (iT e i):=Ba h.t
noncomputable def dD:O -> List Int -> Option O
 | o,[]=>some o
 | .lst l,k :: r=>(atI l k).bind fun o=>dD o r
 | .tup l,k :: r=>(atI l k).bind fun o=>dD o r
 | .sh _,_ :: _=>none
 | .dic _,_ :: _=>none
 | .hd _ _ _,_ :: _=>none
noncomputable def tq (l:List O) (k:Int) (f:O -> O):List O:=match ixN l.length k with
 | some j=>(match l[j]? with | some o=>l.set j (f o) | none=>l)
 | none=>l
noncomputable def iL:O -> List Int -> O -> O
 | _,[],q=>q
 | .lst l,k :: r,q=>.lst (tq l k fun o=>iL o r q)
 | .tup l,k :: r,q=>.tup (tq l k fun o=>iL o r q)
 | .sh d,_ :: _,_=>.sh d
 | .dic d,_ :: _,_=>.dic d
 | .hd p d l,_ :: _,_=>.hd p d l
noncomputable def WalkV (H:Hp):V -> List Int -> V -> Prop
 | v,[],w=>v = w
 | v,k :: r,w=>∃ a xs u,v = .ref a /\ (H a = some (.lst xs) \/ H a = some (.tup xs)) /\ atI xs k = some u /\ WalkV H u r w
theorem WalkV.mono (s:Same H H'):∀ {p:List Int} {v w:V},WalkV H v p w -> WalkV H' v p w
 | [],_,_,h=>h
 | _ :: _,_,_,⟨a,xs,u,e,h,k,m⟩=>⟨a,xs,u,e,h.elim (fun z=>.inl (s _ _ z)) (fun z=>.inr (s _ _ z)),k,m.mono s⟩
theorem WalkV.uniq:∀ {p:List Int} {v w w':V},WalkV H v p w -> WalkV H v p w' -> w = w'
 | [],_,_,_,h,k=>h.symm.trans k
 | _ :: _,_,_,_,hpt0,hpt1=>by
  obtain ⟨a,xs,u,e,h,k,m⟩:=hpt0
  obtain ⟨a',xs',u',e',h',k',m'⟩:=hpt1
  rw [e] at e'
  cases e'
  have:xs = xs':=by
   rcases h with h | h <;> rcases h' with h' | h' <;> rw [h] at h' <;> cases h' <;> rfl
  subst this
  rw [k] at k'
  cases k'
  exact m.uniq m'
theorem WalkV.snoc:∀ {p:List Int} {v w u:V} {k:Int} {a:Addr} {xs:List V},WalkV H v p w -> w = .ref a -> (H a = some (.lst xs) \/ H a = some (.tup xs)) -> atI xs k = some u -> WalkV H v (p ++ [k]) u
 | [],_,_,u,k,a,xs,h,e,h1,h2=>⟨a,xs,u,h.trans e,h1,h2,rfl⟩
 | _ :: _,_,_,_,_,_,_,⟨b,ys,u',e,h,k,m⟩,e',h1,h2=>⟨b,ys,u',e,h,k,m.snoc e' h1 h2⟩
theorem o8:∀ {p:List Int} {o q:O} {k:Int},dD o (p ++ [k]) = some q -> ∃ q0,dD o p = some q0 /\ dD q0 [k] = some q
 | [],o,q,k,h=>⟨o,by unfold dD;rfl,h⟩
 | j :: p,o,q,k,h=>by
  cases o with
  | sh d=>cases h
  | dic _=>cases h
  | hd _ _ _=>cases h
  | lst l=>
   have h':(atI l j).bind (fun o=>dD o (p ++ [k])) = some q:=h
   cases e:atI l j with
   | none=>rw [e] at h';cases h'
   | some o1=>
    rw [e] at h'
    obtain ⟨q0,a,b⟩:=o8 (p:=p) h'
    exact ⟨q0,by show (atI l j).bind (fun o=>dD o p) = some q0;rw [e];exact a,b⟩
  | tup l=>
   have h':(atI l j).bind (fun o=>dD o (p ++ [k])) = some q:=h
   cases e:atI l j with
   | none=>rw [e] at h';cases h'
   | some o1=>
    rw [e] at h'
    obtain ⟨q0,a,b⟩:=o8 (p:=p) h'
    exact ⟨q0,by show (atI l j).bind (fun o=>dD o p) = some q0;rw [e];exact a,b⟩
theorem Owns.split:∀ {l:List O} {xs:List V} {f:List Addr} {j:Nat} {o:O},Owns K S H l xs f -> l[j]? = some o -> ∃ x f1 f2 f3,xs[j]? = some x /\ f = f1 ++ (f2 ++ f3) /\ Own K S H o x f2 /\
  ∀ H' o' f2',Own K S H' o' x f2' -> (∀ b ∈ f1,H' b = H b) -> (∀ b ∈ f3,H' b = H b) -> Owns K S H' (l.set j o') xs (f1 ++ (f2' ++ f3))
 | [],_,_,_,_,_,e=>by simp at e
 | o0 :: l,_,_,0,o,h,e=>by
  obtain ⟨y,ys,f,g,rfl,rfl,a,b⟩:=h.cons_of
  simp at e;subst e
  exact ⟨y,[],f,g,rfl,rfl,a,fun H' o' f2' h1 _ h3=>Owns.cons (f:=f2') h1 (b.mono (Same.refl _) h3)⟩
 | o0 :: l,_,_,j + 1,o,h,e=>by
  obtain ⟨y,ys,f,g,rfl,rfl,a,b⟩:=h.cons_of
  obtain ⟨x,f1,f2,f3,e1,rfl,h1,h2⟩:=b.split (j:=j) (by simpa using e)
  refine ⟨x,f ++ f1,f2,f3,by simpa using e1,by rw [OV],h1,fun H' o' f2' k1 k2 k3=>?_⟩
  rw [OV]
  exact .cons (a.mono (Same.refl _) fun b hb=>k2 b (OH _ hb)) (h2 H' o' f2' k1 (fun b hb=>k2 b (OB _ hb)) k3)
theorem z9 {α:Type} {l:List α} {k:Int} {x:α} (h:atI l k = some x):∃ j,ixN l.length k = some j /\ l[j]? = some x:=by
 unfold atI at h
 cases q:ixN l.length k with
 | none=>rw [q] at h;cases h
 | some j=>rw [q] at h;exact ⟨j,rfl,h⟩
theorem Ez:∀ {p:List Int} {o q:O} {v:V} {fp:List Addr},Own K S H o v fp -> fp.Nodup -> dD o p = some q -> ∃ w fq,Own K S H q w fq /\ WalkV H v p w /\ (∀ b ∈ fq,b ∈ fp) /\ fq.Nodup /\
  ∀ H' q' fq',Own K S H' q' w fq' -> fq'.Nodup -> (∀ b ∈ fp,b ∉ fq -> H' b = H b) -> (∀ b ∈ fq',b ∈ fp -> b ∈ fq) -> ∃ fp',Own K S H' (iL o p q') v fp' /\ fp'.Nodup /\ ∀ b ∈ fp',b ∈ fp \/ b ∈ fq'
 | [],o,q,v,fp,h,nd,e=>by
  have e':some o = some q:=by unfold dD at e;exact e
  cases e'
  exact ⟨v,fp,h,rfl,fun b hb=>hb,nd,fun H' q' fq' h1 n1 _ _=>⟨fq',by unfold iL;exact h1,n1,fun b hb=>.inr hb⟩⟩
 | k :: r,o,q,v,fp,h,nd,e=>by
  have body:∀ (l:List O) (a:Addr) (xs:List V) (f:List Addr),v = .ref a -> fp = a :: f -> (H a = some (.lst xs) \/ H a = some (.tup xs)) -> Owns K S H l xs f -> ((atI l k).bind fun o=>dD o r) = some q ->
    ∃ w fq,Own K S H q w fq /\ WalkV H v (k :: r) w /\ (∀ b ∈ fq,b ∈ fp) /\ fq.Nodup /\ ∀ H' q' fq',Own K S H' q' w fq' -> fq'.Nodup -> (∀ b ∈ fp,b ∉ fq -> H' b = H b) -> (∀ b ∈ fq',b ∈ fp -> b ∈ fq) ->
     ∃ f',Owns K S H' (tq l k fun o=>iL o r q') xs f' /\ H' a = H a /\ (a :: f').Nodup /\ ∀ b ∈ a :: f',b ∈ fp \/ b ∈ fq':=by
   rintro l a xs f rfl rfl ha hl hs
   obtain ⟨na,nf⟩:=OL.mp nd
   cases qa:atI l k with
   | none=>rw [qa] at hs;cases hs
   | some o1=>
    rw [qa] at hs
    obtain ⟨j,ej,el⟩:=z9 qa
    obtain ⟨x,f1,f2,f3,ex,rfl,h1,h2⟩:=hl.split el
    obtain ⟨n1,n23,d1⟩:=Pr.mp nf
    obtain ⟨n2,n3,d2⟩:=Pr.mp n23
    obtain ⟨w,fq,k1,k2,k3,k4,k5⟩:=Ez (p:=r) h1 n2 hs
    have ax:atI xs k = some x:=by unfold atI;rw [<- hl.length,ej];exact ex
    refine ⟨w,fq,k1,⟨a,xs,x,rfl,ha,ax,k2⟩,fun b hb=>Ou _ (OB _ (OH _ (k3 b hb))),k4,fun H' q' fq' g1 g2 g3 g4=>?_⟩
    have in2:∀ b ∈ fq,b ∈ f2:=k3
    have a1:∀ b ∈ f1,b ∉ fq:=fun b hb hq=>d1 b hb b (OH _ (in2 b hq)) rfl
    have a3:∀ b ∈ f3,b ∉ fq:=fun b hb hq=>d2 b (in2 b hq) b hb rfl
    have aa:a ∉ fq:=fun hq=>na (OB _ (OH _ (in2 a hq)))
    obtain ⟨f2',m1,m2,m3⟩:=k5 H' q' fq' g1 g2 (fun b hb hn=>g3 b (Ou _ (OB _ (OH _ hb))) hn) fun b hb hp=>g4 b hb (Ou _ (OB _ (OH _ hp)))
    have out:∀ b ∈ f2',b ∉ f1 /\ b ∉ f3 /\ b ≠ a:=fun b hb=>by
     rcases m3 b hb with hb | hb
     ·exact ⟨fun z=>d1 b z b (OH _ hb) rfl,fun z=>d2 b hb b z rfl,fun z=>na (z ▸ OB _ (OH _ hb))⟩
     ·refine ⟨fun z=>a1 b z (g4 b hb (Ou _ (OH _ z))),fun z=>a3 b z (g4 b hb (Ou _ (OB _ (OB _ z)))),fun z=>?_⟩
      subst z
      exact aa (g4 b hb Oq)
    refine ⟨f1 ++ (f2' ++ f3),?_,g3 a Oq aa,?_,fun b hb=>?_⟩
    ·unfold tq
     rw [ej]
     dsimp only
     rw [el]
     exact h2 H' _ f2' m1 (fun b hb=>g3 b (Ou _ (OH _ hb)) (a1 b hb)) fun b hb=>g3 b (Ou _ (OB _ (OB _ hb))) (a3 b hb)
    ·refine OL.mpr ⟨fun z=>?_,Pr.mpr ⟨n1,Pr.mpr ⟨m2,n3,fun b hb c hc e=>(out b hb).2.1 (e ▸ hc)⟩,fun b hb c hc e=>?_⟩⟩
     ·rcases OC.mp z with z | z
      ·exact na (OH _ z)
      ·rcases OC.mp z with z | z
       ·exact (out a z).2.2 rfl
       ·exact na (OB _ (OB _ z))
     ·subst e
      rcases OC.mp hc with hc | hc
      ·exact (out b hc).1 hb
      ·exact d1 b hb b (OB _ hc) rfl
    ·rcases Oy.mp hb with rfl | hb
     ·exact .inl Oq
     ·rcases OC.mp hb with hb | hb
      ·exact .inl (Ou _ (OH _ hb))
      ·rcases OC.mp hb with hb | hb
       ·exact (m3 b hb).imp (fun z=>Ou _ (OB _ (OH _ z))) id
       ·exact .inl (Ou _ (OB _ (OB _ hb)))
  cases o with
  | sh d=>cases e
  | dic _=>cases e
  | hd _ _ _=>cases e
  | lst l=>
   obtain ⟨a,xs,f,e1,e2,h1,h2⟩:=own_lst.mp h
   obtain ⟨w,fq,k1,k2,k3,k4,k5⟩:=body l a xs f e1 e2 (.inl h1) h2 e
   refine ⟨w,fq,k1,k2,k3,k4,fun H' q' fq' g1 g2 g3 g4=>?_⟩
   obtain ⟨f',m1,m2,m3,m4⟩:=k5 H' q' fq' g1 g2 g3 g4
   exact ⟨a :: f',by unfold iL;exact own_lst.mpr ⟨a,xs,f',e1,rfl,by rw [m2];exact h1,m1⟩,m3,m4⟩
  | tup l=>
   obtain ⟨a,xs,f,e1,e2,h1,h2⟩:=own_tup.mp h
   obtain ⟨w,fq,k1,k2,k3,k4,k5⟩:=body l a xs f e1 e2 (.inr h1.1) h2 e
   refine ⟨w,fq,k1,k2,k3,k4,fun H' q' fq' g1 g2 g3 g4=>?_⟩
   obtain ⟨f',m1,m2,m3,m4⟩:=k5 H' q' fq' g1 g2 g3 g4
   exact ⟨a :: f',by unfold iL;exact own_tup.mpr ⟨a,xs,f',e1,rfl,⟨by rw [m2];exact h1.1,h1.2⟩,m1⟩,m3,m4⟩
noncomputable abbrev XP:=Env -> Option (List Int)
def CA (K:W.Frag) (to:TE) (i:Nat) (p:XP):Prop:=∀ ρ σ S H (Q:VK) is o q,Rl K ρ σ S H -> ρ[i]? = some (.ow o) -> p ρ = some is -> dD o is = some q -> (∀ v w S' H',σ[i]? = some (some v) -> Ext S H S' H' -> WalkV H' v is w -> Q w H') -> to σ H Q
@[simp] noncomputable def xPv:XP:=fun _=>some []
theorem iJ (i:Nat):CA K (jI i) i xPv:=fun ρ σ S H Q is o q r h1 h2 h3 k=>by
 cases h2
 obtain ⟨v,fp,e,_⟩:=r.ow i o h1
 exact ⟨v,e,k v v S H e (Ext.refl r.sub) rfl⟩
@[simp] noncomputable def xPi (p:XP) (ix:XE):XP:=fun ρ=>(p ρ).bind fun is=>(ix ρ).bind fun d=>match d with | .int k=>some (is ++ [k]) | _=>none
theorem KN {to ti:TE} {i:Nat} {p:XP} {ix:XE} (hp:CA K to i p) (hi:SPk K ti ix):CA K (tOp (rIx K) to ti) i (xPi p ix):=fun ρ σ S H Q is o q r h1 h2 h3 k=>by
 unfold xPi at h2
 cases e1:p ρ with
 | none=>rw [e1] at h2;cases h2
 | some js=>
  rw [e1] at h2
  dsimp only [Option.bind] at h2
  cases e2:ix ρ with
  | none=>rw [e2] at h2;cases h2
  | some d=>
   rw [e2] at h2
   cases d with
   | int kk=>
    cases h2
    obtain ⟨q0,s1,s2⟩:=o8 h3
    refine hp ρ σ S H _ js o q0 r h1 e1 s1 fun v w S1 H1 ev z1 wk=>?_
    have r1:=r.ext z1
    refine hi ρ σ S1 H1 _ _ r1 e2 fun u S2 H2 z2 d2=>?_
    have r2:=r1.ext z2
    obtain ⟨v',fp,ev',ow,nd,_⟩:=r2.ow i o h1
    rw [ev] at ev'
    cases ev'
    obtain ⟨w',fq,k1,k2,_⟩:=Ez ow nd s1
    have ew:=k2.uniq (wk.mono (z2.same r1.sub))
    subst ew
    rw [d2.int]
    cases q0 with
    | sh _=>cases s2
    | dic _=>cases s2
    | hd _ _ _=>cases s2
    | lst l=>
     have s2':(atI l kk).bind (fun o=>dD o []) = some q:=s2
     cases e3:atI l kk with
     | none=>rw [e3] at s2';cases s2'
     | some o1=>
      obtain ⟨a,xs,f,rfl,rfl,hx,hl⟩:=own_lst.mp k1
      obtain ⟨j,ej,el⟩:=z9 e3
      obtain ⟨x,_,_,_,ex,_⟩:=hl.split el
      have ax:atI xs kk = some x:=by unfold atI;rw [<- hl.length,ej];exact ex
      exact .inl ⟨a,xs,kk,x,rfl,rfl,SqL.of hx,ax,k v x S2 H2 ev (z1.trans z2) (k2.snoc rfl (.inl hx) ax)⟩
    | tup l=>
     have s2':(atI l kk).bind (fun o=>dD o []) = some q:=s2
     cases e3:atI l kk with
     | none=>rw [e3] at s2';cases s2'
     | some o1=>
      obtain ⟨a,xs,f,rfl,rfl,⟨hx,_⟩,hl⟩:=own_tup.mp k1
      obtain ⟨j,ej,el⟩:=z9 e3
      obtain ⟨x,_,_,_,ex,_⟩:=hl.split el
      have ax:atI xs kk = some x:=by unfold atI;rw [<- hl.length,ej];exact ex
      exact .inr (.inl ⟨a,xs,kk,x,rfl,rfl,SqT.of hx,ax,k v x S2 H2 ev (z1.trans z2) (k2.snoc rfl (.inr hx) ax)⟩)
   | _=>cases h2
theorem RlF.at {A:Hp} {Λ:Nat -> Option Addr} {Φ:Nat -> List Addr} {ρ:Env} {σ:St} {i:Nat} {o:O} {is:List Int} {l:List O} {v w:V} (f:RlF K A Λ Φ ρ σ S H) (h1:ρ[i]? = some (.ow o)) (h2:dD o is = some (.lst l)) (ev:σ[i]? = some (some v)) (wk:WalkV H v is w) :
  ∃ a xs f0,w = .ref a /\ H a = some (.lst xs) /\ Owns K S H l xs f0 /\ (a :: f0).Nodup /\ (∀ b ∈ a :: f0,b ∈ Φ i) /\ ∀ l' xs' f',(∀ H',(∀ b,b ≠ a -> H' b = H b) -> Owns K S H' l' xs' f') -> (a :: f').Nodup -> (∀ b ∈ f',b ∈ f0 \/ ((∀ (j:Nat) o',ρ[j]? = some (.ow o') -> b ∉ Φ j) /\ S b = none /\ A b = none)) ->
   RlA K A Λ (ρ.set i (.ow (iL o is (.lst l')))) σ S (upd H a (.lst xs')):=by
 obtain ⟨v',e',ow,nd,n⟩:=f.ow i o h1
 rw [ev] at e'
 cases e'
 obtain ⟨w',fq,k1,k2,k3,k4,k5⟩:=Ez ow nd h2
 have ew:=k2.uniq wk
 subst ew
 obtain ⟨a,xs,g,rfl,rfl,hx,hl⟩:=own_lst.mp k1
 have ain:=k3 a Oq
 refine ⟨a,xs,g,rfl,hx,hl,k4,k3,fun l' xs' f' g1 g2 g3=>?_⟩
 have ne:∀ b,b ≠ a -> upd H a (.lst xs') b = H b:=fun b hb=>aB hb
 obtain ⟨fp',m1,m2,m3⟩:=k5 (upd H a (.lst xs')) (.lst l') (a :: f') (own_lst.mpr ⟨a,xs',f',rfl,rfl,aD,g1 _ ne⟩) g2 (fun b hb hn=>ne b fun z=>hn (z ▸ Oq)) fun b hb hp=>by
  rcases Oy.mp hb with rfl | hb
  ·exact Oq
  ·rcases g3 b hb with z | ⟨z,_⟩
   ·exact Ou _ z
   ·exact absurd hp (z i o h1)
 have sub':Same S (upd H a (.lst xs')):=fun b u e=>by rw [ne b fun z=>by subst z;rw [(n b ain).1] at e;cases e];exact f.sub b u e
 have asub':Same A (upd H a (.lst xs')):=fun b u e=>by rw [ne b fun z=>by subst z;rw [(n b ain).2] at e;cases e];exact f.asub b u e
 have fin:=f.put (H':=upd H a (.lst xs')) i sub' asub' m1 m2 (fun b hb=>by
  rcases m3 b hb with z | z
  ·exact n b z
  ·rcases Oy.mp z with rfl | z
   ·exact n b ain
   ·rcases g3 b z with z | ⟨_,z⟩
    ·exact n b (k3 b (Ou _ z))
    ·exact z) fun j o' hj e1 b hb=>by
   have nb:b ∉ Φ i:=fun z=>f.dj j i o' o hj e1 h1 b hb z
   refine ⟨ne b fun z=>nb (z ▸ ain),fun z=>?_⟩
   rcases m3 b z with z | z
   ·exact nb z
   ·rcases Oy.mp z with rfl | z
    ·exact nb ain
    ·rcases g3 b z with z | ⟨z,_⟩
     ·exact nb (k3 b (Ou _ z))
     ·exact z j o' e1 hb
 rw [tI ev] at fin
 exact ⟨_,fin⟩
theorem RlF.fresh {A:Hp} {Λ:Nat -> Option Addr} {Φ:Nat -> List Addr} {ρ:Env} {σ:St} {b:Addr} (f:RlF K A Λ Φ ρ σ S H) (h:H b = none):(∀ (j:Nat) o',ρ[j]? = some (.ow o') -> b ∉ Φ j) /\ S b = none /\ A b = none:=
 ⟨fun j o' e hb=>by obtain ⟨_,_,ow,_⟩:=f.ow j o' e;exact ow.there b hb h,f.sub.free h,f.asub.free h⟩
@[simp] noncomputable def jX (i:Nat) (p:XP) (e:Env -> Option O):XS:=fun ρ=>match ρ[i]? with
 | some (.ow o)=>(p ρ).bind fun is=>(e ρ).bind fun x=>match dD o is with
  | some (.lst l)=>if l.length < LIM then some (.nx (ρ.set i (.ow (iL o is (.lst (l ++ [x])))))) else none
  | _=>none
 | _=>none
theorem jE {to te:TE} {i:Nat} {p:XP} {e:Env -> Option O} (hp:CA K to i p) (h:STr K te e):SS K (zG (tBM K "list" rAppend to (eK te nP))) (jX i p e):=fun A Λ ρ σ S H E out r y k=>by
 unfold jX at y
 cases q0:ρ[i]? with
 | none=>rw [q0] at y;cases y
 | some s=>
  rw [q0] at y
  cases s with
  | un=>cases y
  | lo=>cases y
  | sh d=>cases y
  | ow o=>
   dsimp only at y
   cases q1:p ρ with
   | none=>rw [q1] at y;cases y
   | some is=>
    rw [q1] at y
    dsimp only [Option.bind] at y
    cases q2:e ρ with
    | none=>rw [q2] at y;cases y
    | some x=>
     rw [q2] at y
     dsimp only at y
     cases q3:dD o is with
     | none=>rw [q3] at y;cases y
     | some qo=>
      rw [q3] at y
      cases qo with
      | sh _=>cases y
      | dic _=>cases y
      | hd _ _ _=>cases y
      | tup _=>cases y
      | lst l=>
       dsimp only at y
       split at y
       ·rename_i hl
        cases y
        obtain ⟨Φ,f⟩:=r
        refine hp ρ σ S H _ is o _ ⟨A,Λ,Φ,f⟩ q0 q1 q3 fun v w S1 H1 ev z1 wk=>?_
        have f1:=f.ext z1
        obtain ⟨a,xs,g0,rfl,hx,hw,nd0,in0,_⟩:=f1.at q0 q3 ev wk
        refine ⟨.inl ⟨rfl,xs,SqL.of hx⟩,h ρ σ S1 H1 _ x ⟨A,Λ,Φ,f1⟩ q2 fun u fu S2 H2 z2 ou nd n=>?_⟩
        have f2:=f1.ext z2
        obtain ⟨a',xs',g1,e1,hx',hw',nd1,in1,up⟩:=f2.at q0 q3 ev (wk.mono (z2.same f1.sub))
        cases e1
        have fr:∀ b ∈ fu,(∀ (j:Nat) o',ρ[j]? = some (.ow o') -> b ∉ Φ j) /\ S2 b = none /\ A b = none:=fun b hb=>⟨(f1.fresh (n b hb).1).1,(n b hb).2,(f1.fresh (n b hb).1).2.2⟩
        have fa:∀ b ∈ fu,b ∉ a :: g1:=fun b hb z=>(fr b hb).1 i o q0 (in1 b z)
        obtain ⟨na,ng⟩:=OL.mp nd1
        refine ⟨a,xs',u,rfl,rfl,hx',?_,?_⟩
        ·rw [<- hw'.length];exact Q6 hl eR
        ·refine k σ S2 _ (up (l ++ [x]) (xs' ++ [u]) (g1 ++ fu) (fun H' ne=>?_) ?_ fun b hb=>?_) (z1.sh.trans z2.sh)
         ·have:=(hw'.mono (H':=H') (Same.refl _) fun b hb=>ne b fun z=>na (z ▸ hb)).append (.cons (ou.mono (H':=H') (Same.refl _) fun b hb=>ne b fun z=>fa b hb (z ▸ Oq)) .nil)
          rw [OZ] at this
          exact this
         ·refine OL.mpr ⟨fun z=>?_,Pr.mpr ⟨ng,nd,fun b hb c hc e=>fa c hc (e ▸ Ou _ hb)⟩⟩
          rcases OC.mp z with z | z
          ·exact na z
          ·exact fa a z Oq
         ·rcases OC.mp hb with hb | hb
          ·exact .inl hb
          ·exact .inr (fr b hb)
       ·cases y
@[simp] noncomputable def Nt (i:Nat) (p:XP) (j:Nat):XS:=fun ρ=>match ρ[i]? with
 | some (.ow o)=>(p ρ).bind fun is=>match dD o is with
  | some (.lst l)=>(match l.getLast? with
   | some (.sh d)=>some (.nx ((ρ.set i (.ow (iL o is (.lst l.dropLast)))).set j (.sh d)))
   | _=>none)
  | _=>none
 | _=>none
@[simp] noncomputable def Ny (i:Nat) (p:XP):XS:=fun ρ=>match ρ[i]? with
 | some (.ow o)=>(p ρ).bind fun is=>match dD o is with
  | some (.lst l)=>(match shs l with | some ds=>some (.nx (ρ.set i (.ow (iL o is (.lst (ds.reverse.map .sh)))))) | none=>none)
  | _=>none
 | _=>none
noncomputable def rExtM:V -> List V -> Hp -> VK -> Prop:=fun x vs H Q=>∃ l b xs zs,x = .ref l /\ vs = [.ref b] /\ H l = some (.lst xs) /\ Rd H b (.lst zs) /\ xs.length + zs.length <= sizeLine /\ Q .non (upd H l (.lst (xs ++ zs)))
@[simp] noncomputable def Cu (i:Nat) (p:XP) (e:XE):XS:=fun ρ=>match ρ[i]? with
 | some (.ow o)=>(p ρ).bind fun is=>(e ρ).bind fun d=>match dD o is,d with
  | some (.lst l),.lst ds=>if l.length + ds.length <= LIM then some (.nx (ρ.set i (.ow (iL o is (.lst (l ++ ds.map .sh)))))) else none
  | _,_=>none
 | _=>none
theorem FP {to te:TE} {i:Nat} {p:XP} {e:XE} (hp:CA K to i p) (h:SE K te e):SS K (zG (tBM K "list" rExtM to (eK te nP))) (Cu i p e):=fun A Λ ρ σ S H E out r y k=>by
 unfold Cu at y
 cases q0:ρ[i]? with
 | none=>rw [q0] at y;cases y
 | some s=>
  rw [q0] at y
  cases s with
  | un=>cases y
  | lo=>cases y
  | sh d=>cases y
  | ow o=>
   dsimp only at y
   cases q1:p ρ with
   | none=>rw [q1] at y;cases y
   | some is=>
    rw [q1] at y
    dsimp only [Option.bind] at y
    cases q2:e ρ with
    | none=>rw [q2] at y;cases y
    | some dd=>
     rw [q2] at y
     dsimp only at y
     cases q3:dD o is with
     | none=>rw [q3] at y;cases y
     | some qo=>
      rw [q3] at y
      cases qo with
      | sh _=>cases y
      | dic _=>cases y
      | hd _ _ _=>cases y
      | tup _=>cases y
      | lst l=>
       cases dd with
       | lst ds=>
        dsimp only at y
        split at y
        ·rename_i hl
         cases y
         obtain ⟨Φ,f⟩:=r
         refine hp ρ σ S H _ is o _ ⟨A,Λ,Φ,f⟩ q0 q1 q3 fun v w S1 H1 ev z1 wk=>?_
         have f1:=f.ext z1
         obtain ⟨a,xs,g0,rfl,hx,hw,nd0,in0,_⟩:=f1.at q0 q3 ev wk
         refine ⟨.inl ⟨rfl,xs,SqL.of hx⟩,h ρ σ S1 H1 _ _ ⟨A,Λ,Φ,f1⟩ q2 fun u S2 H2 z2 d2=>?_⟩
         have f2:=f1.ext z2
         obtain ⟨a',xs',g1,e1,hx',hw',nd1,in1,up⟩:=f2.at q0 q3 ev (wk.mono (z2.same f1.sub))
         cases e1
         obtain ⟨b,zs,rfl,hb,dz⟩:=den_lst.mp d2
         obtain ⟨na,ng⟩:=OL.mp nd1
         refine ⟨a,b,xs',zs,rfl,rfl,hx',cN z2.sub hb,?_,?_⟩
         ·rw [<- hw'.length,<- dz.length];exact O4 (Pf hl eR)
         ·refine k σ S2 _ (up (l ++ ds.map .sh) (xs' ++ zs) g1 (fun H' ne=>?_) nd1 fun b hb=>.inl hb) (z1.sh.trans z2.sh)
          have:=(hw'.mono (H':=H') (Same.refl _) fun b hb=>ne b fun z=>na (z ▸ hb)).append (lf (H:=H') dz)
          rw [OZ] at this
          exact this
        ·cases y
       | _=>cases y
@[simp] noncomputable def Cv (i:Nat) (p:XP) (ix e:XE):XS:=fun ρ=>(e ρ).bind fun d=>match ρ[i]? with
 | some (.ow o)=>(p ρ).bind fun is=>(ix ρ).bind fun k=>match dD o is,k with
  | some (.lst l),.int k=>(match shs l with | some ds=>(ixN ds.length k).map fun j=>.nx (ρ.set i (.ow (iL o is (.lst ((ds.set j d).map .sh))))) | none=>none)
  | _,_=>none
 | _=>none
theorem FV {to te ti:TE} {i:Nat} {p:XP} {e ix:XE} (h:SE K te e) (hp:CA K to i p) (hi:SPk K ti ix):SS K (zE te (KD to ti Ix)) (Cv i p ix e):=fun A Λ ρ σ S H E out r y k=>by
 unfold Cv at y
 cases q:e ρ with
 | none=>rw [q] at y;cases y
 | some d=>
  rw [q] at y
  dsimp only [Option.bind] at y
  cases q0:ρ[i]? with
  | none=>rw [q0] at y;cases y
  | some s=>
   rw [q0] at y
   cases s with
   | un=>cases y
   | lo=>cases y
   | sh d=>cases y
   | ow o=>
    dsimp only at y
    cases q1:p ρ with
    | none=>rw [q1] at y;cases y
    | some is=>
     rw [q1] at y
     dsimp only at y
     cases q2:ix ρ with
     | none=>rw [q2] at y;cases y
     | some dk=>
      rw [q2] at y
      dsimp only at y
      cases q3:dD o is with
      | none=>rw [q3] at y;cases y
      | some qo=>
       rw [q3] at y
       cases qo with
       | sh _=>cases y
       | dic _=>cases y
       | hd _ _ _=>cases y
       | tup _=>cases y
       | lst l=>
        cases dk with
        | int kk=>
         dsimp only at y
         cases q4:shs l with
         | none=>rw [q4] at y;cases y
         | some ds=>
          rw [q4] at y
          dsimp only at y
          cases q5:ixN ds.length kk with
          | none=>rw [q5] at y;cases y
          | some j=>
           rw [q5] at y
           cases y
           have ed:=oW q4
           subst ed
           obtain ⟨Φ,f⟩:=r
           refine h ρ σ S H _ d ⟨A,Λ,Φ,f⟩ q fun u S0 H0 z0 d0=>?_
           have f0:=f.ext z0
           refine hp ρ σ S0 H0 _ is o _ ⟨A,Λ,Φ,f0⟩ q0 q1 q3 fun v w S1 H1 ev z1 wk=>?_
           have f1:=f0.ext z1
           refine hi ρ σ S1 H1 _ _ ⟨A,Λ,Φ,f1⟩ q2 fun w2 S2 H2 z2 d2=>?_
           have f2:=f1.ext z2
           obtain ⟨a',xs',g1,rfl,hx',hw',nd1,in1,up⟩:=f2.at q0 q3 ev (wk.mono (z2.same f1.sub))
           obtain ⟨hd,rfl⟩:=eU hw'
           refine ⟨a',xs',kk,j,rfl,d2.int,hx',by rw [<- hd.length];exact q5,?_⟩
           exact k σ S2 _ (up ((ds.set j d).map .sh) (xs'.set j u) [] (fun H' ne=>lf (hd.set j ((d0.mono z1.sh).mono z2.sh))) nd1 fun b hb=>by cases hb) ((z0.sh.trans z1.sh).trans z2.sh)
        | _=>cases y
@[simp] noncomputable def NZ (i:Nat) (e:XE) (f:D -> D -> Option D):XS:=fun ρ=>match ρ[i]? with
 | some (.sh x)=>(e ρ).bind fun y=>(f x y).map fun z=>.nx (ρ.set i (.sh z))
 | _=>none
@[simp] noncomputable def Nk (e:XE):XS:=fun ρ=>(e ρ).map fun _=>.nx ρ
end
section
variable {K:W.Frag} {S S' H H':Hp}
def Walks (K:W.Frag) (J:It) (S:Hp) (l:List D):Prop:=∀ S' H',Same S S' -> Same S' H' ->
 (∀ i d,l[i]? = some d -> J.go i H' /\ ∀ x H'',J.yld i H' x H'' -> H'' = H' /\ Den K S' d x) /\ J.stop l.length H'
def SI (K:W.Frag) (wi:TI) (e:XA):Prop:=∀ ρ σ S H (R:It -> Hp -> Prop) l,Rl K ρ σ S H -> e ρ = some l -> (∀ J S' H',Ext S H S' H' -> Walks K J S' l -> R J H') -> wi σ H R
noncomputable def FY:D -> Option (List D)
 | .lst l=>some l | .tup l=>some l | .scr l=>some l | .mtp l=>some l | _=>none
def IV (K:W.Frag) (J:It) (S H:Hp) (l:List D):Prop:=∀ S' H',Ext S H S' H' ->
 (∀ i d,l[i]? = some d -> J.go i H' /\ ∀ x H'',J.yld i H' x H'' -> H'' = H' /\ Den K S' d x) /\ J.stop l.length H'
def SIP (K:W.Frag) (wi:TI) (e:XA):Prop:=∀ ρ σ S H (R:It -> Hp -> Prop) l,Rl K ρ σ S H -> e ρ = some l -> (∀ J S' H',Ext S H S' H' -> IV K J S' H' l -> R J H') -> wi σ H R
theorem SI.p {wi:TI} {e:XA} (h:SI K wi e):SIP K wi e:=fun ρ σ S H R l r x k=>h ρ σ S H R l r x fun J S' H' z w=>k J S' H' z fun S2 H2 z2=>w S2 H2 z2.sh z2.sub
@[simp] noncomputable def xIt (e:XE):XA:=fun ρ=>(e ρ).bind FY
theorem iy {tl:TE} {e:XE} (h:SE K tl e):SI K (Jo K tl) (xIt e):=fun ρ σ S H R l r x k=>by
 unfold xIt at x
 cases q:e ρ with
 | none=>rw [q] at x;cases x
 | some d=>
  rw [q] at x
  dsimp only [Option.bind] at x
  refine h ρ σ S H _ d r q fun v S1 H1 z1 d1=>?_
  cases d with
  | lst l'=>
   cases x
   obtain ⟨p,xs,rfl,h1,h2⟩:=den_lst.mp d1
   refine ⟨p,rfl,.inl ⟨⟨xs,.inl (cN z1.sub h1)⟩,k _ S1 H1 z1 fun S' H' s1 s2=>⟨fun i d hd=>?_,xs,.inl (cN (s1.trans s2) h1),Pj h2.length.symm⟩⟩⟩
   obtain ⟨y,e1,e2⟩:=h2.get hd
   refine ⟨⟨xs,y,.inl (cN (s1.trans s2) h1),e1⟩,fun x H'' hy=>⟨hy.1,?_⟩⟩
   have:=hy.2 xs (.inl (cN (s1.trans s2) h1))
   rw [e1] at this
   cases this
   exact e2.mono s1
  | tup l'=>
   cases x
   obtain ⟨p,xs,rfl,h1,h2⟩:=gr d1
   refine ⟨p,rfl,.inr ⟨⟨xs,a8 z1.sub h1⟩,k _ S1 H1 z1 fun S' H' s1 s2=>⟨fun i d hd=>?_,xs,a8 (s1.trans s2) h1,Pj h2.length.symm⟩⟩⟩
   obtain ⟨y,e1,e2⟩:=h2.get hd
   refine ⟨⟨xs,y,a8 (s1.trans s2) h1,e1⟩,fun x H'' hy=>⟨hy.1,?_⟩⟩
   have:=hy.2 xs (a8 (s1.trans s2) h1)
   rw [e1] at this
   cases this
   exact e2.mono s1
  | mtp l'=>
   cases x
   obtain ⟨p,xs,rfl,h1,h2⟩:=den_mtp.mp d1
   refine ⟨p,rfl,.inr ⟨⟨xs,a8 z1.sub h1⟩,k _ S1 H1 z1 fun S' H' s1 s2=>⟨fun i d hd=>?_,xs,a8 (s1.trans s2) h1,Pj h2.length.symm⟩⟩⟩
   obtain ⟨y,e1,e2⟩:=h2.get hd
   refine ⟨⟨xs,y,a8 (s1.trans s2) h1,e1⟩,fun x H'' hy=>⟨hy.1,?_⟩⟩
   have:=hy.2 xs (a8 (s1.trans s2) h1)
   rw [e1] at this
   cases this
   exact e2.mono s1
  | scr l'=>
   cases x
   obtain ⟨p,xs,rfl,h1,h2⟩:=den_scr.mp d1
   refine ⟨p,rfl,.inl ⟨⟨xs,dH z1.sub h1⟩,k _ S1 H1 z1 fun S' H' s1 s2=>⟨fun i d hd=>?_,xs,dH (s1.trans s2) h1,Pj h2.length.symm⟩⟩⟩
   obtain ⟨y,e1,e2⟩:=h2.get hd
   refine ⟨⟨xs,y,dH (s1.trans s2) h1,e1⟩,fun x H'' hy=>⟨hy.1,?_⟩⟩
   have:=hy.2 xs (dH (s1.trans s2) h1)
   rw [e1] at this
   cases this
   exact e2.mono s1
  | _=>cases x
noncomputable def ifC {α:Type} (p:Prop) (a b:α):α:=@ite α p (Classical.propDecidable p) a b
theorem fX {α:Type} {p:Prop} {a b:α} (h:p):ifC p a b = a:=by unfold ifC;exact Oj h
theorem iz {α:Type} {p:Prop} {a x:α} (h:ifC p (some a) none = some x):p /\ a = x:=by
 unfold ifC at h
 by_cases c:p
 ·rw [Oj c] at h;exact ⟨c,O2 h⟩
 ·rw [Oi c] at h;cases h
theorem eu {tl:TE} {e:XE} (h:SPk K tl e):SIP K (Jo K tl) (xIt e):=fun ρ σ S H R l r x k=>by
 unfold xIt at x
 cases q:e ρ with
 | none=>rw [q] at x;cases x
 | some d=>
  rw [q] at x
  dsimp only [Option.bind] at x
  refine h ρ σ S H _ d r q fun v S1 H1 z1 d1=>?_
  rcases d1 with d1 | ⟨l',p,xs,rfl,rfl,hx,dx⟩
  ·cases d with
   | lst l'=>
    cases x
    obtain ⟨p,xs,rfl,h1,h2⟩:=den_lst.mp d1
    refine ⟨p,rfl,.inl ⟨⟨xs,.inl (cN z1.sub h1)⟩,k _ S1 H1 z1 fun S' H' z2=>⟨fun i d hd=>?_,xs,.inl (cN (z2.sh.trans z2.sub) h1),Pj h2.length.symm⟩⟩⟩
    obtain ⟨y,e1,e2⟩:=h2.get hd
    refine ⟨⟨xs,y,.inl (cN (z2.sh.trans z2.sub) h1),e1⟩,fun x H'' hy=>⟨hy.1,?_⟩⟩
    have:=hy.2 xs (.inl (cN (z2.sh.trans z2.sub) h1))
    rw [e1] at this
    cases this
    exact e2.mono z2.sh
   | tup l'=>
    cases x
    obtain ⟨p,xs,rfl,h1,h2⟩:=gr d1
    refine ⟨p,rfl,.inr ⟨⟨xs,a8 z1.sub h1⟩,k _ S1 H1 z1 fun S' H' z2=>⟨fun i d hd=>?_,xs,a8 (z2.sh.trans z2.sub) h1,Pj h2.length.symm⟩⟩⟩
    obtain ⟨y,e1,e2⟩:=h2.get hd
    refine ⟨⟨xs,y,a8 (z2.sh.trans z2.sub) h1,e1⟩,fun x H'' hy=>⟨hy.1,?_⟩⟩
    have:=hy.2 xs (a8 (z2.sh.trans z2.sub) h1)
    rw [e1] at this
    cases this
    exact e2.mono z2.sh
   | mtp l'=>
    cases x
    obtain ⟨p,xs,rfl,h1,h2⟩:=den_mtp.mp d1
    refine ⟨p,rfl,.inr ⟨⟨xs,a8 z1.sub h1⟩,k _ S1 H1 z1 fun S' H' z2=>⟨fun i d hd=>?_,xs,a8 (z2.sh.trans z2.sub) h1,Pj h2.length.symm⟩⟩⟩
    obtain ⟨y,e1,e2⟩:=h2.get hd
    refine ⟨⟨xs,y,a8 (z2.sh.trans z2.sub) h1,e1⟩,fun x H'' hy=>⟨hy.1,?_⟩⟩
    have:=hy.2 xs (a8 (z2.sh.trans z2.sub) h1)
    rw [e1] at this
    cases this
    exact e2.mono z2.sh
   | scr l'=>
    cases x
    obtain ⟨p,xs,rfl,h1,h2⟩:=den_scr.mp d1
    refine ⟨p,rfl,.inl ⟨⟨xs,dH z1.sub h1⟩,k _ S1 H1 z1 fun S' H' z2=>⟨fun i d hd=>?_,xs,dH (z2.sh.trans z2.sub) h1,Pj h2.length.symm⟩⟩⟩
    obtain ⟨y,e1,e2⟩:=h2.get hd
    refine ⟨⟨xs,y,dH (z2.sh.trans z2.sub) h1,e1⟩,fun x H'' hy=>⟨hy.1,?_⟩⟩
    have:=hy.2 xs (dH (z2.sh.trans z2.sub) h1)
    rw [e1] at this
    cases this
    exact e2.mono z2.sh
   | _=>cases x
  ·cases x
   refine ⟨p,rfl,.inl ⟨⟨xs,SqL.of hx⟩,k _ S1 H1 z1 fun S' H' z2=>?_⟩⟩
   have hx2:H' p = some (.lst xs):=z2.same z1.sub _ _ hx
   refine ⟨fun i d hd=>?_,xs,SqL.of hx2,Pj dx.length.symm⟩
   obtain ⟨y,e1,e2⟩:=dx.get hd
   refine ⟨⟨xs,y,SqL.of hx2,e1⟩,fun x H'' hy=>⟨hy.1,?_⟩⟩
   have:=hy.2 xs (SqL.of hx2)
   rw [e1] at this
   cases this
   exact e2.mono z2.sh
noncomputable def fF (lo:Int):Nat -> List D
 | 0=>[]
 | n + 1=>.int lo :: fF (lo + 1) n
theorem oA:∀ (n:Nat) (lo:Int) (i:Nat) (d:D),(fF lo n)[i]? = some d -> i < n /\ d = .int (lo + i)
 | 0,_,_,_,h=>by simp [fF] at h
 | n + 1,lo,0,d,h=>by simp [fF] at h;exact ⟨QI _,by rw [<- h];simp⟩
 | n + 1,lo,i + 1,d,h=>by
  obtain ⟨h1,h2⟩:=oA n (lo + 1) i d (by simpa [fF] using h)
  exact ⟨Nat.succ_lt_succ h1,by rw [h2];congr 1;lia⟩
theorem oB:∀ (n:Nat) (lo:Int),(fF lo n).length = n
 | 0,_=>rfl
 | n + 1,lo=>by rw [fF,Ow,oB n]
theorem vZ (lo:Int) (n:Nat):Walks K (Itr lo n) S (fF lo n):=fun S' H' _ _=>⟨fun i d h=>by
 obtain ⟨h1,rfl⟩:=oA n lo i d h
 exact ⟨h1,fun x H'' y=>⟨y.1,den_int.mpr y.2⟩⟩,by rw [oB];exact Op _⟩
noncomputable def Lc:List D -> Option (List D)
 | [.int j]=>ifC (j < 1000000 /\ -1000000 < j) (some (fF 0 j.toNat)) none
 | [.int i,.int j]=>ifC (j < 4000000000000000000 /\ -4000000000000000000 < i /\ i < 4000000000000000000 /\ -4000000000000000000 < j) (some (fF i (j - i).toNat)) none
 | _=>none
@[simp] noncomputable def zT (a:XA):XA:=fun ρ=>(a ρ).bind Lc
theorem Ay {ta:TE} {a:XE} (h:SPk K ta a):SI K (Ik (eK ta nP)) (zT (ad a aq)):=fun ρ σ S H R l r x k=>by
 unfold zT at x
 cases q:ad a aq ρ with
 | none=>rw [q] at x;cases x
 | some ds=>
  rw [q] at x
  obtain ⟨d,e,qa,qb,rfl⟩:=iU q
  cases qb
  cases d with
  | int j=>
   have x':ifC (j < 1000000 /\ -1000000 < j) (some (fF 0 j.toNat)) none = some l:=x
   obtain ⟨hj,rfl⟩:=iz x'
   refine h ρ σ S H _ _ r qa fun v S1 H1 z1 d1=>?_
   refine ⟨j,by rw [d1.int],?_,?_,k _ S1 H1 z1 (vZ 0 _)⟩
   ·have:(2:Int) ^ 62 = 4611686018427387904:=by decide
    lia
   ·have:(2:Int) ^ 62 = 4611686018427387904:=by decide
    lia
  | _=>cases x
noncomputable def Eu:Nat -> Nat -> List D
 | _,0=>[]
 | k,n + 1=>.int (2 * k) :: Eu (k + 1) n
noncomputable def Lb:List D -> Option (List D)
 | [.int a,.int j,.int b]=>ifC (a = 0 /\ b = 2 /\ 0 <= j /\ j < 1000000) (some (Eu 0 ((j + 1) / 2).toNat)) none
 | _=>none
@[simp] noncomputable def NA (a:XA):XA:=fun ρ=>(a ρ).bind Lb
noncomputable def dt (g:XG) (m:XS):List D -> Env -> Option Out
 | [],ρ=>some (.nx ρ)
 | d :: l,ρ=>(g d ρ).bind fun ρ1=>match m ρ1 with
  | some (.nx ρ2)=>dt g m l ρ2
  | some (.ct ρ2)=>dt g m l ρ2
  | some (.bk ρ2)=>some (.nx ρ2)
  | some (.rt d)=>some (.rt d)
  | some (.ro d)=>some (.ro d)
  | none=>none
@[simp] noncomputable def f8 (e:XA) (g:XG) (m:XS):XS:=fun ρ=>(e ρ).bind fun l=>dt g m l ρ
theorem rS {l:List D} {i:Nat} {d:D} (h:l[i]? = some d):l.drop i = d :: l.drop (i + 1):=by
 obtain ⟨h1,rfl⟩:=O5.mp h
 exact Q0 h1
theorem fU {wi:TI} {g:TG} {tb:TS} {e:XA} {x:XG} {m:XS} (hi:SI K wi e) (hg:SG K g x) (hb:SS K tb m):SS K (Lq wi g tb) (f8 e x m):=fun A Λ ρ σ S H E o r y k=>by
 unfold f8 at y
 cases q:e ρ with
 | none=>rw [q] at y;cases y
 | some l=>
  rw [q] at y
  dsimp only [Option.bind] at y
  refine hi ρ σ S H _ l r.toRl q fun J S1 H1 z1 wk=>?_
  have r1:=r.ext z1
  refine ⟨fun i n σ' H'=>n = l.length - i /\ i <= l.length /\ ∃ ρ' S',RlA K A Λ ρ' σ' S' H' /\ Same S1 S' /\ dt x m (l.drop i) ρ' = some o,⟨_,rfl,O9 _,ρ,S1,r1,Same.refl _,y⟩,?_⟩
  rintro i n σ2 H2 ⟨rfl,hil,ρ2,S2,r2,s2,y2⟩
  obtain ⟨w1,w2⟩:=wk S2 H2 s2 r2.sub
  cases qd:l[i]? with
  | none=>
   have:l.length = i:=by have:=QJ.mp qd;lia
   subst this
   rw [QE (Op _)] at y2
   cases y2
   exact .inl ⟨w2,k σ2 S2 H2 r2 (z1.sh.trans s2)⟩
  | some d=>
   obtain ⟨g1,g2⟩:=w1 i d qd
   have hlt:=(O5.mp qd).1
   rw [rS qd] at y2
   unfold dt at y2
   cases qx:x d ρ2 with
   | none=>rw [qx] at y2;cases y2
   | some ρ3=>
    rw [qx] at y2
    dsimp only [Option.bind] at y2
    refine .inr ⟨g1,fun σ' H'=>∃ ρ' S',RlA K A Λ ρ' σ' S' H' /\ Same S1 S' /\ dt x m (l.drop (i + 1)) ρ' = some o,fun σ' H' ⟨ρ',S',a1,a2,a3⟩=>⟨_,by lia,rfl,hlt,ρ',S',a1,a2,a3⟩,fun xv H3 hy=>?_⟩
    obtain ⟨rfl,dx⟩:=g2 xv H3 hy
    refine hg A Λ ρ2 σ2 S2 H3 xv d _ ρ3 r2 dx qx fun σ3 r3=>?_
    cases qm:m ρ3 with
    | none=>rw [qm] at y2;cases y2
    | some om=>
     rw [qm] at y2
     refine hb A Λ ρ3 σ3 S2 H3 _ om r3 qm ?_
     cases om with
     | nx ρ4=>exact fun σ4 S4 H4 r4 s4=>⟨ρ4,S4,r4,s2.trans s4,y2⟩
     | ct ρ4=>exact fun σ4 S4 H4 r4 s4=>⟨ρ4,S4,r4,s2.trans s4,y2⟩
     | bk ρ4=>cases y2;exact fun σ4 S4 H4 r4 s4=>k σ4 S4 H4 r4 ((z1.sh.trans s2).trans s4)
     | rt d4=>cases y2;exact fun v S4 H4 s4=>k v S4 H4 ((z1.sh.trans s2).trans s4)
     | ro d4=>cases y2;exact fun v fp S4 H4 s4=>k v fp S4 H4 ((z1.sh.trans s2).trans s4)
noncomputable def cm (c:XT) (m:XS):Nat -> Env -> Option Out
 | 0,_=>none
 | n + 1,ρ=>(c ρ).bind fun b=>if b = true then (match m ρ with
  | some (.nx ρ2)=>cm c m n ρ2
  | some (.ct ρ2)=>cm c m n ρ2
  | some (.bk ρ2)=>some (.nx ρ2)
  | some (.rt d)=>some (.rt d)
  | some (.ro d)=>some (.ro d)
  | none=>none) else some (.nx ρ)
theorem kQ (c:XT) (m:XS):∀ (n:Nat) (ρ:Env) (o:Out),cm c m n ρ = some o -> cm c m (n + 1) ρ = some o
 | 0,_,_,h=>by cases h
 | n + 1,ρ,o,h=>by
  unfold cm at h ⊢
  cases qc:c ρ with
  | none=>rw [qc] at h;cases h
  | some b=>
   rw [qc] at h
   dsimp only [Option.bind] at h ⊢
   cases b with
   | false=>exact h
   | true=>
    rw [Oj rfl] at h ⊢
    cases qm:m ρ with
    | none=>rw [qm] at h;cases h
    | some om=>
     rw [qm] at h
     cases om with
     | nx ρ2=>exact kQ c m n ρ2 o h
     | ct ρ2=>exact kQ c m n ρ2 o h
     | bk ρ2=>exact h
     | rt d=>exact h
     | ro d=>exact h
theorem mQ (c:XT) (m:XS) (n:Nat) (ρ:Env) (o:Out) (h:cm c m n ρ = some o):∀ k,cm c m (n + k) ρ = some o
 | 0=>h
 | k + 1=>kQ c m (n + k) ρ o (mQ c m n ρ o h k)
noncomputable def nV (c:XT) (m:XS):XS:=fun ρ=>by
 classical
 exact if h:∃ o n,cm c m n ρ = some o then some h.choose else none
noncomputable def gQ (c:XT) (m:XS):XS:=fun ρ=>(cm c m 64 ρ).or (nV c m ρ)
theorem tT {c:XT} {m:XS} {ρ:Env} {o o':Out} {n k:Nat} (h:cm c m n ρ = some o) (h':cm c m k ρ = some o'):o' = o:=by
 have h3:=mQ c m n ρ o h k
 have h4:=mQ c m k ρ _ h' n
 rw [Nat.add_comm k n,h3] at h4
 exact (O2 h4).symm
theorem wc {c:XT} {m:XS} {n:Nat} {ρ:Env} {o:Out} (h:cm c m n ρ = some o):gQ c m ρ = some o:=by
 unfold gQ
 cases q:cm c m 64 ρ with
 | some o'=>exact OG some (tT h q)
 | none=>
  have hx:∃ o n,cm c m n ρ = some o:=⟨o,n,h⟩
  show nV c m ρ = some o
  unfold nV
  rw [dif_pos hx]
  obtain ⟨n2,h2⟩:=hx.choose_spec
  exact OG some (tT h h2)
theorem vA {c:XT} {m:XS} {ρ:Env} {o:Out} (h:gQ c m ρ = some o):∃ n,cm c m n ρ = some o:=by
 unfold gQ at h
 cases q:cm c m 64 ρ with
 | some o'=>rw [q] at h;exact ⟨64,q.trans h⟩
 | none=>
  rw [q] at h
  have h:nV c m ρ = some o:=h
  unfold nV at h
  split at h
  ·rename_i hx
   cases h
   exact hx.choose_spec
  ·cases h
theorem Bq {c:XT} {m:XS} {ρ:Env} (h:c ρ = some false):gQ c m ρ = some (.nx ρ):=wc (n:=1) (by unfold cm;rw [h];rfl)
theorem pQ {c:XT} {m:XS} {ρ ρ2:Env} {o:Out} (h:c ρ = some true) (hm:m ρ = some (.nx ρ2)) (k:gQ c m ρ2 = some o):gQ c m ρ = some o:=by
 obtain ⟨n,hn⟩:=vA k
 exact wc (n:=n + 1) (by unfold cm;rw [h,hm];exact hn)
theorem HK {tc:TT} {tb:TS} {c:XT} {m:XS} (hc:ST K tc c) (hb:SS K tb m):SS K (Gf tc tb) (gQ c m):=fun A Λ ρ σ S H E o r y k=>by
 obtain ⟨n,hn⟩:=vA y
 refine ⟨fun n σ' H'=>∃ ρ' S',RlA K A Λ ρ' σ' S' H' /\ Same S S' /\ cm c m n ρ' = some o,⟨n,ρ,S,r,Same.refl _,hn⟩,?_⟩
 rintro n σ1 H1 ⟨ρ1,S1,r1,s1,h1⟩
 cases n with
 | zero=>cases h1
 | succ n=>
  unfold cm at h1
  cases qc:c ρ1 with
  | none=>rw [qc] at h1;cases h1
  | some b=>
   rw [qc] at h1
   dsimp only [Option.bind] at h1
   refine hc ρ1 σ1 S1 H1 _ b r1.toRl qc fun S2 H2 z2=>?_
   have r2:=r1.ext z2
   cases b with
   | false=>
    rw [Oi (by decide)] at h1
    cases h1
    exact yr (k σ1 S2 H2 r2 (s1.trans z2.sh))
   | true=>
    rw [Oj rfl] at h1
    refine yt ⟨fun σ' H'=>∃ ρ' S',RlA K A Λ ρ' σ' S' H' /\ Same S S' /\ cm c m n ρ' = some o,fun σ' H' a=>⟨n,QF _,a⟩,?_⟩
    cases qm:m ρ1 with
    | none=>rw [qm] at h1;cases h1
    | some om=>
     rw [qm] at h1
     refine hb A Λ ρ1 σ1 S2 H2 _ om r2 qm ?_
     cases om with
     | nx ρ4=>exact fun σ4 S4 H4 r4 s4=>⟨ρ4,S4,r4,(s1.trans z2.sh).trans s4,h1⟩
     | ct ρ4=>exact fun σ4 S4 H4 r4 s4=>⟨ρ4,S4,r4,(s1.trans z2.sh).trans s4,h1⟩
     | bk ρ4=>cases h1;exact fun σ4 S4 H4 r4 s4=>k σ4 S4 H4 r4 ((s1.trans z2.sh).trans s4)
     | rt d4=>cases h1;exact fun v S4 H4 s4=>k v S4 H4 ((s1.trans z2.sh).trans s4)
     | ro d4=>cases h1;exact fun v fp S4 H4 s4=>k v fp S4 H4 ((s1.trans z2.sh).trans s4)
@[simp] noncomputable def p7 (js:List (Option Nat)) (ρ:Env):Env:=js.map fun o=>match o with | none=>.un | some j=>match ρ[j]? with | some (.sh d)=>.sh d | _=>.un
noncomputable def bR (g:XG) (c:XT) (e:XE) (ρ0:Env):List D -> Option (List D)
 | []=>some []
 | d :: l=>(g d ρ0).bind fun ρ1=>(c ρ1).bind fun b=>if b = true then (e ρ1).bind fun y=>(bR g c e ρ0 l).map fun r=>y :: r else bR g c e ρ0 l
@[simp] noncomputable def bF (js:List (Option Nat)) (w:XA) (g:XG) (c:XT) (e:XE):XA:=fun ρ=>(w ρ).bind fun l=>if l.length <= LIM then bR g c e (p7 js ρ) l else none
@[simp] noncomputable def eE:XT:=fun _=>some true
theorem lV:ST K Ie eE:=fun ρ σ S H Q b r x k=>by cases x;exact k S H (Ext.refl r.sub)
theorem nv {js:List (Option Nat)} {ρ:Env} {i:Nat} {s:Sl} (h:(p7 js ρ)[i]? = some s):s = .un \/ ∃ d j,s = .sh d /\ js[i]? = some (some j) /\ ρ[j]? = some (.sh d):=by
 unfold p7 at h
 rw [OU] at h
 cases q:js[i]? with
 | none=>rw [q] at h;cases h
 | some o=>
  rw [q] at h
  cases o with
  | none=>cases h;exact .inl rfl
  | some j=>
   simp only [Option.map_some] at h
   cases q2:ρ[j]? with
   | none=>rw [q2] at h;cases h;exact .inl rfl
   | some s2=>
    rw [q2] at h
    cases s2 with
    | un=>cases h;exact .inl rfl
    | lo=>cases h;exact .inl rfl
    | ow l=>cases h;exact .inl rfl
    | sh d=>cases h;exact .inr ⟨d,j,rfl,rfl,q2⟩
noncomputable def gS (S H:Hp):Hp:=fun b=>match S b with | none=>H b | some _=>none
theorem n5 {S H:Hp}:Same (gS S H) H:=fun b o h=>by
 unfold gS at h
 cases q:S b with
 | none=>rw [q] at h;exact h
 | some _=>rw [q] at h;cases h
theorem n4 {S H:Hp} (b:Addr):S b = none \/ gS S H b = none \/ ∃ u,gS S H b = some u /\ IT u:=by
 unfold gS
 cases q:S b with
 | none=>exact .inl rfl
 | some _=>exact .inr (.inl rfl)
theorem rA {S H:Hp} {b:Addr} {o:HO} (h:H b = some o) (n:S b = none):gS S H b = some o:=by
 unfold gS
 rw [n]
 exact h
theorem FF {ρ:Env} {σ:St} (r:Rl K ρ σ S H) (js:List (Option Nat)):RlA K (gS S H) (fun _=>none) (p7 js ρ) (inn js σ) S H:=by
 refine ⟨fun _=>[],?_⟩
 exact {
  len:=by unfold p7 inn;rw [Os,Os]
  sub:=r.sub
  sh:=fun i d h=>by
   rcases nv h with e | ⟨d',j,e,h1,h2⟩
   ·cases e
   ·cases e
    obtain ⟨v,k1,k2⟩:=r.sh j d h2
    refine ⟨v,?_,k2⟩
    unfold inn
    rw [OU,h1]
    show some ((σ[j]?).join) = some (some v)
    rw [k1]
    rfl
  ow:=fun i o h=>by
   rcases nv h with e | ⟨d',j,e,h1,h2⟩
   ·cases e
   ·cases e
  dj:=fun i j o o' _ h=>by
   rcases nv h with e | ⟨d',j,e,h1,h2⟩
   ·cases e
   ·cases e
  lo:=fun i h=>by
   rcases nv h with e | ⟨d',j,e,h1,h2⟩
   ·cases e
   ·cases e
  asub:=n5
  adis:=n4 }
theorem dU {js:List (Option Nat)} {wi:TI} {g:TG} {tt:TIf} {te:TE} {w:XA} {x:XG} {c:XT} {e:XE} (hi:SIP K wi w) (hg:SG K g x) (hc:ST K tt c) (he:SE K te e):SF K (Cl js wi g tt te) (bF js w x c e):=fun ρ σ S H Q l r y k=>by
 unfold bF at y
 cases q:w ρ with
 | none=>rw [q] at y;cases y
 | some ds=>
  rw [q] at y
  dsimp only [Option.bind] at y
  split at y
  ·rename_i hlim
   refine hi ρ σ S H _ ds r q fun J S1 H1 z1 wk D hD=>?_
   have r1:=r.ext z1
   have hD0:H D = none:=(z1.same r.sub).free hD
   -- the word: what is told so far,what is still to be told
   refine ⟨fun i n H'=>n = ds.length - i /\ i <= ds.length /\ ∃ S' done ys eW,Ext S1 H1 S' H' /\ Same S1 S' /\ H' D = some (.lst ys) /\ S' D = none /\ Dens K S' done ys /\ done.length <= i /\ bR x c e (p7 js ρ) (ds.drop i) = some eW /\ l = done ++ eW,
    ⟨_,rfl,O9 _,S1,[],[],l,Ext.own z1.sub hD,Same.refl _,aD,z1.sub.free hD,.nil,O9 _,y,rfl⟩,?_⟩
   rintro i n H2 ⟨rfl,hil,S2,done,ys,eW,z2,s2,hy,hSD,dy,hdl,y2,rfl⟩
   obtain ⟨w1,w2⟩:=wk S2 H2 z2
   cases qd:ds[i]? with
   | none=>
    have:ds.length = i:=by have:=QJ.mp qd;lia
    subst this
    rw [QE (Op _)] at y2
    cases y2
    rw [OZ] at k
    exact .inl ⟨w2,k D ys S2 H2 (z1.trans z2) hD0 hSD hy dy⟩
   | some d=>
    obtain ⟨g1,g2⟩:=w1 i d qd
    have hlt:=(O5.mp qd).1
    rw [rS qd] at y2
    unfold bR at y2
    cases qx:x d (p7 js ρ) with
    | none=>rw [qx] at y2;cases y2
    | some ρ3=>
     rw [qx] at y2
     dsimp only [Option.bind] at y2
     refine .inr ⟨g1,fun xv H3 hyl=>?_⟩
     obtain ⟨rfl,dx⟩:=g2 xv H3 hyl
     have ri:=FF (r1.ext z2) js
     refine hg _ _ _ _ S2 H3 xv d _ ρ3 ri dx qx fun σ3 r3=>?_
     cases qc:c ρ3 with
     | none=>rw [qc] at y2;cases y2
     | some b=>
      rw [qc] at y2
      dsimp only at y2
      refine hc ρ3 σ3 S2 H3 _ b r3.toRl qc fun S4 H4 z4=>?_
      obtain ⟨al1,al2⟩:=z4.al D _ hy hSD
      cases b with
      | false=>
       rw [Oi (by decide)] at y2
       exact yr ⟨_,by lia,rfl,hlt,S4,done,ys,eW,z2.trans z4,s2.trans z4.sh,al1,al2,dy.mono z4.sh,by lia,y2,rfl⟩
      | true=>
       rw [Oj rfl] at y2
       cases qe:e ρ3 with
       | none=>rw [qe] at y2;cases y2
       | some dv=>
        rw [qe] at y2
        dsimp only at y2
        cases qr:bR x c e (p7 js ρ) (ds.drop (i + 1)) with
        | none=>rw [qr] at y2;cases y2
        | some rest2=>
         rw [qr] at y2
         cases y2
         refine yt (he ρ3 σ3 S4 H4 _ dv (r3.toRl.ext z4) qe fun v S5 H5 z5 d5=>?_)
         obtain ⟨b1,b2⟩:=z5.al D _ al1 al2
         refine ⟨ys,b1,?_,_,by lia,rfl,hlt,S5,done ++ [dv],ys ++ [v],rest2,?_,(s2.trans z4.sh).trans z5.sh,aD,b2,((dy.mono z4.sh).mono z5.sh).append (.cons d5 .nil),by rw [Ov,Pv];lia,qr,by rw [OV];rfl⟩
         ·rw [<- dy.length]
          exact OT (Pf hdl hlt) (OD hlim (O4 eR))
         ·have z6:=(z2.trans z4).trans z5
          exact ⟨z6.sh,fun b u hb=>by rw [aB fun z=>by subst z;rw [b2] at hb;cases hb];exact z6.sub b u hb,fun b o hb hn=>by
           obtain ⟨c1,c2⟩:=z6.alw b o hb hn
           exact ⟨by rw [aB fun z=>by subst z;rw [hD] at hb;cases hb];exact c1,c2⟩⟩
  ·cases y
@[simp] noncomputable def Nm (i:Nat) (g:XG) (m:XS):XS:=fun ρ=>match ρ[i]? with
 | some (.ow (.lst os))=>(match shs os with
  | some l=>(match dt g m l (ρ.set i .lo) with
   | some (.nx ρ')=>(match ρ'[i]? with | some .lo=>some (.nx (ρ'.set i (.ow (.lst os)))) | _=>none)
   | some (.rt d)=>some (.rt d)
   | _=>none)
  | none=>none)
 | _=>none
noncomputable def fnO (n:Nat) (x:XS) (ds:List D):Option O:=match x (ds.map .sh ++ List.replicate (n - ds.length) .un) with
 | some (.rt d)=>some (.sh d)
 | some (.ro o)=>some o
 | some (.nx _)=>some (.sh .non)
 | _=>none
theorem FG {N:List Str} {ds:List D} {vs:List V} (s:Same S H) (h:Dens K S ds vs):RlA K (gS S H) (fun _=>none) (ds.map .sh ++ List.replicate (N.length - ds.length) .un) (L2.bg N vs) S H:=by
 have hl:=h.length
 have key:∀ (i:Nat) t,(ds.map Sl.sh ++ List.replicate (N.length - ds.length) .un)[i]? = some t -> t = .un \/ ∃ d v,t = .sh d /\ (L2.bg N vs)[i]? = some (some v) /\ Den K S d v:=fun i t ht=>by
  by_cases hi:i < ds.length
  ·rw [Qn (by rw [Os];exact hi),OU] at ht
   cases q:ds[i]? with
   | none=>rw [q] at ht;cases ht
   | some d=>
    rw [q] at ht
    cases ht
    obtain ⟨v,e1,e2⟩:=h.get q
    refine .inr ⟨d,v,rfl,?_,e2⟩
    unfold L2.bg
    rw [Qn (by rw [Os];lia),OU,e1]
    rfl
  ·rw [Qm (by rw [Os];lia),RQ] at ht
   split at ht
   ·cases ht;exact .inl rfl
   ·cases ht
 refine ⟨fun _=>[],?_⟩
 exact {
  len:=by unfold L2.bg;rw [Ov,Ov,Os,Os,Rt,Rt,hl]
  sub:=s
  sh:=fun i d hi=>by
   rcases key i _ hi with e | ⟨d',v,e,h1,h2⟩
   ·cases e
   ·cases e;exact ⟨v,h1,h2⟩
  ow:=fun i o hi=>by
   rcases key i _ hi with e | ⟨d',v,e,h1,h2⟩
   ·cases e
   ·cases e
  dj:=fun i j o o' _ hi=>by
   rcases key i _ hi with e | ⟨d',v,e,h1,h2⟩
   ·cases e
   ·cases e
  lo:=fun i hi=>by
   rcases key i _ hi with e | ⟨d',v,e,h1,h2⟩
   ·cases e
   ·cases e
  asub:=n5
  adis:=n4 }
theorem d8 {t:TS} {x:XS} {N:List Str} {n k:Nat} {vs:List V} {H:Hp} {Q:VK} {E:XK} (hs:SS K t x) (hN:N.length = n) (h:iq K k (fnO n x) vs H Q E) :
  t { nx:=fun _ H'=>Q .non H',rt:=Q } (L2.bg N vs) H:=by
 obtain ⟨_,S,ds,d,s,dd,y,q⟩:=h
 subst hN
 unfold fnO at y
 have r:=FG (N:=N) s dd
 have ex:∀ {S' H':Hp},Same S S' -> Same S' H' -> Same (gS S H) H' -> (∀ b,S' b = none \/ gS S H b = none \/ ∃ u,gS S H b = some u /\ IT u) -> Ext S H S' H':=fun s1 s2 s3 s4=>⟨s1,s2,fun b o hb hn=>by
  have ha:=rA hb hn
  refine ⟨s3 b o ha,?_⟩
  rcases s4 b with z | z | ⟨u,z,hu⟩
  ·exact .inl z
  ·rw [ha] at z;cases z
  ·rw [ha] at z;cases z;exact .inr hu⟩
 cases qx:x (ds.map .sh ++ List.replicate (N.length - ds.length) .un) with
 | none=>rw [qx] at y;cases y
 | some o=>
  rw [qx] at y
  refine hs _ _ _ _ S H _ o r qx ?_
  cases o with
  | rt d'=>
   cases y
   exact fun v S' H' s1 s2 s3 s4 dv=>q v [] S' H' (ex s1 s2 s3 s4) (own_sh.mpr ⟨rfl,dv⟩) .nil fun b hb=>by cases hb
  | ro o'=>
   cases y
   refine fun v fp S' H' s1 s2 s3 s4 ow nd n=>q v fp S' H' (ex s1 s2 s3 s4) ow nd fun b hb=>⟨?_,(n b hb).1⟩
   cases qb:H b with
   | none=>rfl
   | some u=>
    have:=rA qb (s1.free (n b hb).1)
    rw [(n b hb).2] at this;cases this
  | nx ρ'=>
   cases y
   exact fun σ' S' H' r' s1=>q .non [] S' H' (ex s1 r'.sub r'.asub r'.adis) (own_sh.mpr ⟨rfl,den_non.mpr rfl⟩) .nil fun b hb=>by cases hb
  | bk ρ'=>cases y
  | ct ρ'=>cases y
end
noncomputable def dI (f:Int -> Int -> Option D):D -> D -> Option D
 | .int i,.int j=>f i j
 | _,_=>none
noncomputable def jl:D -> D -> Option D:=dI fun i j=>ifC ((-18446744073709551616 < i /\ i < 18446744073709551616) \/ (-18446744073709551616 < j /\ j < 18446744073709551616)) (some (.int (i * j))) none
noncomputable def ua:D -> D -> Option D:=dI fun i j=>ifC (0 < j /\ j < 1073741824) (some (.int (i / j))) none
noncomputable def m5:D -> D -> Option D:=dI fun i j=>ifC (0 < j) (some (.int (i % j))) none
noncomputable def GT:D -> D -> Option D:=dI fun i j=>ifC (0 <= j /\ j <= 1000000 /\ i.natAbs < 18446744073709551616) (some (.int (i ^ j.toNat))) none
noncomputable def x4:D -> D -> Option D:=dI fun i j=>some (.int (i - j))
noncomputable def dLt:D -> D -> Option D:=dI fun i j=>some (.bl (decide (i < j)))
noncomputable def dLe:D -> D -> Option D:=dI fun i j=>some (.bl (decide (i <= j)))
noncomputable def dGt:D -> D -> Option D:=dI fun i j=>some (.bl (decide (j < i)))
noncomputable def dGe:D -> D -> Option D:=dI fun i j=>some (.bl (decide (j <= i)))
noncomputable def iu:D -> Option D
 | .int i=>some (.int (-i))
 | _=>none
section
variable {K:W.Frag}
theorem r_i {C:Int -> Int -> Prop} {g:Int -> Int -> V} {f:Int -> Int -> Option D} (h:∀ i j d,f i j = some d -> C i j /\ ox d = some (g i j)):SR2 K (rI C g) (dI f):=fun S H x y d e z Q s dx dy q k=>by
 cases d <;> cases e <;> try cases q
 rename_i i j
 obtain ⟨h1,h2⟩:=h i j z q
 exact ⟨i,j,dx.int,dy.int,h1,k _ S H (Ext.refl s) (m7 h2)⟩
theorem Dz {g:Int -> Int -> V} {f:Int -> Int -> Option D} (h:∀ i j d,f i j = some d -> ox d = some (g i j)):SR2 K (rI0 g) (dI f):=fun S H x y d e z Q s dx dy q k=>by
 cases d <;> cases e <;> try cases q
 rename_i i j
 exact ⟨i,j,dx.int,dy.int,k _ S H (Ext.refl s) (m7 (h i j z q))⟩
theorem vL:SR2 K (rI CMul fun i j=>.int (i * j)) jl:=r_i fun i j d h=>by
 obtain ⟨c,rfl⟩:=iz h
 refine ⟨?_,rfl⟩
 unfold CMul
 have:(2:Int) ^ 64 = 18446744073709551616:=by decide
 rw [this]
 exact c
theorem pJ:SR2 K (rI Kl fun i j=>.int (i / j)) ua:=r_i fun i j d h=>by
 obtain ⟨c,rfl⟩:=iz h
 exact ⟨c,rfl⟩
theorem jU:SR2 K (rI (fun _ j=>0 < j) fun i j=>.int (i % j)) m5:=r_i fun i j d h=>by
 obtain ⟨c,rfl⟩:=iz h
 exact ⟨c,rfl⟩
theorem K9:SR2 K (rI IQ fun i j=>.int (i ^ j.toNat)) GT:=r_i fun i j d h=>by
 obtain ⟨c,rfl⟩:=iz h
 refine ⟨?_,rfl⟩
 unfold IQ
 have:(2:Nat) ^ 64 = 18446744073709551616:=by decide
 rw [this]
 exact c
theorem Ce:SR2 K (rI0 fun i j=>.int (i - j)) x4:=Dz fun i j d h=>by cases h;rfl
theorem K8:SR2 K (rI0 fun i j=>.bl (decide (i < j))) dLt:=Dz fun i j d h=>by cases h;rfl
theorem JK:SR2 K (rI0 fun i j=>.bl (decide (i <= j))) dLe:=Dz fun i j d h=>by cases h;rfl
theorem Hz:SR2 K (rI0 fun i j=>.bl (decide (j < i))) dGt:=Dz fun i j d h=>by cases h;rfl
theorem Mf:SR2 K (rI0 fun i j=>.bl (decide (j <= i))) dGe:=Dz fun i j d h=>by cases h;rfl
theorem eJ:SR1 K (rU fun i=>.int (-i)) iu:=fun S H x d g Q s dx q k=>by
 cases d <;> try cases q
 rename_i i
 exact ⟨i,dx.int,k _ S H (Ext.refl s) (den_int.mpr rfl)⟩
end
noncomputable def Ir:R2:=fun x y H Q=>∃ l b xs zs,x = .ref l /\ y = .ref b /\ Rd H l (.lst xs) /\ Rd H b (.lst zs) /\ xs.length + zs.length <= sizeLine /\ ∀ p,H p = none -> Q (.ref p) (upd H p (.lst (xs ++ zs)))
noncomputable def IA (K:W.Frag):R2:=fun x y H Q=>∃ a b xs ys,x = .ref a /\ y = .ref b /\ SqT K H a xs /\ SqT K H b ys /\ xs.length + ys.length <= sizeLine /\
 (ys = [] -> Q (.ref a) H) /\ (xs = [] -> Q (.ref b) H) /\ ∀ p,H p = none -> Q (.ref p) (upd H p (.tup (xs ++ ys)))
noncomputable def Iy:R2:=fun x y H Q=>∃ i j,x = .str i /\ y = .str j /\ i.length + j.length <= sizeLine /\ Q (.str (i ++ j)) H
noncomputable def Fy (K:W.Frag):R2:=fun x y H Q=>(∃ i j,x = .int i /\ y = .int j /\ Q (.int (i + j)) H) \/ Ir x y H Q \/ IA K x y H Q \/ Iy x y H Q
noncomputable def bQ:D -> D -> Option D
 | .int i,.int j=>some (.int (i + j))
 | .lst a,.lst b=>if a.length + b.length <= LIM then some (.lst (a ++ b)) else none
 | .tup a,.tup b=>if a.length + b.length <= LIM then some (.tup (a ++ b)) else none
 | .str a,.str b=>if a.length + b.length <= LIM then some (.str (a ++ b)) else none
 | _,_=>none
section
variable {K:W.Frag}
theorem Dens.nil_iff {S:Hp} {ds:List D} {xs:List V} (h:Dens K S ds xs):xs = [] ↔ ds = []:=by
 have:=h.length
 cases ds <;> cases xs <;> simp_all
theorem oK {n:Nat} (h:n <= LIM):n <= sizeLine:=O4 (Pf h eR)
theorem cX:SR2 K (Fy K) bQ:=fun S H x y d e z Q s dx dy q k=>by
 cases d <;> cases e <;> try (cases q;done)
 ·rename_i i j
  cases q
  exact .inl ⟨i,j,dx.int,dy.int,k _ S H (Ext.refl s) (den_int.mpr rfl)⟩
 ·rename_i i j
  have q':(if i.length + j.length <= LIM then some (D.str (i ++ j)) else none) = some z:=q
  split at q'
  ·rename_i hl
   cases q'
   exact .inr (.inr (.inr ⟨i,j,dx.str,dy.str,oK hl,k _ S H (Ext.refl s) (den_str.mpr rfl)⟩))
  ·cases q'
 ·rename_i a b
  have q':(if a.length + b.length <= LIM then some (D.lst (a ++ b)) else none) = some z:=q
  split at q'
  ·rename_i hl
   cases q'
   obtain ⟨p,xs,rfl,h1,h2⟩:=dx.lst s
   obtain ⟨p',ys,rfl,h3,h4⟩:=dy.lst s
   refine .inr (.inl ⟨p,p',xs,ys,rfl,rfl,h1,h3,by rw [<- h2.length,<- h4.length];exact oK hl,fun q hq=>?_⟩)
   have z:=Ext.new (o:=.lst (xs ++ ys)) s hq
   exact k _ _ _ z (den_lst.mpr ⟨q,_,rfl,.inl aD,(h2.append h4).mono z.sh⟩)
  ·cases q'
 ·rename_i a b
  have q':(if a.length + b.length <= LIM then some (D.tup (a ++ b)) else none) = some z:=q
  split at q'
  ·rename_i hl
   cases q'
   obtain ⟨p,xs,e1,h1,h2⟩:=dx.tup s
   obtain ⟨p',ys,e2,h3,h4⟩:=dy.tup s
   have dx':Den K S (.tup a) x:=dx.elim id fun ⟨_,_,_,e,_⟩=>by cases e
   have dy':Den K S (.tup b) y:=dy.elim id fun ⟨_,_,_,e,_⟩=>by cases e
   subst e1 e2
   refine .inr (.inr (.inl ⟨p,p',xs,ys,rfl,rfl,h1,h3,by rw [<- h2.length,<- h4.length];exact oK hl,fun e=>?_,fun e=>?_,fun q hq=>?_⟩))
   ·have:=h4.nil_iff.mp e
    subst this
    exact k _ S H (Ext.refl s) (by rw [OZ];exact dx')
   ·have:=h2.nil_iff.mp e
    subst this
    exact k _ S H (Ext.refl s) (by rw [List.nil_append];exact dy')
   ·have z:=Ext.new (o:=.tup (xs ++ ys)) s hq
    exact k _ _ _ z (den_tup.mpr ⟨q,_,rfl,TpA.of aD,(h2.append h4).mono z.sh⟩)
  ·cases q'
end
mutual
noncomputable def eqD:D -> D -> Bool
 | .non,.non=>true
 | .bl a,.bl b=>a == b
 | .bl a,.int j=>(if a then 1 else 0) == j
 | .int i,.bl b=>i == (if b then 1 else 0)
 | .int i,.int j=>i == j
 | .str x,.str y=>x == y
 | .lst a,.lst b=>eqDs a b
 | .tup a,.tup b=>eqDs a b
 | .tup a,.mtp b=>eqDs a b
 | .mtp a,.tup b=>eqDs a b
 | .mtp a,.mtp b=>eqDs a b
 | _,_=>false
noncomputable def eqDs:List D -> List D -> Bool
 | [],[]=>true
 | x :: xs,y :: ys=>eqD x y && eqDs xs ys
 | _,_=>false
end
mutual
noncomputable def okD:Nat -> D -> Bool
 | _,.non=>true
 | _,.bl _=>true
 | _,.int _=>true
 | _,.str x=>PyData.strOk x
 | n + 1,.lst l=>okDs n l
 | n + 1,.tup l=>okDs n l
 | n + 1,.mtp l=>okDs n l
 | _,_=>false
noncomputable def okDs:Nat -> List D -> Bool
 | _,[]=>true
 | n,d :: l=>okD n d && okDs n l
end
noncomputable def JI (K:W.Frag) (neg:Bool):R2:=fun x y H Q=>∃ S d e,Same S H /\ DenP K S H d x /\ DenP K S H e y /\ okD 50 d = true /\ okD 50 e = true /\ Q (.bl (if neg then !eqD d e else eqD d e)) H
noncomputable def dEq (neg:Bool) (d e:D):Option D:=if okD 50 d = true /\ okD 50 e = true then some (.bl (if neg then !eqD d e else eqD d e)) else none
section
variable {K:W.Frag}
theorem lA (neg:Bool):SR2 K (JI K neg) (dEq neg):=fun S H x y d e z Q s dx dy q k=>by
 unfold dEq at q
 split at q
 ·rename_i c
  cases q
  exact ⟨S,d,e,s,dx,dy,c.1,c.2,k _ S H (Ext.refl s) (den_bl.mpr rfl)⟩
 ·cases q
end
noncomputable def nw:D -> Bool
 | .non=>true | _=>false
noncomputable def Jg (neg:Bool) (d e:D):Option D:=match e with | .non=>some (.bl (if neg then !nw d else nw d)) | _=>none
section
variable {K:W.Frag}
theorem Hk {S H:Hp} {d:D} {v:V} (h:DenP K S H d v):decide (v = .non) = nw d:=by
 cases d with
 | non=>rw [h.non];rfl
 | bl b=>rw [h.bl];rfl
 | int b=>rw [h.int];rfl
 | str b=>rw [h.str];rfl
 | ty b=>rw [h.ty];rfl
 | lst l=>
  rcases h with h | ⟨_,p,_,_,e,_⟩
  ·obtain ⟨p,_,e,_⟩:=den_lst.mp h
   rw [e];rfl
  ·rw [e];rfl
 | tup l=>
  rcases h with h | ⟨_,p,_,_,e,_⟩
  ·obtain ⟨p,_,e,_⟩:=gr h
   rw [e];rfl
  ·rw [e];rfl
 | scr l=>
  rcases h with h | ⟨_,p,_,_,e,_⟩
  ·obtain ⟨p,_,e,_⟩:=den_scr.mp h
   rw [e];rfl
  ·rw [e];rfl
 | ins C ns l=>
  rcases h with h | ⟨_,p,_,_,e,_⟩
  ·obtain ⟨p,_,_,_,e,_⟩:=den_ins.mp h
   rw [e];rfl
  ·rw [e];rfl
 | dic ks=>
  rcases h with h | ⟨_,p,_,_,e,_⟩
  ·obtain ⟨p,e,_⟩:=den_dic.mp h
   rw [e];rfl
  ·rw [e];rfl
 | mtp l=>
  rcases h with h | ⟨_,p,_,_,e,_⟩
  ·obtain ⟨p,_,e,_⟩:=den_mtp.mp h
   rw [e];rfl
  ·rw [e];rfl
 | dif ks=>
  rcases h with h | ⟨_,p,_,_,e,_⟩
  ·obtain ⟨p,_,e,_⟩:=den_dif.mp h
   rw [e];rfl
  ·rw [e];rfl
theorem JL:SR2 K K4 (Jg true):=fun S H x y d e z Q s dx dy q k=>by
 cases e <;> try (cases q;done)
 cases q
 exact ⟨dy.non,by rw [Hk dx];exact k _ S H (Ext.refl s) (den_bl.mpr rfl)⟩
end
noncomputable def dIx:D -> D -> Option D
 | .lst l,.int i=>atI l i
 | .tup l,.int i=>atI l i
 | .scr l,.int i=>atI l i
 | .str x,.int i=>if x.length <= LIM then (atI x.cps.toList i).map fun c=>.str ⟨#[c]⟩ else none
 | _,_=>none
section
variable {K:W.Frag}
theorem rC {S:Hp} {ds:List D} {xs:List V} {i:Int} {d:D} (h:Dens K S ds xs) (e:atI ds i = some d):∃ v,atI xs i = some v /\ Den K S d v:=by
 unfold atI at e ⊢
 rw [<- h.length]
 cases q:ixN ds.length i with
 | none=>rw [q] at e;cases e
 | some j=>
  rw [q] at e
  exact h.get e
theorem fK:SR2 K (rIx K) dIx:=fun S H x y d e z Q s dx dy q k=>by
 cases d <;> cases e <;> try (cases q;done)
 ·rename_i x' i
  have q':(if x'.length <= LIM then (atI x'.cps.toList i).map fun c=>D.str ⟨#[c]⟩ else none) = some z:=q
  split at q'
  ·rename_i hl
   cases qc:atI x'.cps.toList i with
   | none=>rw [qc] at q';cases q'
   | some c=>
    rw [qc] at q'
    cases q'
    exact .inr (.inr ⟨x',i,c,dx.str,dy.int,oK hl,qc,k _ S H (Ext.refl s) (den_str.mpr rfl)⟩)
  ·cases q'
 ·rename_i l i
  obtain ⟨p,xs,rfl,h1,h2⟩:=dx.lst s
  obtain ⟨v,h3,h4⟩:=rC h2 q
  exact .inl ⟨p,xs,i,v,rfl,dy.int,.inl h1,h3,k v S H (Ext.refl s) h4⟩
 ·rename_i l i
  obtain ⟨p,xs,rfl,h1,h2⟩:=dx.tup s
  obtain ⟨v,h3,h4⟩:=rC h2 q
  exact .inr (.inl ⟨p,xs,i,v,rfl,dy.int,h1,h3,k v S H (Ext.refl s) h4⟩)
 ·rename_i l i
  obtain ⟨p,xs,rfl,h1,h2⟩:=dx.scr s
  obtain ⟨v,h3,h4⟩:=rC h2 q
  exact .inl ⟨p,xs,i,v,rfl,dy.int,h1,h3,k v S H (Ext.refl s) h4⟩
end
noncomputable def jk {α:Type} (xs:List α) (lo hi:Option Int):List α:=(xs.drop (HT.sIx xs.length 0 lo)).take (HT.sIx xs.length xs.length hi - HT.sIx xs.length 0 lo)
noncomputable def K6 (K:W.Frag):V -> Option Int -> Option Int -> Hp -> VK -> Prop:=fun x lo hi H Q=>K5 K x lo hi H Q \/
 ∃ a xs,x = .ref a /\ SqT K H a xs /\ (mn xs lo hi = xs -> Q (.ref a) H) /\ ∀ p,H p = none -> Q (.ref p) (upd H p (.tup (mn xs lo hi)))
noncomputable abbrev XO:=Env -> Option (Option Int)
def SO (K:W.Frag) (t:TO) (o:XO):Prop:=∀ ρ σ S H (Q:Option Int -> Hp -> Prop) i,Rl K ρ σ S H -> o ρ = some i -> (∀ S' H',Ext S H S' H' -> Q i H') -> t σ H Q
@[simp] noncomputable def LZ:XO:=fun _=>some none
@[simp] noncomputable def wb (a:XE):XO:=fun ρ=>(a ρ).bind fun d=>match d with | .int i=>some (some i) | _=>none
section
variable {K:W.Frag}
theorem FS {ta:TE} {a:XE} (h:SPk K ta a):SO K (IK ta) (wb a):=fun ρ σ S H Q i r x k=>by
 unfold wb at x
 cases q:a ρ with
 | none=>rw [q] at x;cases x
 | some d=>
  rw [q] at x
  dsimp only [Option.bind] at x
  cases d <;> try (cases x;done)
  rename_i j
  cases x
  exact h ρ σ S H _ _ r q fun v S1 H1 z1 d1=>⟨j,d1.int,k S1 H1 z1⟩
theorem mZ {S:Hp} {ds:List D} {xs:List V} (h:Dens K S ds xs) (lo hi:Option Int):Dens K S (jk ds lo hi) (mn xs lo hi):=by
 unfold jk mn
 rw [h.length]
 exact (h.drop _).take _
noncomputable def dSl (d:D) (lo hi:Option Int):Option D:=match d with
 | .lst l=>some (.lst (jk l lo hi))
 | .tup l=>some (.tup (jk l lo hi))
 | .scr l=>some (.lst (jk l lo hi))
 | _=>none
@[simp] noncomputable def xSl (a:XE) (lo hi:XO):XE:=fun ρ=>(a ρ).bind fun d=>(lo ρ).bind fun l=>(hi ρ).bind fun h=>dSl d l h
theorem Mi {te:TE} {tl th:TO} {a:XE} {lo hi:XO} (ha:SPk K te a) (hl:SO K tl lo) (hh:SO K th hi):SE K (tSl (K6 K) te tl th) (xSl a lo hi):=fun ρ σ S H Q g r x k=>by
 unfold xSl at x
 cases q:a ρ with
 | none=>rw [q] at x;cases x
 | some d=>
  rw [q] at x
  dsimp only [Option.bind] at x
  cases ql:lo ρ with
  | none=>rw [ql] at x;cases x
  | some l=>
   rw [ql] at x
   dsimp only at x
   cases qh:hi ρ with
   | none=>rw [qh] at x;cases x
   | some h=>
    rw [qh] at x
    dsimp only at x
    refine ha ρ σ S H _ d r q fun v S1 H1 z1 d1=>?_
    have r1:=r.ext z1
    refine hl ρ σ S1 H1 _ l r1 ql fun S2 H2 z2=>?_
    have r2:=r1.ext z2
    refine hh ρ σ S2 H2 _ h r2 qh fun S3 H3 z3=>?_
    have z23:=z2.trans z3
    have d3:=d1.mono z23 r1.sub
    have s3:=(r2.ext z3).sub
    have z:=z1.trans z23
    cases d <;> try (cases x;done)
    ·cases x
     obtain ⟨p,xs,rfl,h1,h2⟩:=d3.lst s3
     refine .inl ⟨p,xs,rfl,.inl h1,fun p' hp=>?_⟩
     have z4:=Ext.new (o:=.lst (mn xs l h)) s3 hp
     exact k _ _ _ (z.trans z4) (den_lst.mpr ⟨p',_,rfl,.inl aD,(mZ h2 l h).mono z4.sh⟩)
    ·rename_i ds
     cases x
     have d3':Den K S3 (.tup ds) v:=d3.elim id fun ⟨_,_,_,e,_⟩=>by cases e
     obtain ⟨p,xs,e,h1,h2⟩:=d3.tup s3
     subst e
     refine .inr ⟨p,xs,rfl,h1,fun e=>k _ S3 H3 z ?_,fun p' hp=>?_⟩
     ·obtain ⟨p2,xs2,e2,h3,h4⟩:=den_tup.mp d3'
      cases e2
      have c:=mZ h2 l h
      rw [e] at c
      refine den_tup.mpr ⟨p,xs2,rfl,h3,?_⟩
      have hlen:=c.length
      have:jk ds l h = ds:=by
       have hl2:(jk ds l h).length = ds.length:=by rw [c.length,h2.length]
       unfold jk at hl2 ⊢
       rw [P6,Ru] at hl2
       have a0:HT.sIx ds.length 0 l = 0 \/ ds.length = 0:=by lia
       rcases a0 with a0 | a0
       ·rw [a0,List.drop_zero] at *
        exact QG (by lia)
       ·have:ds = []:=Qo.mp a0
        subst this
        simp
      rw [this]
      exact h4
     ·have z4:=Ext.new (o:=.tup (mn xs l h)) s3 hp
      exact k _ _ _ (z.trans z4) (den_tup.mpr ⟨p',_,rfl,TpA.of aD,(mZ h2 l h).mono z4.sh⟩)
    ·cases x
     obtain ⟨p,xs,rfl,h1,h2⟩:=d3.scr s3
     refine .inl ⟨p,xs,rfl,h1,fun p' hp=>?_⟩
     have z4:=Ext.new (o:=.lst (mn xs l h)) s3 hp
     exact k _ _ _ (z.trans z4) (den_lst.mpr ⟨p',_,rfl,.inl aD,(mZ h2 l h).mono z4.sh⟩)
noncomputable def Iw (K:W.Frag):List V -> Hp -> VK -> Prop:=fun xs H Q=>∃ x n,xs = [x] /\ Ko K x H n /\ Q (.int n) H
noncomputable def jd:List D -> Option D
 | [.lst l]=>some (.int l.length)
 | [.tup l]=>some (.int l.length)
 | [.scr l]=>some (.int l.length)
 | [.str x]=>if x.length <= LIM then some (.int x.length) else none
 | _=>none
theorem gD {S H:Hp} {d:D} {vs:List V} (h:DensP K S H [d] vs):∃ v,vs = [v] /\ DenP K S H d v:=by
 cases h with
 | cons a b=>cases b;exact ⟨_,rfl,a⟩
theorem Gn {S H:Hp} {d e:D} {vs:List V} (h:DensP K S H [d,e] vs):∃ v w,vs = [v,w] /\ DenP K S H d v /\ DenP K S H e w:=by
 cases h with
 | cons a b=>cases b with
  | cons c b=>cases b;exact ⟨_,_,rfl,a,c⟩
theorem lF:SRB K (Iw K) jd:=fun S H vs ds g Q s d q k=>by
 unfold jd at q
 split at q
 ·rename_i l
  cases q
  obtain ⟨v,rfl,d1⟩:=gD d
  obtain ⟨p,xs,rfl,h1,h2⟩:=d1.lst s
  exact ⟨_,xs.length,rfl,.inl ⟨xs,.inl h1,rfl⟩,k _ S H (Ext.refl s) (den_int.mpr (by rw [h2.length]))⟩
 ·rename_i l
  cases q
  obtain ⟨v,rfl,d1⟩:=gD d
  obtain ⟨p,xs,rfl,h1,h2⟩:=d1.tup s
  exact ⟨_,xs.length,rfl,.inr ⟨xs,h1,rfl⟩,k _ S H (Ext.refl s) (den_int.mpr (by rw [h2.length]))⟩
 ·rename_i l
  cases q
  obtain ⟨v,rfl,d1⟩:=gD d
  obtain ⟨p,xs,rfl,h1,h2⟩:=d1.scr s
  exact ⟨_,xs.length,rfl,.inl ⟨xs,h1,rfl⟩,k _ S H (Ext.refl s) (den_int.mpr (by rw [h2.length]))⟩
 ·rename_i x
  split at q
  ·rename_i hl
   cases q
   obtain ⟨v,rfl,d1⟩:=gD d
   exact ⟨_,x.length,rfl,by rw [d1.str];exact ⟨oK hl,rfl⟩,k _ S H (Ext.refl s) (den_int.mpr rfl)⟩
  ·cases q
 ·cases q
noncomputable def kh:List D -> Option D
 | [.lst l]=>some (.tup l)
 | [.tup l]=>some (.tup l)
 | [.scr l]=>some (.tup l)
 | _=>none
theorem qO:SRB K (JJ K) kh:=fun S H vs ds g Q s d q k=>by
 unfold kh at q
 split at q
 ·rename_i l
  cases q
  obtain ⟨v,rfl,d1⟩:=gD d
  obtain ⟨p,xs,rfl,h1,h2⟩:=d1.lst s
  refine ⟨p,xs,rfl,.inl ⟨.inl h1,fun q hq=>?_⟩⟩
  have z:=Ext.new (o:=.tup xs) s hq
  exact k _ _ _ z (den_tup.mpr ⟨q,_,rfl,TpA.of aD,h2.mono z.sh⟩)
 ·rename_i l
  cases q
  obtain ⟨v,rfl,d1⟩:=gD d
  have d':Den K S (.tup l) v:=d1.elim id fun ⟨_,_,_,e,_⟩=>by cases e
  obtain ⟨p,xs,rfl,h1,h2⟩:=d1.tup s
  exact ⟨p,xs,rfl,.inr ⟨h1,k _ S H (Ext.refl s) d'⟩⟩
 ·rename_i l
  cases q
  obtain ⟨v,rfl,d1⟩:=gD d
  obtain ⟨p,xs,rfl,h1,h2⟩:=d1.scr s
  refine ⟨p,xs,rfl,.inl ⟨h1,fun q hq=>?_⟩⟩
  have z:=Ext.new (o:=.tup xs) s hq
  exact k _ _ _ z (den_tup.mpr ⟨q,_,rfl,TpA.of aD,h2.mono z.sh⟩)
 ·cases q
noncomputable def Ea:List D -> Option (List D)
 | [.lst l]=>some l
 | [.tup l]=>some l
 | [.scr l]=>some l
 | _=>none
noncomputable def BA:List D -> Option D
 | [.int i,.int j]=>some (.int (if j > i then j else i))
 | _=>none
noncomputable def Ku:List D -> Option D
 | [.int i,.int j]=>some (.int (if j < i then j else i))
 | _=>none
theorem I9:SRB K K3 BA:=fun S H vs ds g Q s d q k=>by
 unfold BA at q
 split at q
 ·rename_i i j
  cases q
  obtain ⟨v,w,rfl,d1,d2⟩:=Gn d
  exact ⟨i,j,by rw [d1.int,d2.int],k _ S H (Ext.refl s) (den_int.mpr rfl)⟩
 ·cases q
noncomputable def aK:List D -> Option (List Int)
 | []=>some []
 | .int i :: l=>(aK l).map fun r=>i :: r
 | _=>none
theorem eN {S:Hp}:∀ {ds:List D} {xs:List V} {ns:List Int},Dens K S ds xs -> aK ds = some ns -> xs = ns.map V.int /\ ds = ns.map D.int
 | [],xs,ns,h,e=>by cases e;exact ⟨h.nil_of,rfl⟩
 | d :: ds,xs,ns,h,e=>by
  obtain ⟨y,ys,rfl,h1,h2⟩:=h.cons_of
  cases d <;> try (cases e;done)
  rename_i i
  have e':(aK ds).map (fun r=>i :: r) = some ns:=e
  cases q:aK ds with
  | none=>rw [q] at e';cases e'
  | some ms=>
   rw [q] at e'
   cases e'
   obtain ⟨k1,k2⟩:=eN h2 q
   rw [den_int.mp h1,k1]
   exact ⟨rfl,OG (D.int i :: ·) k2⟩
theorem fG:∀ ns:List Int,aK (ns.map D.int) = some ns
 | []=>rfl
 | n :: ns=>by rw [Ox,aK,fG ns];rfl
noncomputable def t3:List D -> Option D
 | [.lst l]=>(aK l).map fun ns=>.int ns.sum
 | _=>none
theorem BB:SRB K (Iz K) t3:=fun S H vs ds g Q s d q k=>by
 unfold t3 at q
 split at q
 ·rename_i l
  cases qi:aK l with
  | none=>rw [qi] at q;cases q
  | some ns=>
   rw [qi] at q
   cases q
   obtain ⟨v,rfl,d1⟩:=gD d
   obtain ⟨p,xs,rfl,h1,h2⟩:=d1.lst s
   obtain ⟨e,_⟩:=eN h2 qi
   subst e
   exact ⟨p,ns,rfl,.inl h1,k _ S H (Ext.refl s) (den_int.mpr rfl)⟩
 ·cases q
noncomputable def xN:List D -> Option D
 | [.int i]=>some (.int i)
 | [.bl b]=>some (.int (if b then 1 else 0))
 | _=>none
theorem Kv:SRB K KZ xN:=fun S H vs ds g Q s d q k=>by
 unfold xN at q
 split at q
 ·rename_i i
  cases q
  obtain ⟨v,rfl,d1⟩:=gD d
  exact .inl ⟨i,by rw [d1.int],k _ S H (Ext.refl s) (den_int.mpr rfl)⟩
 ·rename_i i
  cases q
  obtain ⟨v,rfl,d1⟩:=gD d
  exact .inr ⟨i,by rw [d1.bl],k _ S H (Ext.refl s) (den_int.mpr rfl)⟩
 ·cases q
@[simp] noncomputable def Nw (a:XE):XA:=fun ρ=>(a ρ).bind fun d=>match d with | .lst l=>some l.reverse | _=>none
noncomputable def tyD:D -> Option String
 | .non=>some "NoneType" | .bl _=>some "bool" | .int _=>some "int" | .str _=>some "str" | .lst _=>some "list" | .tup _=>some "tuple" | _=>none
noncomputable def HU (t T:String):Bool:=t == T || (t == "bool" && T == "int")
def tyM (K:W.Frag) (H:Hp) (x:V) (t:String):Prop:=match x with
 | .non=>t = "NoneType" | .bl _=>t = "bool" | .int _=>t = "int" | .str _=>t = "str"
 | .ref p=>(t = "list" /\ ∃ xs,Rd H p (.lst xs)) \/ (t = "tuple" /\ ∃ xs,SqT K H p xs)
 | _=>False
noncomputable def KG:List String:=["bool", "int", "str", "list", "tuple"]
noncomputable def Iv (K:W.Frag):List V -> Hp -> VK -> Prop:=fun xs H Q=>∃ x T t,xs = [x,.ty T] /\ tyM K H x t /\ T ∈ KG /\ Q (.bl (HU t T)) H
noncomputable def wt:List D -> Option D
 | [d,.ty T]=>if T ∈ KG then (tyD d).map fun t=>.bl (HU t T) else none
 | _=>none
theorem Ly {S H:Hp} {d:D} {v:V} {t:String} (s:Same S H) (h:DenP K S H d v) (e:tyD d = some t):tyM K H v t:=by
 cases d with
 | non=>rw [h.non];cases e;rfl
 | bl b=>rw [h.bl];cases e;rfl
 | int b=>rw [h.int];cases e;rfl
 | str b=>rw [h.str];cases e;rfl
 | lst l=>
  cases e
  obtain ⟨p,xs,rfl,h1,h2⟩:=h.lst s
  exact .inl ⟨rfl,xs,h1⟩
 | tup l=>
  cases e
  obtain ⟨p,xs,rfl,h1,h2⟩:=h.tup s
  exact .inr ⟨rfl,xs,h1⟩
 | _=>cases e
theorem Ic:SRB K (Iv K) wt:=fun S H vs ds g Q s d q k=>by
 unfold wt at q
 split at q
 ·rename_i d0 T
  split at q
  ·rename_i hT
   cases qt:tyD d0 with
   | none=>rw [qt] at q;cases q
   | some t=>
    rw [qt] at q
    cases q
    obtain ⟨v,w,rfl,d1,d2⟩:=Gn d
    exact ⟨v,T,t,by rw [d2.ty],Ly s d1 qt,hT,k _ S H (Ext.refl s) (den_bl.mpr rfl)⟩
  ·cases q
 ·cases q
end
noncomputable def nQ (k:List Int):D:=.tup (k.map D.int)
noncomputable def Hb:D -> Option (List Int)
 | .tup l=>if l.isEmpty then none else aK l
 | _=>none
noncomputable def keys:List D -> Option (List (List Int))
 | []=>some []
 | d :: l=>(Hb d).bind fun k=>(keys l).map fun r=>k :: r
theorem yz:∀ a b:List Int,HT.cu a b = true -> HT.cu b a = false
 | [],[],h=>by cases h
 | [],_ :: _,_=>rfl
 | _ :: _,[],h=>by cases h
 | x :: a,y :: b,h=>by
  have h':(if x = y then HT.cu a b else decide (x < y)) = true:=h
  show (if y = x then HT.cu b a else decide (y < x)) = false
  by_cases e:x = y
  ·rw [Oj e] at h';rw [Oj e.symm];exact yz a b h'
  ·rw [Oi e] at h';rw [Oi (fun z=>e z.symm)]
   have:=Qc h'
   exact OY (by lia)
theorem vp:∀ a b:List Int,HT.cu a b = false -> HT.cu b a = false -> a = b
 | [],[],_,_=>rfl
 | [],_ :: _,h,_=>by cases h
 | _ :: _,[],_,h=>by cases h
 | x :: a,y :: b,h,k=>by
  have h':(if x = y then HT.cu a b else decide (x < y)) = false:=h
  have k':(if y = x then HT.cu b a else decide (y < x)) = false:=k
  by_cases e:x = y
  ·rw [Oj e] at h';rw [Oj e.symm] at k'
   rw [e,vp a b h' k']
  ·rw [Oi e] at h';rw [Oi (fun z=>e z.symm)] at k'
   have:=Pq h'
   have:=Pq k'
   lia
theorem vq:∀ a b c:List Int,HT.cu a b = false -> HT.cu b c = false -> HT.cu a c = false
 | [],[],_,_,k=>k
 | [],_ :: _,_,h,_=>by cases h
 | _ :: _,_,[],_,_=>rfl
 | _ :: _,[],_ :: _,_,k=>by cases k
 | x :: a,y :: b,z :: c,h,k=>by
  have h':(if x = y then HT.cu a b else decide (x < y)) = false:=h
  have k':(if y = z then HT.cu b c else decide (y < z)) = false:=k
  show (if x = z then HT.cu a c else decide (x < z)) = false
  by_cases e1:x = y
  ·rw [Oj e1] at h'
   subst e1
   by_cases e2:x = z
   ·rw [Oj e2] at k' ⊢;exact vq a b c h' k'
   ·rw [Oi e2] at k' ⊢;exact k'
  ·rw [Oi e1] at h'
   have g1:=Pq h'
   by_cases e2:y = z
   ·subst e2
    rw [Oi e1];exact h'
   ·rw [Oi e2] at k'
    have g2:=Pq k'
    rw [Oi (by lia)]
    exact OY (by lia)
noncomputable def C1 (x:List Int):List (List Int) -> List (List Int)
 | []=>[x]
 | y :: l=>if HT.cu y x = true then y :: C1 x l else x :: y :: l
noncomputable def gK (ks:List (List Int)):List (List Int):=ks.foldr C1 []
theorem vh (x:List Int) (l:List (List Int)):(C1 x l).Perm (x :: l):=by
 induction l with
 | nil=>exact .refl _
 | cons y l ih=>
  unfold C1
  split
  ·exact (ih.cons y).trans (.swap x y l)
  ·exact .refl _
noncomputable def dw (ns:List Int):List Int:=ns.mergeSort fun a b=>decide (a <= b)
theorem gL (ks:List (List Int)):(gK ks).Perm ks:=by
 induction ks with
 | nil=>exact .refl _
 | cons x l ih=>exact (vh x (gK l)).trans (ih.cons x)
theorem eZ (ns:List Int):(dw ns).Perm ns:=List.mergeSort_perm _ _
theorem G7 (x:List Int) (l:List (List Int)) (h:l.Pairwise fun a b=>HT.cu b a = false):(C1 x l).Pairwise fun a b=>HT.cu b a = false:=by
 induction l with
 | nil=>exact .cons (fun _ z=>by cases z) .nil
 | cons y l ih=>
  have hy:∀ z,z ∈ l -> HT.cu z y = false:=fun z hz=>List.rel_of_pairwise_cons h hz
  unfold C1
  cases q:HT.cu y x with
  | true=>
   refine .cons (fun z hz=>?_) (ih (List.Pairwise.of_cons h))
   rcases Oy.mp ((vh x l).mem_iff.mp hz) with rfl | hz
   ·exact yz y _ q
   ·exact hy z hz
  | false=>
   refine .cons (fun z hz=>?_) h
   rcases Oy.mp hz with rfl | hz
   ·exact q
   ·exact vq z y x (hy z hz) q
theorem nJ (ks:List (List Int)):(gK ks).Pairwise fun a b=>HT.cu b a = false:=by
 induction ks with
 | nil=>exact .nil
 | cons x l ih=>exact G7 x (gK l) ih
theorem zA (ns:List Int):(dw ns).Pairwise (· <= ·):=by
 have h:=List.pairwise_mergeSort (le:=fun a b:Int=>decide (a <= b)) (fun a b c h k=>by
  have:=Qc h;have:=Qc k;exact Pb (by lia)) (fun a b=>by
  by_cases h:a <= b
  ·simp [h]
  ·simp [show b <= a by lia]) ns
 exact h.imp fun {a b} e=>Qc e
theorem Bi {ks js:List (List Int)} (hp:js.Perm ks) (hw:js.Pairwise fun a b=>HT.cu b a = false):js = gK ks:=
 R0 (fun a b _ _ h k=>vp a b k h) hw (nJ ks) (hp.trans (gL ks).symm)
theorem tL {ns ms:List Int} (hp:ms.Perm ns) (hw:ms.Pairwise (· <= ·)):ms = dw ns:=
 R0 (fun a b _ _ h k=>by lia) hw (zA ns) (hp.trans (eZ ns).symm)
noncomputable def FA (K:W.Frag):List V -> Hp -> VK -> Prop:=fun xs H Q=>∃ p,∃ yks:List (V × List Int),xs = [.ref p] /\ SqL K H p (yks.map (·.1)) /\ yks.length < 30000 /\ (∀ yk ∈ yks,∃ q,yk.1 = .ref q /\ SqT K H q (yk.2.map V.int) /\ yk.2 ≠ []) /\
 ∀ (zks:List (V × List Int)) l,zks.Perm yks -> zks.Pairwise (fun a b=>HT.cu b.2 a.2 = false) -> H l = none -> Q (.ref l) (upd H l (.lst (zks.map (·.1))))
noncomputable def zc (K:W.Frag):List V -> Hp -> VK -> Prop:=fun xs H Q=>zb K xs H Q \/ FA K xs H Q
noncomputable def fW:List D -> Option (List D)
 | [.lst l]=>if l.length < 30000 then (match aK l with
  | some ns=>some ((dw ns).map D.int)
  | none=>(keys l).map fun ks=>(gK ks).map nQ) else none
 | _=>none
section
variable {K:W.Frag}
theorem Hc {d:D} {k:List Int} (h:Hb d = some k):d = nQ k /\ k ≠ []:=by
 cases d <;> try (cases h;done)
 rename_i l
 have h':(if l.isEmpty then none else aK l) = some k:=h
 split at h'
 ·cases h'
 ·rename_i hne
  have key:∀ (l:List D) (k:List Int),aK l = some k -> l = k.map D.int:=by
   intro l
   induction l with
   | nil=>intro k e;cases e;rfl
   | cons d l ih=>
    intro k e
    cases d <;> try (cases e;done)
    rename_i i
    have e':(aK l).map (fun r=>i :: r) = some k:=e
    cases q:aK l with
    | none=>rw [q] at e';cases e'
    | some m=>rw [q] at e';cases e';rw [ih m q];rfl
  have e:=key l k h'
  subst e
  exact ⟨rfl,fun z=>by subst z;exact hne rfl⟩
theorem BR:∀ {l:List D} {ks:List (List Int)},keys l = some ks -> l = ks.map nQ /\ ∀ k ∈ ks,k ≠ []
 | [],ks,h=>by cases h;exact ⟨rfl,fun _ h=>by cases h⟩
 | d :: l,ks,h=>by
  have h':((Hb d).bind fun k=>(keys l).map fun r=>k :: r) = some ks:=h
  cases q:Hb d with
  | none=>rw [q] at h';cases h'
  | some k=>
   rw [q] at h'
   dsimp only [Option.bind] at h'
   cases q2:keys l with
   | none=>rw [q2] at h';cases h'
   | some r=>
    rw [q2] at h'
    cases h'
    obtain ⟨a,b⟩:=BR q2
    obtain ⟨c,d⟩:=Hc q
    refine ⟨by rw [Ox,<- a,<- c],fun k hk=>?_⟩
    rcases Oy.mp hk with rfl | hk
    ·exact d
    ·exact b k hk
theorem sn:∀ {S:Hp} {k:List Int} {xs:List V},Dens K S (k.map D.int) xs -> xs = k.map V.int
 | S,[],xs,h=>h.nil_of
 | S,i :: k,xs,h=>by
  obtain ⟨y,ys,rfl,h1,h2⟩:=h.cons_of
  rw [den_int.mp h1,sn h2]
  rfl
theorem x9 {S:Hp}:∀ {ks:List (List Int)} {xs:List V},Dens K S (ks.map nQ) xs -> (xs.zip ks).map (·.1) = xs /\ (xs.zip ks).map (·.2) = ks /\ (xs.zip ks).length = ks.length /\ ∀ yk ∈ xs.zip ks,Den K S (nQ yk.2) yk.1
 | [],xs,h=>by rw [h.nil_of];exact ⟨rfl,rfl,rfl,fun _ h=>by cases h⟩
 | k :: ks,xs,h=>by
  obtain ⟨y,ys,rfl,h1,h2⟩:=h.cons_of
  obtain ⟨a,b,c,d⟩:=x9 h2
  refine ⟨by rw [Q5,Ox,a],by rw [Q5,Ox,b],by rw [Q5,Ow,c,Ow],fun yk hm=>?_⟩
  rw [Q5] at hm
  rcases Oy.mp hm with rfl | hm
  ·exact h1
  ·exact d yk hm
theorem lL {S:Hp}:∀ {zks:List (V × List Int)},(∀ yk ∈ zks,Den K S (nQ yk.2) yk.1) -> Dens K S ((zks.map (·.2)).map nQ) (zks.map (·.1))
 | [],_=>.nil
 | yk :: zks,h=>.cons (h yk Oq) (lL fun z hz=>h z (Ou _ hz))
theorem rH:SRF K (zc K) fW:=fun S H vs ds g Q s d q k=>by
 unfold fW at q
 split at q
 ·rename_i l
  split at q
  ·rename_i hl
   obtain ⟨v,rfl,d1⟩:=gD d
   obtain ⟨p,xs,rfl,h1,h2⟩:=d1.lst s
   cases qi:aK l with
   | some ns=>
    rw [qi] at q
    cases q
    obtain ⟨e1,e2⟩:=eN h2 qi
    subst e1 e2
    refine .inl ⟨p,ns,rfl,.inl h1,by rw [Os] at hl;exact hl,fun ms a pm pw ha=>?_⟩
    rw [tL pm pw]
    refine k a _ _ (Ext.own s ha) ha aD ?_
    have key:∀ ns:List Int,Dens K S (ns.map D.int) (ns.map V.int):=by
     intro ns
     induction ns with
     | nil=>exact .nil
     | cons n ns ih=>exact .cons (den_int.mpr rfl) ih
    exact key _
   | none=>
    rw [qi] at q
    dsimp only at q
    cases qk:keys l with
    | none=>rw [qk] at q;cases q
    | some ks=>
     rw [qk] at q
     cases q
     obtain ⟨e1,e2⟩:=BR qk
     subst e1
     obtain ⟨a,b,c,dd⟩:=x9 h2
     refine .inr ⟨p,xs.zip ks,rfl,by rw [a];exact .inl h1,by rw [c];rw [Os] at hl;exact hl,fun yk hm=>?_,fun zks l pm pw hl=>?_⟩
     ·obtain ⟨q,ys,e,g1,g2⟩:=gr (dd yk hm)
      have:=sn g2
      subst this
      refine ⟨q,e,a8 s g1,e2 _ ?_⟩
      rw [<- b]
      exact OI.mpr ⟨yk,hm,rfl⟩
     ·have e:zks.map (·.2) = gK ks:=by
       refine Bi ?_ ?_
       ·rw [<- b];exact pm.map _
       ·rw [Pw];exact pw
      have dz:Dens K S ((zks.map (·.2)).map nQ) (zks.map (·.1)):=lL fun yk hm=>dd yk (pm.mem_iff.mp hm)
      rw [e] at dz
      exact k l _ _ (Ext.own s hl) hl aD dz
  ·cases q
 ·cases q
theorem o6 {ta:TE} {a:XE} (ha:SPk K ta a):ST K (Lx K ta) (pd a):=Lh ha
end
noncomputable def Kw:D -> D -> Option D:=dI fun i j=>some (.int (i + j))
section
variable {K:W.Frag}
end
theorem JZ {K:W.Frag} {ta:TE} {a:XE} (ha:SQ K ta a):ST K (Lx K ta) (pd a):=fun ρ σ S H Q b r x k=>by
 unfold pd at x
 cases qa:a ρ with
 | none=>rw [qa] at x;cases x
 | some da=>
  rw [qa] at x
  exact ha ρ σ S H _ da r qa fun v S1 H1 z1 d1=>⟨b,Gi (Same.refl H1) (.inl d1) x,k S1 H1 z1⟩
theorem mI (g:XG) (m:XS) (d:D) (l:List D) (ρ:Env):dt g m (d :: l) ρ = (g d ρ).bind fun ρ1=>match m ρ1 with
  | some (.nx ρ2)=>dt g m l ρ2
  | some (.ct ρ2)=>dt g m l ρ2
  | some (.bk ρ2)=>some (.nx ρ2)
  | some (.rt d)=>some (.rt d)
  | some (.ro d)=>some (.ro d)
  | none=>none:=rfl
theorem Dc {α:Type} {g:XG} {m:XS} (enc:α -> D) (P:List α -> Env -> Prop) (R:D -> Prop) (B:Env -> Prop) (l:List α) (ρ0:Env) (h0:P [] ρ0)
  (step:∀ pre a post ρ,l = pre ++ a :: post -> P pre ρ -> ∃ ρ1 o,g (enc a) ρ = some ρ1 /\ m ρ1 = some o /\ (match o with | .nx ρ2=>P (pre ++ [a]) ρ2 | .ct ρ2=>P (pre ++ [a]) ρ2 | .bk ρ2=>B ρ2 | .rt d=>R d | .ro _=>False)) :
  ∃ o,dt g m (l.map enc) ρ0 = some o /\ (match o with | .nx ρ'=>P l ρ' \/ B ρ' | .rt d=>R d | _=>False):=by
 have key:∀ (post pre:List α) (ρ:Env),l = pre ++ post -> P pre ρ -> ∃ o,dt g m (post.map enc) ρ = some o /\ (match o with | .nx ρ'=>P l ρ' \/ B ρ' | .rt d=>R d | _=>False):=by
  intro post
  induction post with
  | nil=>
   intro pre ρ e p
   rw [OZ] at e
   subst e
   exact ⟨_,rfl,.inl p⟩
  | cons a post ih=>
   intro pre ρ e p
   obtain ⟨ρ1,o,h1,h2,h3⟩:=step pre a post ρ e p
   rw [Ox,mI,h1]
   dsimp only [Option.bind]
   rw [h2]
   cases o with
   | nx ρ2=>exact ih (pre ++ [a]) ρ2 (by rw [e,OV];rfl) h3
   | ct ρ2=>exact ih (pre ++ [a]) ρ2 (by rw [e,OV];rfl) h3
   | bk ρ2=>exact ⟨_,rfl,.inr h3⟩
   | rt d=>exact ⟨_,rfl,h3⟩
   | ro d=>exact h3.elim
 exact key l [] ρ0 rfl h0
theorem bI {α:Type} {g:XG} {m:XS} (enc:α -> D) (P:List α -> Env -> Prop) (l:List α) (ρ0:Env) (h0:P [] ρ0)
  (step:∀ pre a post ρ,l = pre ++ a :: post -> P pre ρ -> ∃ ρ1 ρ2,g (enc a) ρ = some ρ1 /\ (m ρ1 = some (.nx ρ2) \/ m ρ1 = some (.ct ρ2)) /\ P (pre ++ [a]) ρ2) :
  ∃ ρ',dt g m (l.map enc) ρ0 = some (.nx ρ') /\ P l ρ':=by
 obtain ⟨o,h1,h2⟩:=Dc (g:=g) (m:=m) enc P (fun _=>False) (fun _=>False) l ρ0 h0 fun pre a post ρ e p=>by
  obtain ⟨ρ1,ρ2,k1,k2,k3⟩:=step pre a post ρ e p
  rcases k2 with k2 | k2
  ·exact ⟨ρ1,_,k1,k2,k3⟩
  ·exact ⟨ρ1,_,k1,k2,k3⟩
 cases o with
 | nx ρ'=>exact ⟨ρ',h1,h2.elim id False.elim⟩
 | rt d=>exact h2.elim
 | ro d=>exact h2.elim
 | bk ρ'=>exact h2.elim
 | ct ρ'=>exact h2.elim
noncomputable def fO (g:XG) (c:XT) (e:XE) (ρ0:Env) (d:D):Option (Option D):=(g d ρ0).bind fun ρ1=>(c ρ1).bind fun b=>if b = true then (e ρ1).map some else some none
theorem dE {α:Type} {g:XG} {c:XT} {e:XE} {ρ0:Env} (enc:α -> D) (f:α -> Option D):∀ (l:List α),(∀ a ∈ l,fO g c e ρ0 (enc a) = some (f a)) -> bR g c e ρ0 (l.map enc) = some (l.filterMap f)
 | [],_=>rfl
 | a :: l,h=>by
  have ih:=dE (g:=g) (c:=c) (e:=e) (ρ0:=ρ0) enc f l fun b hb=>h b (Ou _ hb)
  have h1:=h a Oq
  unfold fO at h1
  rw [Ox,bR]
  cases q1:g (enc a) ρ0 with
  | none=>rw [q1] at h1;cases h1
  | some ρ1=>
   rw [q1] at h1
   dsimp only [Option.bind] at h1 ⊢
   cases q2:c ρ1 with
   | none=>rw [q2] at h1;cases h1
   | some b=>
    rw [q2] at h1
    dsimp only at h1 ⊢
    cases b with
    | false=>
     rw [Oi (by decide)] at h1 ⊢
     rw [ih,OW]
     have:f a = none:=(O2 h1).symm
     rw [this]
    | true=>
     rw [Oj rfl] at h1 ⊢
     cases q3:e ρ1 with
     | none=>rw [q3] at h1;cases h1
     | some y=>
      rw [q3] at h1
      have:f a = some y:=(O2 h1).symm
      rw [ih,OW,this]
      rfl
theorem cR {α:Type} {g:XG} {e:XE} {ρ0:Env} (enc:α -> D) (f:α -> D) (l:List α) (h:∀ a ∈ l,fO g eE e ρ0 (enc a) = some (some (f a))):bR g eE e ρ0 (l.map enc) = some (l.map f):=by
 rw [dE enc (fun a=>some (f a)) l h]
 exact OG some (congrFun List.filterMap_eq_map' l)
noncomputable abbrev prD (p:Int × Int):D:=.tup [.int p.1,.int p.2]
noncomputable abbrev HE (r:List (Int × Int)):D:=.tup (r.map prD)
noncomputable abbrev wU (r:List (Int × Int)):D:=.lst (r.map prD)
@[simp] theorem rD {α:Type} (l:List α) (x:α):atI (l ++ [x]) (-1) = some x:=by
 unfold atI ixN
 rw [Oi (by decide),Ov,Pv,Oj (by lia)]
 have:((-1:Int) + ((l.length + 1:Nat):Int)).toNat = l.length:=by lia
 dsimp only [Option.bind]
 rw [this]
 simp
theorem IY {α:Type} {l:List α} {j:Nat} {x:α} (h:l[j]? = some x):atI l (j:Int) = some x:=by
 have:=(O5.mp h).1
 unfold atI ixN
 rw [Oj (by lia),Oj (by lia)]
 dsimp only [Option.bind]
 rw [PV]
 exact h
@[simp] theorem vK (l:List O) (x:O) (f:O -> O):tq (l ++ [x]) (-1) f = l ++ [f x]:=by
 unfold tq ixN
 rw [Oi (by decide),Ov,Pv,Oj (by lia)]
 have:((-1:Int) + ((l.length + 1:Nat):Int)).toNat = l.length:=by lia
 dsimp only
 rw [this]
 simp
@[simp] theorem Kk {α:Type} (l:List α) (a b:α):atI (l ++ [a,b]) (-1) = some b:=by
 have:=rD (l ++ [a]) b
 rw [OV] at this
 exact this
@[simp] theorem LL {α:Type} (a:α):atI [a] (-1) = some a:=rD [] a
@[simp] theorem JG (l:List O) (a b:O) (f:O -> O):tq (l ++ [a,b]) (-1) f = l ++ [a,f b]:=by
 have:=vK (l ++ [a]) b f
 rw [OV,OV] at this
 exact this
@[simp] theorem KS (a:O) (f:O -> O):tq [a] (-1) f = [f a]:=vK [] a f
@[simp] theorem Ky (i:Int):ox (.int i) = some (.int i):=rfl
@[simp] theorem LN (i:Bool):ox (.bl i) = some (.bl i):=rfl
@[simp] theorem KA (i:Str):ox (.str i) = some (.str i):=rfl
@[simp] theorem Kz:ox .non = some .non:=rfl
@[simp] theorem LS (a b:O) (f:O -> O):tq [a,b] 1 f = [a,f b]:=rfl
theorem EL {n:Nat}:ixN (n + 1) (-1) = some n:=by
 unfold ixN
 rw [Oi (by decide),Oj (by lia)]
 congr 1
 lia
section
variable (i j:Int) (a b:List D) (neg:Bool) (ρ:Env)
@[simp] theorem Ng:x4 (.int i) (.int j) = some (.int (i - j)):=rfl
@[simp] theorem M3:bQ (.int i) (.int j) = some (.int (i + j)):=rfl
@[simp] theorem Mk:Kw (.int i) (.int j) = some (.int (i + j)):=rfl
@[simp] theorem NY:dLt (.int i) (.int j) = some (.bl (decide (i < j))):=rfl
@[simp] theorem NW:dLe (.int i) (.int j) = some (.bl (decide (i <= j))):=rfl
@[simp] theorem NV:dGt (.int i) (.int j) = some (.bl (decide (j < i))):=rfl
@[simp] theorem NU:dGe (.int i) (.int j) = some (.bl (decide (j <= i))):=rfl
@[simp] theorem Nb:iu (.int i) = some (.int (-i)):=rfl
@[simp] theorem Mw {i j:Int} (h:-18446744073709551616 < j /\ j < 18446744073709551616):jl (.int i) (.int j) = some (.int (i * j)):=fX (.inr h)
@[simp] theorem Bn {i j:Int} (h:-18446744073709551616 < i /\ i < 18446744073709551616):jl (.int i) (.int j) = some (.int (i * j)):=fX (.inl h)
@[simp] theorem Lz {i j:Int} (h:0 < j /\ j < 1073741824):ua (.int i) (.int j) = some (.int (i / j)):=fX h
@[simp] theorem IM {i j:Int} (h:0 < j):m5 (.int i) (.int j) = some (.int (i % j)):=fX h
@[simp] theorem LD {i j:Int} (h:0 <= j /\ j <= 1000000 /\ i.natAbs < 18446744073709551616):GT (.int i) (.int j) = some (.int (i ^ j.toNat)):=fX h
@[simp] theorem M5 (d:D):Jg neg d .non = some (.bl (if neg then !nw d else nw d)):=rfl
@[simp] theorem LA:nw .non = true:=rfl
@[simp] theorem LB:nw (.int i) = false:=rfl
@[simp] theorem LC:nw (.tup a) = false:=rfl
@[simp] theorem M6:dIx (.lst a) (.int i) = atI a i:=rfl
@[simp] theorem M8:dIx (.tup a) (.int i) = atI a i:=rfl
@[simp] theorem M7:dIx (.scr a) (.int i) = atI a i:=rfl
@[simp] theorem MD:zL (.lst a) = some (!a.isEmpty):=rfl
@[simp] theorem MG:zL (.tup a) = some (!a.isEmpty):=rfl
@[simp] theorem MF:zL (.scr a) = some (!a.isEmpty):=rfl
@[simp] theorem MB (x:Bool):zL (.bl x) = some x:=rfl
@[simp] theorem MC:zL (.int i) = some (i != 0):=rfl
@[simp] theorem ME:zL .non = some false:=rfl
@[simp] theorem Mq:jd [.lst a] = some (.int a.length):=rfl
@[simp] theorem Ms:jd [.tup a] = some (.int a.length):=rfl
@[simp] theorem Mr:jd [.scr a] = some (.int a.length):=rfl
@[simp] theorem MH:kh [.lst a] = some (.tup a):=rfl
@[simp] theorem MI:kh [.tup a] = some (.tup a):=rfl
@[simp] theorem Mt:Ea [.lst a] = some a:=rfl
@[simp] theorem Mv:Ea [.tup a] = some a:=rfl
@[simp] theorem Mu:Ea [.scr a] = some a:=rfl
@[simp] theorem M9:BA [.int i,.int j] = some (.int (if j > i then j else i)):=rfl
@[simp] theorem Na:Ku [.int i,.int j] = some (.int (if j < i then j else i)):=rfl
@[simp] theorem M4:xN [.int i] = some (.int i):=rfl
@[simp] theorem Ml (x:Bool):xN [.bl x] = some (.int (if x then 1 else 0)):=rfl
@[simp] theorem Mx:FY (.lst a) = some a:=rfl
@[simp] theorem MA:FY (.tup a) = some a:=rfl
@[simp] theorem Mz:FY (.scr a) = some a:=rfl
@[simp] theorem Nc (lo hi:Option Int):dSl (.lst a) lo hi = some (.lst (jk a lo hi)):=rfl
@[simp] theorem Nf (lo hi:Option Int):dSl (.tup a) lo hi = some (.tup (jk a lo hi)):=rfl
@[simp] theorem Nd (lo hi:Option Int):dSl (.scr a) lo hi = some (.lst (jk a lo hi)):=rfl
@[simp] theorem NT (y:XGs):aU y (.tup a) ρ = y a ρ:=rfl
@[simp] theorem NR (x:XG) (y:XGs) (d:D):ao x y (d :: a) ρ = (x d ρ).bind (y a):=rfl
@[simp] theorem NS:aX [] ρ = some ρ:=rfl
@[simp] theorem Mn:wt [.int i,.ty "int"] = some (.bl true):=rfl
@[simp] theorem Mm:wt [.int i,.ty "bool"] = some (.bl false):=rfl
@[simp] theorem Mp:wt [.tup a,.ty "tuple"] = some (.bl true):=rfl
@[simp] theorem Mo:wt [.lst a,.ty "list"] = some (.bl true):=rfl
@[simp] theorem LW (x:Bool):wt [.bl x,.ty "bool"] = some (.bl true):=rfl
end
noncomputable abbrev owl (l:List D):Sl:=.ow (.lst (l.map O.sh))
@[simp] theorem KR (os:List O):Fi (.ow (.lst os)) = (shs os).map D.lst:=rfl
@[simp] theorem LV:shs [] = some []:=rfl
@[simp] theorem zt (d:D) (l:List O):shs (.sh d :: l) = (shs l).map fun r=>d :: r:=rfl
@[simp] theorem Li (l:List D):shs (l.map O.sh) = some l:=qW l
@[simp] theorem F2 {α:Type} (f:α -> D) (l:List α):shs (l.map (O.sh ∘ f)) = some (l.map f):=by rw [<- OM];exact qW _
@[simp] theorem Lj {α:Type} (f:α -> D) (l:List α):shs (l.map fun a=>O.sh (f a)) = some (l.map f):=F2 f l
@[simp] theorem HP:∀ (a b:List O),shs (a ++ b) = (shs a).bind fun x=>(shs b).map fun y=>x ++ y
 | [],b=>by cases h:shs b <;> simp [h]
 | .sh d :: a,b=>by
  rw [List.cons_append,zt,zt,HP a b]
  cases shs a with
  | none=>rfl
  | some x=>cases shs b <;> rfl
 | .dic _ :: _,_=>rfl
 | .hd _ _ _ :: _,_=>rfl
 | .lst _ :: a,b=>rfl
 | .tup _ :: a,b=>rfl
@[simp] theorem Ll (o:O):dD o [] = some o:=by unfold dD;rfl
@[simp] theorem Lk (l:List O) (k:Int) (r:List Int):dD (.lst l) (k :: r) = (atI l k).bind fun o=>dD o r:=rfl
@[simp] theorem Lm (l:List O) (k:Int) (r:List Int):dD (.tup l) (k :: r) = (atI l k).bind fun o=>dD o r:=rfl
@[simp] theorem KW (o q:O):iL o [] q = q:=by unfold iL;rfl
@[simp] theorem KU (l:List O) (k:Int) (r:List Int) (q:O):iL (.lst l) (k :: r) q = .lst (tq l k fun o=>iL o r q):=rfl
@[simp] theorem KY (l:List O) (k:Int) (r:List Int) (q:O):iL (.tup l) (k :: r) q = .tup (tq l k fun o=>iL o r q):=rfl
@[simp] theorem L3 (d:D):O.d (.sh d) = d:=by unfold O.d;rfl
@[simp] theorem LJ (l:List O):O.d (.lst l) = .lst (O.ds l):=by rw [O.d]
@[simp] theorem LK (l:List O):O.d (.tup l) = .tup (O.ds l):=by rw [O.d]
@[simp] theorem Kp:O.ds [] = []:=by rw [O.ds]
@[simp] theorem Cz (o:O) (l:List O):O.ds (o :: l) = o.d :: O.ds l:=by rw [O.ds]
@[simp] theorem D3:∀ (a b:List O),O.ds (a ++ b) = O.ds a ++ O.ds b
 | [],b=>by simp
 | o :: a,b=>by simp [D3 a b]
@[simp] theorem xG:∀ l:List D,O.ds (l.map O.sh) = l
 | []=>by simp
 | d :: l=>by simp [xG l]
@[simp] theorem Kj {α:Type} (f:α -> D) (l:List α):O.ds (l.map (O.sh ∘ f)) = l.map f:=by rw [<- OM];exact xG _
@[simp] theorem MW {α:Type} (a b:α):atI [a,b] 0 = some a:=rfl
@[simp] theorem MX {α:Type} (a b:α):atI [a,b] 1 = some b:=rfl
@[simp] theorem MY {α:Type} (a b c:α):atI [a,b,c] 0 = some a:=rfl
@[simp] theorem MZ {α:Type} (a b c:α):atI [a,b,c] 1 = some b:=rfl
@[simp] theorem M0 {α:Type} (a b c:α):atI [a,b,c] 2 = some c:=rfl
theorem eP:LIM = 1000000:=by unfold LIM;rfl
@[simp] theorem NI:(0:Nat) <= LIM:=O9 _
@[simp] theorem Jv:(1:Nat) <= LIM:=by rw [eP];decide
@[simp] theorem NJ:(2:Nat) <= LIM:=by rw [eP];decide
@[simp] theorem NK:(3:Nat) <= LIM:=by rw [eP];decide
@[simp] theorem NL:(4:Nat) <= LIM:=by rw [eP];decide
@[simp] theorem NM:(5:Nat) <= LIM:=by rw [eP];decide
@[simp] theorem NN:(6:Nat) <= LIM:=by rw [eP];decide
@[simp] theorem NO:(7:Nat) <= LIM:=by rw [eP];decide
@[simp] theorem NP:(8:Nat) <= LIM:=by rw [eP];decide
@[simp] theorem NQ:(9:Nat) <= LIM:=by rw [eP];decide
@[simp] theorem M2:(10:Nat) <= LIM:=by rw [eP];decide
@[simp] theorem M1:(0:Nat) < LIM:=by rw [eP];decide
theorem sS (n:Nat):∀ r:List (Int × Int),okDs (n + 1) (r.map prD) = true
 | []=>by simp [okDs]
 | p :: r=>by rw [Ox,okDs,sS n r];simp [prD,okD,okDs]
theorem Ho (r:List (Int × Int)):okD 50 (wU r) = true:=by
 unfold wU
 rw [okD]
 exact sS 48 r
@[simp] theorem LM (neg:Bool) (i j:Int):dEq neg (.int i) (.int j) = some (.bl (if neg then !decide (i = j) else decide (i = j))):=by
 unfold dEq
 rw [Oj ⟨by simp [okD],by simp [okD]⟩]
 have:eqD (.int i) (.int j) = decide (i = j):=by simp [eqD];by_cases h:i = j <;> simp [h]
 rw [this]
@[simp] theorem L7 (neg:Bool) (i j:Bool):dEq neg (.bl i) (.bl j) = some (.bl (if neg then !decide (i = j) else decide (i = j))):=by
 unfold dEq
 rw [Oj ⟨by simp [okD],by simp [okD]⟩]
 have:eqD (.bl i) (.bl j) = decide (i = j):=by simp [eqD];by_cases h:i = j <;> simp [h]
 rw [this]
theorem oi {K:W.Frag} {S:Hp}:∀ ns:List Int,Dens K S (ns.map D.int) (ns.map V.int)
 | []=>.nil
 | n :: ns=>.cons (den_int.mpr rfl) (oi ns)
theorem DN {K:W.Frag} {H:Hp} {a:Addr} {ns:List Int} {m:List D -> Option O} {E:XK} (hS:SqL K H a (ns.map V.int)) (h:(m [.scr (ns.map D.int)]).map O.d = some (.bl true)):iq K 1 m [.ref a] H (fun v _=>v = .bl true) E:=by
 cases q:m [.scr (ns.map D.int)] with
 | none=>rw [q] at h;cases h
 | some o=>
  rw [q] at h
  have e:o.d = .bl true:=O2 h
  exact ⟨rfl,H,[.scr (ns.map D.int)],o,Same.refl _,.cons (den_scr.mpr ⟨a,_,rfl,hS,oi ns⟩) .nil,q,fun v fp S' H' z ow _ _=>by
   have dv:=ow.denH z.sub
   rw [e] at dv
   exact den_bl.mp dv⟩
end M
namespace L2
open PySem PySem.Spec PyProof.Rows
theorem ie:bootBuiltins "len" = some (.builtin "len"):=by decide +kernel
theorem kX:bootBuiltins "sorted" = some (.builtin "sorted"):=by decide +kernel
theorem Jd:bootBuiltins "max" = some (.builtin "max"):=by decide +kernel
theorem wx:bootBuiltins "sum" = some (.builtin "sum"):=by decide +kernel
theorem lG:bootBuiltins "isinstance" = some (.builtin "isinstance"):=by decide +kernel
theorem kl:bootBuiltins "tuple" = some (.type "tuple"):=by decide +kernel
theorem BF:bootBuiltins "list" = some (.type "list"):=by decide +kernel
theorem Jc:bootBuiltins "int" = some (.type "int"):=by decide +kernel
section
variable {X:Cx}
theorem ld {K:W.Frag} {t T:String} (ht:t ∈ ["NoneType", "bool", "int", "str", "list", "tuple"]) (hT:T ∈ ["bool", "int", "str", "list", "tuple"]):W.kitOne K (.type t) (.type T) = some (M.HU t T):=by
 simp only [Oy,Q7,or_false] at ht hT
 rcases ht with rfl | rfl | rfl | rfl | rfl | rfl <;> rcases hT with rfl | rfl | rfl | rfl | rfl <;> kernel_rfl
theorem yA:∀ a b:List Int,Srt.gy a b = HT.cu a b
 | [],[]=>rfl
 | [],_ :: _=>rfl
 | _ :: _,[]=>rfl
 | x :: xs,y :: ys=>by
  rw [HT.AG,<- yA xs ys]
  rfl
end
end L2
namespace Rev
open PySem
section
variable {prog:Program} {w:World} {A:Around} {s:Shared} {R:Result -> Shared -> Prop} {I:Addr} {fp wr:List Addr} {G:Array GenState -> Array GenState -> Prop} {n:Nat} {P:Nat -> Value -> Prop} {St:Nat -> Shared -> Prop}
end
section
variable {prog:Program} {w:World} {A:Around} {E:Value -> Shared -> Prop} {s:Shared} {I:Addr} {fp wr:List Addr} {G:Array GenState -> Array GenState -> Prop} {n:Nat} {P:Nat -> Value -> Prop} {St:Nat -> Shared -> Prop}
end
end Rev
namespace L2
open PySem PySem.Spec PyProof.Rows
section
variable {X:Cx} {tg:Expr}
theorem bu {l:Expr} {tl:TE} (hl:PE X l tl):PI X tg l (Jo X.K tl):=by
 intro pins s σ H R I h
 refine thn (hl pins s σ H _ I h) fun v s1 h1=>?_
 obtain ⟨x,H1,I1,r1,a,e,q⟩:=h1
 subst e
 cases r1
 rcases q with ⟨⟨xs,hq⟩,q⟩ | ⟨⟨xs,hq⟩,q⟩
 ·obtain ⟨its,rv,p,hz⟩:=I1.list hq
  refine wpAny_pyIter_list p.isList ⟨s1.heap.objs.size,[s1.heap.objs.size],_,_,H1,rfl,I1.kept (t':=s1.toks) fun b o e=>OA _ e,DU a _,⟨_,OO _ rfl,rfl,rfl⟩,fun b hb=>?_,q⟩
  rw [Ot.mp hb]
  exact I1.fpOk (Op _) I1.fresh
 ·obtain ⟨its,rv,p,hz⟩:=I1.tuple hq
  refine wpAny_pyIter_tuple (show s1.heap.IsTuple a its.toArray from p) ⟨s1.heap.objs.size,[s1.heap.objs.size],_,_,H1,rfl,I1.kept (t':=s1.toks) fun b o e=>OA _ e,Bm a _,⟨_,OO _ rfl,rfl,rfl⟩,fun b hb=>?_,q⟩
  rw [Ot.mp hb]
  exact I1.fpOk (Op _) I1.fresh
end
section
variable {X:Cx} {tg:Expr}
theorem oE:∀ {vs:List Value} {ns:List Int},IntsAre vs ns -> Vals (ns.map V.int) vs
 | _,_,.nil=>.nil
 | _,_,.cons n t h=>.cons ⟨t,rfl⟩ (oE h)
theorem call_sortedI:CallR X (.builtin "sorted") (zb X.K):=by
 intro pins s σ H xs us Q I r h
 obtain ⟨p,ns,rfl,hS,h64,k⟩:=h
 obtain ⟨u,rfl,ru⟩:=r.one
 cases ru
 obtain ⟨its,rv,pl,hz⟩:=I.list hS
 have hI:IntsAre its ns:=mz rv
 have hl:its.length = ns.length:=by have:=rv.length;rw [Os] at this;exact this.symm
 refine Srt.xu pl.isList hI (by rw [OJ];lia) fun out ms ho perm pw=>?_
 obtain ⟨e,at1⟩:=sortedAll_at s.heap its out
 have fresh:s.heap.objs.size <= s.heap.objs.size + 1:=Nat.le_succ _
 refine ⟨.ref (s.heap.objs.size + 1),upd H (s.heap.objs.size + 1) (.lst (ms.map V.int)),I.laid (t':=s.toks) (fun b o hb=>sortedAll_old hb) fresh ?_,rfl,k ms _ perm pw (I.hok.fresh fresh)⟩
 exact ⟨by rw [Os,perm.length_eq,OJ];lia,out.toList,e,oE ho,by simpa using at1⟩
theorem kY (hc:X.calm = true):CallR X (.builtin "sum") (Iz X.K):=by
 intro pins s σ H xs us Q I r h
 obtain ⟨p,ns,rfl,hS,q⟩:=h
 obtain ⟨u,rfl,ru⟩:=r.one
 cases ru
 obtain ⟨its,rv,pl,hz⟩:=I.list hS
 have hI:IntsAre its ns:=mz rv
 obtain ⟨ys,e⟩:=hI.allInts.items
 have hl:=pl.isList
 have en:ns = ys.toList.map (·.1):=by
  rw [<- nums_intItems,<- e]
  simpa using hI.numsOf.symm
 rw [e] at hl
 refine sum_intListG (I.ok.hd hc) hl fun h' tk t' hk=>⟨.int ns.sum,H,I.kept hk,⟨t',?_⟩,q⟩
 rw [preSum_eq,QG (by simp),en]
end
end L2
namespace HT
open PySem PySem.Spec PyProof.Rows
section
variable {prog:Program} {w:World} {A:Around} {E:Value -> Shared -> Prop} {s:Shared}
theorem lv {t sl:Addr} {items:Array Value} {vl vu:Value} {lo hi:Option Int} {Q:Value -> Shared -> Prop} (ht:IsTup s.heap t items) (hs:s.heap.IsSliceOf sl vl vu .none) (pl:IsPart vl lo) (pu:IsPart vu hi)
  (hw:sIx items.size 0 lo = 0 /\ sIx items.size items.size hi = items.size) (h:Q (.ref t) s):wpAny (model prog w) A (getItem (.ref t) (.ref sl)) Q E s:=by
 obtain ⟨os,hos,hcs,hds⟩:=id hs
 have hTs:s.TypeIs (.ref sl) "slice" := ⟨os,hos,hcs⟩
 unfold getItem
 try with_reducible refine O8 ?_
 first | refine Oh (Om ?_) | skip
 refine Oh (wpAny_sequenceKey ht.typeIs (by decide) ?_)
 refine Oh (Qy (name:=Str.ofString "__getitem__") ht.typeIs Qz
  (Pt Qz ht.typeIs entry_tuple_getitem ?_ (args_tuple_getitem _ _)))
 show wpAny _ _ (Builtin.Tuple.tupleItemsOf (.ref t) >>= _) _ _ s
 refine Oh (tupleItemsOf_ ht ?_)
 refine Oh (PN hTs ?_)
 rw [Oj (by decide)]
 refine Oh (iQ hs pl pu ?_)
 have hyes:((((sIx items.size 0 lo:Nat):Int) == 0 && (1:Int) == 1 && (sIx items.size items.size hi - sIx items.size 0 lo) == items.size) = true):=by
  rw [hw.1,hw.2]
  simp
 show wpAny _ _ (if (((sIx items.size 0 lo:Nat):Int) == 0 && (1:Int) == 1 && (sIx items.size items.size hi - sIx items.size 0 lo) == items.size) = true then _ else _) _ _ s
 rw [Oj hyes]
 refine Oh (m:=Builtin.Tuple.tupleIsExact _) (Oh (PN ht.typeIs (Om ?_)))
 rw [Oj (by decide)]
 exact Oh (Pn (Om ⟨_,rfl,Om h⟩))
end
end HT
namespace L2
open PySem PySem.Spec PyProof.Rows M
theorem Inv.rdl {X:Cx} {pins:List (Addr × Obj)} {σ:St} {H:Hp} {s:Shared} {l:Addr} {xs:List V} (I:Inv X pins σ H s) (h:Rd H l (.lst xs)):xs.length <= sizeLine /\ ∃ (its:List Value) (n:Nat),Vals xs its /\ xs.length = its.length /\ s.heap.get? l = some { cls:=.type "list",data:=.seq its.toArray n }:=by
 obtain ⟨h1,its,n,r,e⟩:=(show ObjOk X.prog X.w H s.heap l (.lst xs) from h.ok I.hok)
 exact ⟨h1,its,n,r,r.length,e⟩
section
variable {X:Cx}
theorem op_catM:OpR X (binaryOp .Add) Ir:=by
 intro pins s σ H x y v u Q I rx ry h
 obtain ⟨l,b,xs,zs,rfl,rfl,hH,hB,hz,q⟩:=h
 cases rx
 cases ry
 obtain ⟨z,its,n,r,hl,e⟩:=I.rdl hH
 obtain ⟨z2,its2,n2,r2,hl2,e2⟩:=I.rdl hB
 refine PySem.P.add_list e e2 ?_ (by rw [OK,OK];lia)
 have ea:its.toArray ++ its2.toArray = (its ++ its2).toArray:=by simp
 rw [ea]
 exact ⟨.ref _,_,I.lnew (t':=s.toks) (r.append r2) (by rw [Ov];lia),rfl,q _ I.fresh⟩
theorem op_tupM:OpR X (binaryOp .Add) (IA X.K):=by
 intro pins s σ H x y v u Q I rx ry h
 obtain ⟨a,b,xs,ys,rfl,rfl,ha,hb,hz,q1,q2,q⟩:=h
 cases rx
 cases ry
 obtain ⟨its,r1,p1,_⟩:=I.tuple ha
 obtain ⟨its2,r2,p2,_⟩:=I.tuple hb
 have hz2:its.length + its2.length <= sizeLine:=by rw [<- r1.length,<- r2.length];exact hz
 by_cases hv:its = []
 ·have hx:xs = []:=r1.nil_iff.mp hv
  obtain ⟨⟨cls,dd,data,sl⟩,ho,hc,n,hd⟩:=id p1
  obtain ⟨⟨cls2,dd2,data2,sl2⟩,ho2,hc2,n2,hd2⟩:=id p2
  simp only at hc hd hc2 hd2;subst hc hd hc2 hd2
  exact concat_meets ⟨_,ho,rfl⟩ ⟨_,ho2,rfl⟩ noFill_tuple_add seq_tuple_add RS RT (RU (.ref a) (.ref b)) (tuple_addW0 a b its.toArray its2.toArray n n2 dd dd2 sl sl2 (by simp [hv])) ⟨ho,ho2,⟨.ref b,H,I,rfl,q2 hx⟩⟩
 ·refine HT.GP p1 p2 hv (fun z=>⟨.ref a,H,I,rfl,q1 (r2.nil_iff.mp z)⟩) (fun z=>?_) hz2
  refine ⟨.ref s.heap.objs.size,_,I.laid (t':=s.toks) (o:=.tup (xs ++ ys)) (fun b ob e=>OA _ e) (Op _) ?_,rfl,q _ (I.hok.fresh (Op _))⟩
  exact ⟨by rw [Ov];exact hz,_,r1.append r2,IsTup.new _ _⟩
theorem Hu:OpR X (binaryOp .Add) Iy:=AU
theorem a9:OpR X (binaryOp .Add) (Fy X.K):=op_add.or (op_catM.or (op_tupM.or Hu))
mutual
noncomputable def pyD:D -> PyData
 | .non=>.none
 | .bl b=>.bool b
 | .int i=>.int i
 | .str x=>.str x
 | .lst l=>.list (pyDs l)
 | .tup l=>.tuple (pyDs l)
 | .mtp l=>.tuple (pyDs l)
 | _=>.none
noncomputable def pyDs:List D -> List PyData
 | []=>[]
 | d :: l=>pyD d :: pyDs l
end
mutual
theorem sT:∀ (n:Nat) (d:D),okD n d = true -> (pyD d).canLay0 = true /\ (pyD d).depth <= n
 | _,.non,_=>by simp [pyD,PyData.canLay0,PyData.depth]
 | _,.bl _,_=>by simp [pyD,PyData.canLay0,PyData.depth]
 | _,.int _,_=>by simp [pyD,PyData.canLay0,PyData.depth]
 | n,.str x,h=>by
  have h':PyData.strOk x = true:=by cases n <;> simpa [okD] using h
  simp [pyD,PyData.canLay0,PyData.depth,h']
 | 0,.lst l,h=>by simp [okD] at h
 | n + 1,.lst l,h=>by
  obtain ⟨a,b⟩:=qU n l (by simpa [okD] using h)
  simp only [pyD,PyData.canLay0,PyData.depth]
  exact ⟨a,by lia⟩
 | 0,.tup l,h=>by simp [okD] at h
 | n + 1,.tup l,h=>by
  obtain ⟨a,b⟩:=qU n l (by simpa [okD] using h)
  simp only [pyD,PyData.canLay0,PyData.depth]
  exact ⟨a,by lia⟩
 | 0,.mtp l,h=>by simp [okD] at h
 | n + 1,.mtp l,h=>by
  obtain ⟨a,b⟩:=qU n l (by simpa [okD] using h)
  simp only [pyD,PyData.canLay0,PyData.depth]
  exact ⟨a,by lia⟩
 | n,.ty _,h=>by cases n <;> simp [okD] at h
 | n,.scr _,h=>by cases n <;> simp [okD] at h
 | n,.ins _ _ _,h=>by cases n <;> simp [okD] at h
theorem qU:∀ (n:Nat) (l:List D),okDs n l = true -> PyData.canLayAll0 (pyDs l) = true /\ PyData.depthAll (pyDs l) <= n
 | _,[],_=>by simp [pyDs,PyData.canLayAll0,PyData.depthAll]
 | n,d :: l,h=>by
  rw [okDs,Pu] at h
  obtain ⟨a,b⟩:=sT n d h.1
  obtain ⟨c,e⟩:=qU n l h.2
  simp only [pyDs,PyData.canLayAll0,PyData.depthAll,a,c]
  exact ⟨rfl,by lia⟩
end
mutual
theorem Au:∀ (n m:Nat) (d e:D),okD n d = true -> okD m e = true -> PyData.eqv (pyD d) (pyD e) = eqD d e
 | n,m,.non,e,_,he=>by cases e <;> first | (simp [pyD,PyData.eqv,eqD];done) | (cases m <;> simp [okD] at he)
 | n,m,.bl _,e,_,he=>by cases e <;> first | (simp [pyD,PyData.eqv,eqD];done) | (cases m <;> simp [okD] at he)
 | n,m,.int _,e,_,he=>by cases e <;> first | (simp [pyD,PyData.eqv,eqD];done) | (cases m <;> simp [okD] at he)
 | n,m,.str _,e,_,he=>by cases e <;> first | (simp [pyD,PyData.eqv,eqD];done) | (cases m <;> simp [okD] at he)
 | 0,m,.lst _,e,hd,he=>by simp [okD] at hd
 | n + 1,m,.lst l,e,hd,he=>by
  cases e with
  | lst l'=>
   cases m with
   | zero=>simp [okD] at he
   | succ m=>
    simp only [pyD,PyData.eqv,eqD]
    exact eqvs_is n m l l' (by simpa [okD] using hd) (by simpa [okD] using he)
  | _=>first | (simp [pyD,PyData.eqv,eqD];done) | (cases m <;> simp [okD] at he)
 | 0,m,.tup _,e,hd,he=>by simp [okD] at hd
 | n + 1,m,.tup l,e,hd,he=>by
  cases e with
  | tup l'=>
   cases m with
   | zero=>simp [okD] at he
   | succ m=>
    simp only [pyD,PyData.eqv,eqD]
    exact eqvs_is n m l l' (by simpa [okD] using hd) (by simpa [okD] using he)
  | mtp l'=>
   cases m with
   | zero=>simp [okD] at he
   | succ m=>
    simp only [pyD,PyData.eqv,eqD]
    exact eqvs_is n m l l' (by simpa [okD] using hd) (by simpa [okD] using he)
  | _=>first | (simp [pyD,PyData.eqv,eqD];done) | (cases m <;> simp [okD] at he)
 | 0,m,.mtp _,e,hd,he=>by simp [okD] at hd
 | n + 1,m,.mtp l,e,hd,he=>by
  cases e with
  | tup l'=>
   cases m with
   | zero=>simp [okD] at he
   | succ m=>
    simp only [pyD,PyData.eqv,eqD]
    exact eqvs_is n m l l' (by simpa [okD] using hd) (by simpa [okD] using he)
  | mtp l'=>
   cases m with
   | zero=>simp [okD] at he
   | succ m=>
    simp only [pyD,PyData.eqv,eqD]
    exact eqvs_is n m l l' (by simpa [okD] using hd) (by simpa [okD] using he)
  | _=>first | (simp [pyD,PyData.eqv,eqD];done) | (cases m <;> simp [okD] at he)
 | n,_,.ty _,_,h,_=>by cases n <;> simp [okD] at h
 | n,_,.scr _,_,h,_=>by cases n <;> simp [okD] at h
 | n,_,.ins _ _ _,_,h,_=>by cases n <;> simp [okD] at h
theorem eqvs_is:∀ (n m:Nat) (l l':List D),okDs n l = true -> okDs m l' = true -> PyData.eqvAll (pyDs l) (pyDs l') = eqDs l l'
 | _,_,[],[],_,_=>by simp [pyDs,PyData.eqvAll,eqDs]
 | _,_,[],_ :: _,_,_=>by simp [pyDs,PyData.eqvAll,eqDs]
 | _,_,_ :: _,[],_,_=>by simp [pyDs,PyData.eqvAll,eqDs]
 | n,m,d :: l,e :: l',hd,he=>by
  rw [okDs,Pu] at hd he
  rw [pyDs,pyDs,PyData.eqvAll,eqDs,Au n m d e hd.1 he.1,eqvs_is n m l l' hd.2 he.2]
end
mutual
theorem iw {pins:List (Addr × Obj)} {σ:St} {H:Hp} {s:Shared} (I:Inv X pins σ H s):∀ (n:Nat) {d:D} {x:V} {v:Value},okD n d = true -> Den X.K H d x -> RelV x v -> ∃ as,Reads s.heap v (pyD d) as
 | _,.non,x,v,_,dx,r=>by rw [den_non.mp dx] at r;cases r;exact ⟨_,.none⟩
 | _,.bl b,x,v,_,dx,r=>by rw [den_bl.mp dx] at r;cases r;exact ⟨_,.bool b⟩
 | _,.int i,x,v,_,dx,r=>by rw [den_int.mp dx] at r;obtain ⟨t,rfl⟩:=r;exact ⟨_,.int i t⟩
 | _,.str y,x,v,_,dx,r=>by rw [den_str.mp dx] at r;obtain ⟨t,rfl⟩:=r;exact ⟨_,.str y t⟩
 | 0,.lst _,x,v,h,dx,r=>by simp [okD] at h
 | n + 1,.lst l,x,v,h,dx,r=>by
  obtain ⟨p,xs,rfl,hp,ds⟩:=den_lst.mp dx
  cases r
  obtain ⟨_,its,k,rv,_,e⟩:=I.rdl hp
  obtain ⟨as,ra⟩:=dens_reads I n (by simpa [okD] using h) ds rv
  exact ⟨_,.list e rfl rfl (by simpa using ra)⟩
 | 0,.tup _,x,v,h,dx,r=>by simp [okD] at h
 | n + 1,.tup l,x,v,h,dx,r=>by
  obtain ⟨p,xs,rfl,hp,ds⟩:=gr dx
  cases r
  obtain ⟨its,rv,⟨o,e,c,k,d⟩,_⟩:=I.tuple hp
  obtain ⟨as,ra⟩:=dens_reads I n (by simpa [okD] using h) ds rv
  exact ⟨_,.tuple e c d (by simpa using ra)⟩
 | 0,.mtp _,x,v,h,dx,r=>by simp [okD] at h
 | n + 1,.mtp l,x,v,h,dx,r=>by
  obtain ⟨p,xs,rfl,hp,ds⟩:=den_mtp.mp dx
  cases r
  obtain ⟨its,rv,⟨o,e,c,k,d⟩,_⟩:=I.tuple hp
  obtain ⟨as,ra⟩:=dens_reads I n (by simpa [okD] using h) ds rv
  exact ⟨_,.tuple e c d (by simpa using ra)⟩
 | n,.ty _,_,_,h,_,_=>by cases n <;> simp [okD] at h
 | n,.scr _,_,_,h,_,_=>by cases n <;> simp [okD] at h
 | n,.ins _ _ _,_,_,h,_,_=>by cases n <;> simp [okD] at h
theorem dens_reads {pins:List (Addr × Obj)} {σ:St} {H:Hp} {s:Shared} (I:Inv X pins σ H s):∀ (n:Nat) {ds:List D} {xs:List V} {vs:List Value},okDs n ds = true -> Dens X.K H ds xs -> Vals xs vs -> ∃ as,ReadsAll s.heap vs (pyDs ds) as
 | _,[],xs,vs,_,d,r=>by
  rw [d.nil_of] at r
  cases r
  exact ⟨_,.nil⟩
 | n,d :: ds,xs,vs,h,dd,r=>by
  rw [okDs,Pu] at h
  obtain ⟨y,ys,rfl,a,b⟩:=dd.cons_of
  cases r with
  | cons r rr=>
   obtain ⟨as,ra⟩:=iw I n h.1 a r
   obtain ⟨bs,rb⟩:=dens_reads I n h.2 b rr
   exact ⟨_,.cons ra rb⟩
end
theorem fP (hu:X.A.units + 64 < cLine):OpR X (compareOp .Eq) (JI X.K false):=by
 intro pins s σ H x y v u Q I rx ry h
 obtain ⟨S,d,e,sm,dx,dy,cd,ce,q⟩:=h
 obtain ⟨as,ra⟩:=iw I 50 cd (rQ sm dx) rx
 obtain ⟨bs,rb⟩:=iw I 50 ce (rQ sm dy) ry
 obtain ⟨a1,a2⟩:=sT 50 d cd
 obtain ⟨b1,b2⟩:=sT 50 e ce
 have hm:=Nat.min_le_left (pyD d).depth (pyD e).depth
 refine SeqAt.compareEq_reads ra rb a1 b1 (by lia) ⟨.bl _,H,I,rfl,?_⟩
 rw [Au 50 50 d e cd ce]
 exact q
theorem xf (hu:X.A.units + 64 < cLine):OpR X (compareOp .NotEq) (JI X.K true):=by
 intro pins s σ H x y v u Q I rx ry h
 obtain ⟨S,d,e,sm,dx,dy,cd,ce,q⟩:=h
 obtain ⟨as,ra⟩:=iw I 50 cd (rQ sm dx) rx
 obtain ⟨bs,rb⟩:=iw I 50 ce (rQ sm dy) ry
 obtain ⟨a1,a2⟩:=sT 50 d cd
 obtain ⟨b1,b2⟩:=sT 50 e ce
 have hm:=Nat.min_le_left (pyD d).depth (pyD e).depth
 refine SeqAt.compareNe_reads ra rb a1 b1 (by lia) ⟨.bl _,H,I,rfl,?_⟩
 rw [Au 50 50 d e cd ce]
 exact q
theorem cQ:CallR X (.builtin "len") (Iw X.K):=Eb
theorem uT:CallR X (.builtin "isinstance") (Iv X.K):=by
 intro pins s σ H xs us Q I r h
 obtain ⟨x,T,t,rfl,ht,hm,q⟩:=h
 obtain ⟨u,w',rfl,ru,rw'⟩:=r.two
 cases rw'
 have fin:∀ tk:Nat,EP X pins σ Q (.bool (HU t T)) { s with toks:=tk }:=fun tk=>⟨.bl _,H,I.tok tk,rfl,q⟩
 cases x with
 | non=>cases ht;exact k7 I ru .non (ld (by decide) hm) fin
 | bl b=>cases ht;exact k7 I ru (.bl b) (ld (by decide) hm) fin
 | int i=>cases ht;exact k7 I ru (.int i) (ld (by decide) hm) fin
 | str y=>cases ht;exact k7 I ru (.str y) (ld (by decide) hm) fin
 | ref p=>
  cases ru
  rcases ht with ⟨rfl,xs,h⟩ | ⟨rfl,xs,h⟩
  ·obtain ⟨_,its,n,rv,_,e⟩:=I.rdl h
   exact Pi W.kitx_list I.kIn ⟨_,e,rfl⟩ (ld (by decide) hm) (fun z=>nomatch z) fin
  ·obtain ⟨its,rv,⟨o,e,c,_⟩,_⟩:=I.tuple h
   exact Pi W.kitx_tuple I.kIn ⟨o,e,c⟩ (ld (by decide) hm) (fun z=>nomatch z) fin
 | _=>exact (show False from ht).elim
theorem qT:MtM X "list.extend" rExtM:=by
 intro pins s σ H x vs v us Q I rx rv h
 obtain ⟨l,b,xs,zs,rfl,rfl,hH,hB,hz,q⟩:=h
 cases rx
 obtain ⟨u,rfl,ru⟩:=rv.one
 cases ru
 obtain ⟨z,its,n,r,hl,e⟩:=I.lstM hH
 obtain ⟨z2,its2,n2,r2,hl2,e2⟩:=I.rdl hB
 have hsz:its.toArray.size + its2.toArray.size <= sizeLine:=by rw [OK,OK];lia
 have hlong:¬ (!its.toArray.isEmpty && Builtin.List.listTooLong (its.toArray.size + its2.toArray.size)) = true:=by
  rw [E6 hsz,Bool.and_false]
  exact Ph
 refine call_meets F.slot_list_extend ⟨_,e,rfl⟩ F.entry_list_extend (F.args_list_extend_2 _ _)
  (AutoSeq1.list_extend_list_list_0 l its.toArray n b its2.toArray n2 hlong (by rw [OK];lia) (by lia)) ⟨e,e2,?_⟩
 refine ⟨.non,_,I.lset (its':=its ++ its2) hH e (by simp) (r.append r2) ?_,rfl,q⟩
 rw [Ov]
 lia
theorem Mj:SlR X (K6 X.K):=by
 refine SlR.or HR ?_
 intro pins s σ H x v vl vu lo hi sl Q I rx hs pl pu h
 obtain ⟨a,xs,rfl,hx,q1,q2⟩:=h
 cases rx
 by_cases hw:HT.sIx xs.length 0 lo = 0 /\ HT.sIx xs.length xs.length hi = xs.length
 ·obtain ⟨its,r,ht,hz⟩:=I.tuple hx
  have hlen:its.toArray.size = xs.length:=by rw [OK];exact r.length.symm
  have hcut:mn xs lo hi = xs:=by
   unfold mn
   rw [hw.1,hw.2,List.drop_zero,Nat.sub_zero,QG (Op _)]
  refine ⟨"tuple",_,Qz.lookup,ht.typeIs,?_⟩
  exact HT.lv ht hs pl pu (by rw [hlen];exact hw) ⟨.ref a,H,I,rfl,q1 hcut⟩
 ·exact J7 pins s σ H (.ref a) (.ref a) vl vu lo hi sl Q I rfl hs pl pu ⟨a,xs,rfl,hx,hw,q2⟩
theorem Af:CallR X (.builtin "sorted") (FA X.K):=by
 intro pins s σ H xs us Q I r h
 obtain ⟨p,yks,rfl,hS,h64,hk,k⟩:=h
 obtain ⟨u,rfl,ru⟩:=r.one
 cases ru
 obtain ⟨its,rv,pl,hz⟩:=I.list hS
 have hl:yks.length = its.length:=by rw [<- rv.length,Os]
 have atI:∀ i,i < its.length -> ∃ yk,yks[i]? = some yk /\ yks.getD i (.non,[]) = yk /\ RelV yk.1 (its.getD i Value.none):=fun i hi=>by
  have ey:yks[i]? = some yks[i]:=PF (by lia)
  have ex:(yks.map (·.1))[i]? = some yks[i].1:=by rw [OU,ey];rfl
  obtain ⟨v,ev,rl⟩:=rv.get ex
  exact ⟨_,ey,by rw [RZ,ey];rfl,by rw [RZ,ev];exact rl⟩
 have tup:∀ i,i < its.length -> Srt.Ks s.heap (its.getD i Value.none) (yks.getD i (.non,[])).2 /\ (yks.getD i (.non,[])).2 ≠ []:=fun i hi=>by
  obtain ⟨yk,e1,e2,rl⟩:=atI i hi
  obtain ⟨q,e3,e4,e5⟩:=hk _ (QW e1)
  rw [e2]
  refine ⟨?_,e5⟩
  rw [e3] at rl
  have rl':its.getD i Value.none = Value.ref q:=rl
  obtain ⟨js,rj,⟨o,ho,hc,n,hd⟩,_⟩:=I.tuple e4
  refine ⟨q,o,js.toArray,n,rl',ho,hc,hd,?_⟩
  simpa using mz rj
 refine Srt.vW (Srt.EW fun i=>(yks.getD i (.non,[])).2) pl.isList (by rw [OJ];lia) (Srt.AD tup) fun q hq ha=>?_
 obtain ⟨pv,pw⟩:=Srt.xh (vs:=its) (d:=Value.none) hq ha
 rw [<- hl] at hq ha
 obtain ⟨py,wy⟩:=Srt.xh (vs:=yks) (d:=((V.non,[]):V × List Int)) hq ha
 obtain ⟨e,at1⟩:=sortedAll_at s.heap its (Srt.gE its q)
 have hv:Vals ((q.toList.map fun i=>yks.getD i (.non,[])).map (·.1)) (q.toList.map fun i=>its.getD i Value.none):=by
  have hb:∀ i ∈ q.toList,i < its.length:=fun i hi=>by
   have:i < yks.length:=by simpa using (QC.mp hq).mem_iff.mp hi
   lia
  revert hb
  generalize q.toList = L
  induction L with
  | nil=>exact fun _=>.nil
  | cons i L ih=>
   intro hb
   refine .cons ?_ (ih fun j hj=>hb j (Ou _ hj))
   obtain ⟨yk,_,e2,rl⟩:=atI i (hb i Oq)
   dsimp only
   rw [e2]
   exact rl
 have fresh:s.heap.objs.size <= s.heap.objs.size + 1:=Nat.le_succ _
 refine ⟨.ref (s.heap.objs.size + 1),upd H (s.heap.objs.size + 1) (.lst ((q.toList.map fun i=>yks.getD i (.non,[])).map (·.1))),I.laid (t':=s.toks) (fun b o hb=>sortedAll_old hb) fresh ?_,rfl,?_⟩
 ·refine ⟨by rw [Os,py.length_eq,OJ];lia,_,e,hv,at1⟩
 ·refine k _ _ py (wy _ fun i j _ _ h=>?_) (I.hok.fresh fresh)
  rw [<- yA]
  exact h
theorem ji:CallR X (.builtin "sorted") (zc X.K):=call_sortedI.or Af
end
end L2
namespace M
noncomputable def gU (a:List Int) (k:Int):List Int:=if a.any (· == k) then a else a ++ [k]
noncomputable def eD (ns:List Int):List Int:=ns.foldl gU []
end M
namespace L2
open PySem
theorem Je:bootBuiltins "set" = some (.type "set"):=by decide +kernel
theorem yq:∀ {ns:List Int} {its:List Value},Vals (ns.map V.int) its -> PyProof.Rows.IntsAre its ns
 | [],_,h=>by cases h;exact .nil
 | n :: ns,_,h=>by
  cases h with
  | cons r t=>
   obtain ⟨tk,rfl⟩:=r
   exact .cons n tk (yq t)
section
variable {X:Cx}
end
end L2
namespace M
open PySem L2
section
variable {K:W.Frag}
noncomputable def tG (K:W.Frag) (d:D):TE:=fun _ H Q=>∀ v,(∀ S,Den K S d v) -> Q v H
theorem s_g {d:D}:SE K (tG K d) (xC d):=fun ρ σ S H Q e r x k v hv=>by
 cases x
 exact k v S H (Ext.refl r.sub) (hv S)
end
end M
namespace L2
open PySem M
theorem nB {X:_} {x:Str} {v:V} {u:Value} {pos:Pos} {K:W.Frag} {d:D} (hg:Gl X x) (hm:X.mg x = some u) (r:RelV v u) (hD:∀ S,Den K S d v) (hd:(x == ("__debug__" : Str)) = false:=by decide):PE X (.Name x pos) (tG K d):=
 fun a b c H Q I h=>B5 hg hm r hd a b c H Q I (h v hD)
end L2
namespace M
open PySem L2
@[simp] noncomputable def LY (a:XE):XE:=fun ρ=>(a ρ).bind fun d=>match d with | .lst l=>(aK l).bind fun ns=>if ns.length < 4000 then some (.int ((eD ns).length:Nat)) else none | _=>none
end M
namespace L2
open PySem
section
variable {X:Cx} {o e:Expr} {es:List Expr} {f m:Str} {pos apos p:Pos} {ta:TE} {t:TA} {Ns:List Str} {k:Nat} {g C:Addr} {fd:FuncData} {ps:List Str} {sp:Sp}
end
end L2
namespace M
open PySem L2
section
variable {K:W.Frag} {S S' H H':Hp}
noncomputable def KB:List Str -> List D -> Str -> Option D
 | n :: ns,d :: l,f=>if f = n then some d else KB ns l f
 | _,_,_=>none
@[simp] noncomputable def N1 (Ns:List Str) (f:Str) (e:XE):XE:=fun ρ=>(e ρ).bind fun d=>match d with | .ins N ns l=>if Ns.contains N then KB ns l f else none | _=>none
@[simp] noncomputable def Nr (Ns:List Str) (m:Str) (g:List D -> Option D) (e:XE) (a:XA):XE:=fun ρ=>(e ρ).bind fun d=>match d with | .ins N ns l=>if Ns.contains N && !ns.contains m then (a ρ).bind fun ds=>g (.ins N ns l :: ds) else none | _=>none
@[simp] noncomputable def Nq (N f:Str) (mi:List D -> Option D) (a:XA):XE:=fun ρ=>((a ρ).bind mi).map fun d=>.ins N [f] [d]
end
end M
namespace M
end M
namespace L2
open PySem PySem.Spec PyProof.Rows
section
variable {prog:Program} {w:World} {A:Around} {E:Value -> Shared -> Prop} {s:Shared}
end
section
variable {X:Cx}
end
end L2
namespace M
open PySem L2
section
variable {K:W.Frag}
end
end M
namespace L2
open PySem
theorem eF {XN:List Str} {sc scope:Scope} {N:List Str} {js:List (Option Nat)} (h1:scope.kind = .function:=by rfl) (h2:∀ y ∈ scope.names,y.2 ≠ .cell:=by decide +kernel) (h3:∀ y ∈ scope.names,y.2 = .free -> sc.names.lookup y.1 = some .cell \/ sc.names.lookup y.1 = some .free:=by decide +kernel)
  (h4:∀ y ∈ scope.names,y.2 = .local -> scope.names.lookup y.1 = some .local:=by decide +kernel) (h5:js.length = N.length:=by rfl) (h6:((N.zip js).all fun p=>match p.2 with | none=>true | some j=>decide (XN[j]? = some p.1) && decide (scope.names.lookup p.1 = some .free)) = true:=by decide +kernel):CmpOk XN sc scope N js:=⟨h1,h2,h3,h4,h5,h6⟩
end L2
namespace M
open PySem L2
noncomputable def xZ:D -> D -> Option D:=dI fun i j=>ifC (0 <= i /\ 0 <= j) (some (.int ((i.toNat &&& j.toNat:Nat):Int))) none
noncomputable def dIn (neg:Bool):D -> D -> Option D
 | .int i,.lst l=>(aK l).map fun ns=>.bl (if neg then !ns.contains i else ns.contains i)
 | .int i,.tup l=>(aK l).map fun ns=>.bl (if neg then !ns.contains i else ns.contains i)
 | _,_=>none
@[simp] noncomputable def MM (m:List D -> Option D) (e:D) (a:XA):XE:=fun ρ=>(a ρ).bind fun ds=>m (ds ++ [e])
section
variable {K:W.Frag}
theorem FB:SR2 K (rI0 fun i j=>.int (Builtin.bitAnd i j)) xZ:=Dz fun i j d h=>by
 obtain ⟨c,rfl⟩:=iz h
 show some (V.int _) = some (V.int _)
 have e1:decide (0 <= i) = true:=Pb c.1
 have e2:decide (0 <= j) = true:=Pb c.2
 unfold Builtin.bitAnd
 rw [e1,e2]
theorem sj (i:Int):∀ ns:List Int,inV (.int i) (ns.map V.int) = ns.contains i
 | []=>rfl
 | n :: ns=>by
  have ih:=sj i ns
  unfold inV at ih ⊢
  rw [Ox,QA,ih,List.contains_cons]
  have:eqV (V.int n) (V.int i) = (i == n):=by
   show (n == i) = (i == n)
   rw [Bool.eq_iff_iff,P8,P8]
   exact ⟨Eq.symm,Eq.symm⟩
  rw [this]
theorem oy:∀ ns:List Int,(ns.map V.int).all nh = true
 | []=>rfl
 | n :: ns=>by rw [Ox,List.all_cons,oy ns];rfl
theorem K7 (neg:Bool):SR2 K (rIn K neg) (dIn neg):=fun S H x y d e z Q s dx dy q k=>by
 unfold dIn at q
 split at q
 ·rename_i i l
  cases qi:aK l with
  | none=>rw [qi] at q;cases q
  | some ns=>
   rw [qi] at q
   cases q
   obtain ⟨p,xs,rfl,h1,h2⟩:=dy.lst s
   obtain ⟨e,_⟩:=eN h2 qi
   subst e
   have ex:=dx.int
   subst ex
   exact ⟨p,_,rfl,.inl (.inl h1),rfl,oy ns,by rw [sj];exact k _ S H (Ext.refl s) (den_bl.mpr rfl)⟩
 ·rename_i i l
  cases qi:aK l with
  | none=>rw [qi] at q;cases q
  | some ns=>
   rw [qi] at q
   cases q
   obtain ⟨p,xs,rfl,h1,h2⟩:=dy.tup s
   obtain ⟨e,_⟩:=eN h2 qi
   subst e
   have ex:=dx.int
   subst ex
   exact ⟨p,_,rfl,.inr h1,rfl,oy ns,by rw [sj];exact k _ S H (Ext.refl s) (den_bl.mpr rfl)⟩
 ·cases q
end
end M
namespace L2
open PySem
structure FunD (K:W.Frag) (x qual:Str) (st:Stmt) (T:Addr) (f:Addr) (fd:FuncData):Prop where
 ex:∃ (oc:Value) (od:Option Addr) (kV doc pm:Value) (an:Option Addr) (cdv ct:Value) (osl:Array (Option Value)),fd = W.fnOf x qual (aZ st) (aV st) (am st) (.ref T) kV doc pm an cdv ct /\ K.lookup f = some ⟨oc,od,.func fd,osl⟩ /\ W.codeIn K cdv qual = true
section
variable {P:Program} {w:World} {K:W.Frag} {mg:Str -> Option Value} {base:Heap}
theorem FunD.ok {x qual:Str} {st:Stmt} {T f:Addr} {fd:FuncData} {N ps:List Str} {k:Nat} {sp:Sp} (F:FunD K x qual st T f fd) (S:FnScope N ps (am st)) (len:∀ vs H Q E,sp vs H Q E -> vs.length = ps.length)
  (hb:∀ (cdv:Value) (A:Around) (outer:List Env) (s:Shared) (H:Hp) (vs:List V) (Q:VK) (E:XK),Room k (A.deeper (PyProof.Rows.envOfC qual (am st) s.heap.objs.size f cdv)) -> sp vs H Q E -> ∃ t,PSs (Aj CX0 P w K mg base N qual (am st) f cdv A outer s H E).nox (aV st) t /\ t { nx:=fun _ H'=>Q .non H',rt:=Q } (bg N vs) H):FnOk P w K mg base CX0 (k + 1) f fd ps sp:=by
 obtain ⟨oc,od,kV,doc,pm,an,cdv,ct,osl,rfl,lk,hcd⟩:=F.ex
 exact Ig lk hcd S len fun A outer s H vs Q E hr hsp=>by obtain ⟨t,h,q⟩:=hb cdv A outer s H vs Q E hr hsp;exact ⟨t,h.nox,q⟩
end
end L2
namespace L2
open PySem PySem.Spec PyProof.Rows
section
variable {X:Cx} {pins:List (Addr × Obj)} {σ:St} {H:Hp} {s:Shared} {XN N:List Str} {sc scope:Scope} {js:List (Option Nat)}
variable {tg iter elt:Expr} {ifs:List Expr} {pos:Pos} {wi:TI} {g:TG} {tt:TIf} {te:TE}
end
end L2
namespace RevT
open PySem PySem.Calls PyProof.Rows
section
variable {prog:Program} {w:World} {A:Around} {E:Value -> Shared -> Prop} {s:Shared}
end
end RevT
namespace L2
open PySem PySem.Spec PyProof.Rows
section
variable {X:Cx} {tg:Expr}
end
end L2
namespace M
open PySem L2
section
variable {K:W.Frag} {S S' H H':Hp}
noncomputable def Mh:List D -> Option (List D)
 | [.tup l]=>some l.reverse | _=>none
@[simp] noncomputable def Nv (a:XA):XA:=fun ρ=>(a ρ).bind Mh
end
end M
namespace L2
open PySem
section
variable {X:Cx} {e:Expr} {pos p p':Pos} {ta:TE} {T:Addr} {N:Str} {ans:List (Str × Bool)}
end
end L2
namespace M
open PySem L2
section
variable {K:W.Frag} {S S' H H':Hp}
@[simp] noncomputable def No (ans:List (Str × Bool)) (e:XE):XE:=fun ρ=>(e ρ).bind fun d=>match d with | .ins N _ _=>(ans.lookup N).map .bl | _=>none
end
end M
namespace L2
open PySem PySem.Spec PyProof.Rows Builtin Builtin.ObjectAttr Builtin.Getset_descriptor
section
variable {prog:Program} {w:World} {A:Around} {E:Value -> Shared -> Prop} {s:Shared} {K:W.Frag} {C a:Addr}
end
end L2
namespace L2
open PySem PySem.Spec PyProof.Rows
section
variable {H H':Hp} {B h0 h h':Heap} {fs:List Addr}
end
section
variable {X:Cx} {pins:List (Addr × Obj)} {σ:St} {H:Hp} {s:Shared} {E:XK} {B:Heap} {e:Addr} {cls a0:Value}
end
section
variable {P:Program} {w:World} {K:W.Frag} {mg:Str -> Option Value} {base:Heap} {N:List Str} {qual:Str} {scope:Scope} {f:Addr} {cdv:Value} {A:Around} {outer:List Env} {s:Shared} {H:Hp} {E:XK}
end
section
variable {X:Cx} {E:XK} {x:Str} {e:Expr} {te:TE} {np cpos pos:Pos}
end
section
variable {X:Cx} {pins:List (Addr × Obj)} {σ:St} {H H':Hp} {s s':Shared} {e:Addr}
end
section
variable {X:Cx} {body suite:List Stmt} {b0:Stmt} {x n:Str} {i:Nat} {L:List Str} {tb:XK -> TS} {ts:TS} {np hp pos:Pos}
end
section
variable {X:Cx} {e:Expr} {pos p p':Pos} {i:Nat} {N:Str} {ans:List (Str × Bool)} {vv:V} {u:Value}
end
end L2
namespace M
open PySem L2
section
variable {K:W.Frag} {S S' H H':Hp}
inductive RO where
 | rz (N:Str) | nx (ρ:Env)
noncomputable abbrev XR:=Env -> Option RO
variable {E:XK}
@[simp] noncomputable def MU:XR:=fun ρ=>some (.nx ρ)
@[simp] noncomputable def L0 (N:Str):XR:=fun _=>some (.rz N)
@[simp] noncomputable def Od (c:XT) (m n:XR):XR:=fun ρ=>(c ρ).bind fun b=>if b = true then m ρ else n ρ
@[simp] noncomputable def NH (m n:XR):XR:=fun ρ=>(m ρ).bind fun o=>match o with | .nx ρ'=>n ρ' | .rz N=>some (.rz N)
@[simp] noncomputable def MV (m:XR):XR:=fun ρ=>(m ρ).bind fun o=>match o with | .nx _=>none | .rz N=>some (.rz N)
@[simp] noncomputable def xrE (m:Env -> Option Str):XR:=fun ρ=>(m ρ).map .rz
@[simp] noncomputable def MS (m:List D -> Option Str) (a:XA):Env -> Option Str:=fun ρ=>(a ρ).bind m
noncomputable def Im (N:Str):List (List (Str × Bool)) -> Option (List Bool)
 | []=>some []
 | a :: l=>(a.lookup N).bind fun b=>(Im N l).map fun bs=>b :: bs
noncomputable def ED (i:Nat) (N:Str):List (Nat × List (List (Str × Bool))) -> Env -> Option Env
 | [],ρ=>some ρ
 | p :: l,ρ=>if p.1 = i then none else (Im N p.2).bind fun bs=>if bs.length <= 1000 then ED i N l (ρ.set p.1 (.sh (.lst (bs.map .bl)))) else none
@[simp] noncomputable def Ob (L:List Str) (i:Nat) (m:XR) (l:List (Nat × List (List (Str × Bool)))):XS:=fun ρ=>if i < ρ.length then (m ρ).bind fun o=>match o with
 | .rz N=>if L.contains N then (ED i N l (ρ.map fun _=>.un)).map fun ρ'=>.nx (ρ'.set i .un) else none
 | .nx ρ'=>some (.nx ρ') else none
end
end M
namespace L2
open PySem PySem.Spec PyProof.Rows
theorem DV {P:Program} {w:World} {K:W.Frag} {tg:Expr} (it:Addr) (lo:Int) (n:Nat):Turn P w K tg (Itr lo n) [it] it (fun i h=>IsLongIter h it (lo + (i:Nat) * 1) ((n:Int) - (i:Nat)) 1) where
 mem:=by simp
 obj:=fun i h st b hb=>by
  obtain rfl:b = it:=by simpa using hb
  refine ⟨_,st,fun v z=>?_⟩
  have y:Data.fields _ = Data.cell v:=z
  cases y
 keep:=fun i h h' st k=>k it (by simp) _ st
 item:=by
  intro X hP hw hK hc i pins s σ H E I hf st hg
  subst hP hw hK
  have ⟨g0,g1,g2,g3,g4,g5⟩:=hf it (by simp)
  refine (Walks.longrange (prog:=X.prog) (w:=X.w) (I.ok.hd hc) it lo 1 n).item i s _ _ hg st fun v h' tk hv st' kk=>?_
  obtain ⟨t,rfl⟩:=hv
  have J:Inv X pins σ H { s with heap:=h',toks:=tk }:=I.turned (fun b o hb q=>kk b o (by simpa using hb) q) g0 g1 g3 g4 g5
  exact ⟨_,rfl,yn (s:={ s with heap:=h',toks:=tk }) (n := "longrange_iterator") st' rfl rfl (by decide) ⟨.int (lo + i),H,J,⟨t,by rw [Int.mul_one]⟩,⟨rfl,rfl⟩,st',fun b hb=>(hf b hb).1⟩⟩
 done:=by
  intro X hP hw hK hc i pins s σ H E I hf st hg
  subst hP hw hK
  have ⟨g0,g1,g2,g3,g4,g5⟩:=hf it (by simp)
  exact wpAny_pyNext_long_end (I.ok.hd hc) st (by have:n <= i:=hg;lia) fun h' eb=>⟨rfl,I.turned (t':=s.toks) (fun b o hb q=>eb b o hb q) g0 g1 g3 g4 g5⟩
 self:=fun _ _ _ _ _ st h=>wpAny_pyIter_longiter st h
section
variable {X:Cx} {tg:Expr}
theorem DB {pins:List (Addr × Obj)} {σ:St} {H:Hp} {s:Shared} {R:It -> Hp -> Prop} {E:Value -> Shared -> Prop} {lo hi:Int} {t u v:Tok} {tk:Nat} (I:Inv X pins σ H s) (q:R (Itr lo (hi - lo).toNat) H) :
  wpAny (model X.prog X.w) X.A (pyIter (.ref s.heap.objs.size)) (PIE X pins σ tg R) E { s with heap:=s.heap.push { cls:=.type "range",data:=.fields #[.int lo t,.int hi u,.int 1 v] },toks:=tk }:=by
 have J:Inv X pins σ H { s with heap:=s.heap.push { cls:=.type "range",data:=.fields #[.int lo t,.int hi u,.int 1 v] },toks:=tk }:=I.kept fun b o z=>OA _ z
 have hs:(((hi - lo).toNat:Nat):Int) - ((0:Nat):Int) = Builtin.Range.rangeSize lo hi 1:=by rw [rangeSize_one];split <;> lia
 have h0:lo + ((0:Nat):Int) * 1 = lo:=by simp
 cases hb:Builtin.Range.small lo hi 1 with
 | true=>
  refine wpAny_pyIter_range (IsRange.new ..) hb ?_
  refine ⟨_,[(s.heap.push { cls:=.type "range",data:=.fields #[.int lo t,.int hi u,.int 1 v] }).objs.size],_,_,H,rfl,J.kept (t':=tk) fun b o z=>OA _ z,tR _ lo (hi - lo).toNat,?_,fun b hb=>?_,q⟩
  ·show IsRangeIter _ _ (lo + ((0:Nat):Int) * 1) ((((hi - lo).toNat:Nat):Int) - ((0:Nat):Int)) 1
   rw [h0,hs]
   exact OO _ rfl
  ·have z:b = (s.heap.push { cls:=.type "range",data:=.fields #[.int lo t,.int hi u,.int 1 v] }).objs.size:=by simpa using hb
   subst z
   exact J.fpOk (Op _) (J.hok.fresh (Op _))
 | false=>
  refine wpAny_pyIter_longrange (IsRange.new ..) hb ?_
  refine ⟨_,[(s.heap.push { cls:=.type "range",data:=.fields #[.int lo t,.int hi u,.int 1 v] }).objs.size],_,_,H,rfl,J.kept (t':=tk) fun b o z=>OA _ z,DV _ lo (hi - lo).toNat,?_,fun b hb=>?_,q⟩
  ·show IsLongIter _ _ (lo + ((0:Nat):Int) * 1) ((((hi - lo).toNat:Nat):Int) - ((0:Nat):Int)) 1
   rw [h0,hs]
   exact OO _ rfl
  ·have z:b = (s.heap.push { cls:=.type "range",data:=.fields #[.int lo t,.int hi u,.int 1 v] }).objs.size:=by simpa using hb
   subst z
   exact J.fpOk (Op _) (J.hok.fresh (Op _))
noncomputable def Il (ta:TA):TI:=fun σ H R=>ta σ H fun vs H1=>∃ i j:Int,vs = [.int i,.int j] /\ R (Itr i (j - i).toNat) H1
theorem Ds {a b:Expr} {ta:TA} {p pos:Pos} (hg:Gl X "range") (hm:X.mg "range" = none) (ha:PA X [a,b] ta) (hs:starEach [a,b] X.env = [(false,eval a X.env),(false,eval b X.env)]:=by rfl) (hs2:starEach [b] X.env = [(false,eval b X.env)]:=by rfl) :
  PI X tg (.Call (.Name "range" p) [a,b] [] pos) (Il ta):=by
 intro pins s σ H R I h
 refine Call_ (mG I hg hm boot_range (Rq (thn (ha pos pins s σ H _ I h) fun us s1 hpt9=>?_) (by rw [hs,hs2]) (by rw [hs2];rfl)))
 obtain ⟨vs,H1,I1,r1,q1⟩:=hpt9
 obtain ⟨i,j,rfl,q⟩:=q1
 obtain ⟨u1,u2,rfl,r,r'⟩:=Vals.two r1
 obtain ⟨t,rfl⟩:=r
 obtain ⟨t',rfl⟩:=r'
 exact call_range_2 (DB I1 q)
end
end L2
namespace M
open PySem L2
section
variable {K:W.Frag} {S S' H H':Hp}
noncomputable def JO:List D -> Option (List D)
 | [.int i,.int j]=>some (fF i (j - i).toNat)
 | _=>none
@[simp] noncomputable def GD (a:XA):XA:=fun ρ=>(a ρ).bind JO
theorem Jp {ta tb:TE} {a b:XE} (h:SPk K ta a) (hb:SPk K tb b):SI K (Il (eK ta (eK tb nP))) (GD (ad a (ad b aq))):=fun ρ σ S H R l r x k=>by
 unfold GD at x
 cases q:ad a (ad b aq) ρ with
 | none=>rw [q] at x;cases x
 | some ds=>
  rw [q] at x
  obtain ⟨d,e,qa,qb,rfl⟩:=iU q
  obtain ⟨d2,e2,qa2,qb2,rfl⟩:=iU qb
  cases qb2
  cases d <;> try (cases x;done)
  cases d2 <;> try (cases x;done)
  cases x
  refine h ρ σ S H _ _ r qa fun v S1 H1 z1 d1=>hb ρ σ S1 H1 _ _ (r.ext z1) qa2 fun w S2 H2 z2 d2=>?_
  exact ⟨_,_,by rw [d1.int,d2.int],k _ S2 H2 (z1.trans z2) (vZ _ _)⟩
end
end M
namespace L2
open PySem PySem.Spec PyProof.Rows
section
variable {X:Cx} {tg:Expr}
end
end L2
namespace M
open PySem L2
section
variable {K:W.Frag} {S S' H H':Hp}
noncomputable def J5 (x:Str):List D:=x.cps.toList.map fun c=>D.str ⟨#[c]⟩
noncomputable def sgD:D -> Option (List D)
 | .str x=>some (J5 x)
 | _=>none
@[simp] noncomputable def N8 (e:XE):XA:=fun ρ=>(e ρ).bind sgD
noncomputable def L8 (d:D) (lo hi:Option Int):Option D:=match d with
 | .str x=>if x.length <= LIM then some (.str (Txt.slice x lo hi)) else none
 | _=>none
@[simp] noncomputable def Oa (a:XE) (lo hi:XO):XE:=fun ρ=>(a ρ).bind fun d=>(lo ρ).bind fun l=>(hi ρ).bind fun h=>L8 d l h
end
end M
namespace L2
open PySem
end L2
namespace L2
open PySem PySem.Spec PyProof.Rows
section
variable {X:Cx}
inductive PJ (X:Cx):List Expr -> List TE -> Prop
 | nil:PJ X [] []
 | cons {e:Expr} {t:TE} {es:List Expr} {ts:List TE}:PE X e t -> PJ X es ts -> PJ X (e :: es) (t :: ts)
end
end L2
namespace M
open PySem L2
section
variable {K:W.Frag} {S S' H H':Hp}
noncomputable def fvD:D -> Option D
 | .int i=>if i.natAbs.log2 < 1920 then some (.str (toString i)) else none
 | .str y=>if y.length <= LIM then some (.str y) else none
 | _=>none
@[simp] noncomputable def xFv (e:XE):XE:=fun ρ=>(e ρ).bind fvD
inductive SJ (K:W.Frag):List TE -> List XE -> Prop
 | nil:SJ K [] []
 | cons {t:TE} {a:XE} {ts:List TE} {as:List XE}:SPk K t a -> SJ K ts as -> SJ K (t :: ts) (a :: as)
end
end M
namespace L2
open PySem PySem.Spec PyProof.Rows
section
variable {M:Model} {A:Around} {Ex:Value -> Shared -> Prop} {s:Shared}
end
section
variable {P:Program} {w:World} {K:W.Frag} {mg:Str -> Option Value} {base:Heap} {N:List Str} {qual:Str} {scope:Scope} {f:Addr} {cdv:Value} {A:Around} {outer:List Env} {s:Shared} {H:Hp} {E:XK}
end
section
variable {X:Cx} {pins:List (Addr × Obj)} {σ:St} {H:Hp} {s:Shared} {XN N:List Str} {sc scope:Scope} {js:List (Option Nat)}
variable {tg iter elt:Expr} {ifs:List Expr} {pos:Pos} {wi:TI} {g:TG} {tt:TIf} {te:TE} {E:XK}
end
section
variable {X:Cx}
end
end L2
namespace M
open PySem L2
section
variable {K:W.Frag} {S S' H H':Hp} {E:XK}
@[simp] noncomputable def Oe (m:XS):XR:=fun ρ=>match m ρ with | some (.nx ρ')=>some (.nx ρ') | _=>none
@[simp] noncomputable def Og (n:Env -> Option Str) (m:XS):XR:=fun ρ=>match n ρ with | some N=>some (.rz N) | none=>(match m ρ with | some (.nx ρ')=>some (.nx ρ') | _=>none)
@[simp] noncomputable def MQ (m:Env -> Option Str):Env -> Option Str:=m
@[simp] noncomputable def MR (e:XE) (m:Env -> Option Str):Env -> Option Str:=fun ρ=>(e ρ).bind fun _=>m ρ
@[simp] noncomputable def Oc (n:Env -> Option Str) (e:XE) (m:Env -> Option Str):Env -> Option Str:=fun ρ=>match n ρ with | some N=>some N | none=>(e ρ).bind fun _=>m ρ
@[simp] noncomputable def NF (i:Nat) (m:Env -> Option Str):Env -> Option Str:=fun ρ=>match ρ[i]? with | some (.ow (.lst _))=>m ρ | _=>none
noncomputable def Ec (g:XG) (c:XT) (e:XE) (n:Env -> Option Str) (ρ0:Env):List D -> Option Str
 | []=>none
 | d :: l=>(g d ρ0).bind fun ρ1=>(c ρ1).bind fun b=>if b = true then (match n ρ1 with | some N=>some N | none=>(e ρ1).bind fun _=>Ec g c e n ρ0 l) else Ec g c e n ρ0 l
@[simp] noncomputable def MT (js:List (Option Nat)) (w:XA) (g:XG) (c:XT) (e:XE) (n:Env -> Option Str):Env -> Option Str:=fun ρ=>(w ρ).bind fun l=>if l.length <= LIM then Ec g c e n (p7 js ρ) l else none
noncomputable def Ip (g:XG) (m:XR):List D -> Env -> Option RO
 | [],ρ=>some (.nx ρ)
 | d :: l,ρ=>(g d ρ).bind fun ρ1=>(m ρ1).bind fun o=>match o with | .nx ρ2=>Ip g m l ρ2 | .rz N=>some (.rz N)
@[simp] noncomputable def NG (e:XA) (g:XG) (m:XR):XR:=fun ρ=>(e ρ).bind fun l=>Ip g m l ρ
end
end M
namespace L2
open PySem
end L2
namespace L2
open PySem PySem.Spec PyProof.Rows
section
variable {κ:Type} [DecidableEq κ]
noncomputable def jJ (kvs:List (κ × V)) (k:κ):Option V:=(kvs.find? fun kv=>decide (kv.1 = k)).map (·.2)
noncomputable def im (kvs:List (κ × V)) (k:κ) (v:V):List (κ × V):=
 if (kvs.any fun kv=>decide (kv.1 = k)) = true then kvs.map (fun kv=>if kv.1 = k then (kv.1,v) else kv) else kvs ++ [(k,v)]
noncomputable def uY (kvs:List (κ × V)) (k:κ):List (κ × V):=kvs.filter fun kv=>decide (kv.1 ≠ k)
theorem kP {p:κ × V} {r:List (κ × V)} {k:κ} (e:p.1 = k):jJ (p :: r) k = some p.2:=by simp [jJ,QK,e]
theorem kO {p:κ × V} {r:List (κ × V)} {k:κ} (e:¬ p.1 = k):jJ (p :: r) k = jJ r k:=by simp [jJ,QK,e]
theorem nR (k:κ):∀ kvs:List (κ × V),(kvs.any fun kv=>decide (kv.1 = k)) = (jJ kvs k).isSome
 | []=>rfl
 | p :: r=>by
  rw [QA]
  by_cases e:p.1 = k
  ·simp only [kP e,Pb e,Bool.true_or,Option.isSome_some]
  ·rw [kO e,OY e,Bool.false_or];exact nR k r
theorem gZ (kvs:List (κ × V)) (k:κ) (v:V):(im kvs k v).length <= kvs.length + 1:=by
 unfold im
 split
 ·rw [Os];lia
 ·rw [Ov,Ow,RB];lia
theorem Fw {kvs:List (κ × V)} {k:κ} (v:V) (h:jJ kvs k = none):im kvs k v = kvs ++ [(k,v)]:=by
 unfold im
 rw [nR,h]
 exact Oi (by decide)
theorem RelO.isSome_eq {o:Option V} {u:Option Value} (r:RelO o u):o.isSome = u.isSome:=by
 cases o with
 | none=>cases u with
  | none=>rfl
  | some _=>exact (show False from r).elim
 | some _=>cases u with
  | none=>exact (show False from r).elim
  | some _=>rfl
theorem KV.val {kvs:List (κ × V)} {vs:List (κ × Value)} (r:KV kvs vs) (k:κ):RelO (jJ kvs k) (valueAt vs k):=by
 unfold KV at r
 induction r with
 | nil=>exact True.intro
 | @cons p q ps qs h t ih=>
  obtain ⟨h1,h2⟩:=h
  by_cases e:p.1 = k
  ·have e':q.1 = k:=h1.symm.trans e
   have b:valueAt (q :: qs) k = some q.2:=by simp [valueAt,QK,e']
   rw [kP e,b];exact h2
  ·have e':¬ q.1 = k:=fun z=>e (h1.trans z)
   have b:valueAt (q :: qs) k = valueAt qs k:=by simp [valueAt,QK,e']
   rw [kO e,b];exact ih
theorem KV.any {kvs:List (κ × V)} {vs:List (κ × Value)} (r:KV kvs vs) (k:κ):(kvs.any fun kv=>decide (kv.1 = k)) = vs.any fun kv=>decide (kv.1 = k):=by
 unfold KV at r
 induction r with
 | nil=>rfl
 | cons h t ih=>rw [QA,QA,ih,h.1]
theorem KV.repl {kvs:List (κ × V)} {vs:List (κ × Value)} (r:KV kvs vs) (k:κ) {y:V} {u:Value} (ry:RelV y u) :
  KV (kvs.map fun kv=>if kv.1 = k then (kv.1,y) else kv) (vs.map fun kv=>if kv.1 = k then (kv.1,u) else kv):=by
 unfold KV at r ⊢
 induction r with
 | nil=>exact .nil
 | @cons p q ps qs h t ih=>
  rw [Ox,Ox]
  refine .cons ?_ ih
  obtain ⟨h1,h2⟩:=h
  by_cases e:p.1 = k
  ·rw [Oj e,Oj (h1.symm.trans e)];exact ⟨h1,ry⟩
  ·rw [Oi e,Oi (fun z=>e (h1.trans z))];exact ⟨h1,h2⟩
theorem KV.put {kvs:List (κ × V)} {vs:List (κ × Value)} (r:KV kvs vs) (k:κ) {y:V} {u:Value} (ry:RelV y u):KV (im kvs k y) (stored vs k u):=by
 unfold im stored
 rw [r.any k]
 by_cases e:(vs.any fun kv=>decide (kv.1 = k)) = true
 ·rw [Oj e,Oj e];exact r.repl k ry
 ·rw [Oi e,Oi e];exact Paired.snoc r ⟨rfl,ry⟩
theorem KV.length {kvs:List (κ × V)} {vs:List (κ × Value)} (r:KV kvs vs):kvs.length = vs.length:=PL r
theorem En (kvs:List (κ × V)) (k:κ):(uY kvs k).length <= kvs.length:=Q8 _ _
end
theorem BQ {P:Program} {w:World} {k:Key} {u:Value} (r:RelV (kV k) u):(bp P w).is k u = true:=by
 cases k with
 | inl i=>obtain ⟨t,e⟩:=(show ∃ t,u = Value.int i t from r);subst e;exact yD P w i t
 | inr x=>obtain ⟨t,e⟩:=(show ∃ t,u = Value.str x t from r);subst e;exact yE P w x t
theorem vi {P:Program} {w:World}:∀ {ks:List Key} {us:List Value},Vals (ks.map kV) us -> ItemsAre (bp P w) ks us
 | [],_,r=>by rw [PP] at r;cases r;exact .nil
 | k :: ks,_,r=>by
  rw [Ox] at r
  cases r with
  | cons h t=>exact .cons (BQ h) (vi t)
noncomputable abbrev KT (H:Hp):List (List Key × V) -> List (List Key × Addr × Value) -> Prop:=Paired fun p q=>p.1 = q.1 /\ H q.2.1 = some (.tup (p.1.map kV)) /\ RelV p.2 q.2.2
theorem KT.val {H:Hp} {kvs:List (List Key × V)} {xs:List (List Key × Addr × Value)} (r:KT H kvs xs) (k:List Key):RelO (jJ kvs k) ((atKey xs k).map (·.2)):=by
 induction r with
 | nil=>exact True.intro
 | @cons p q ps qs h t ih=>
  obtain ⟨h1,_,h2⟩:=h
  by_cases e:p.1 = k
  ·have e':q.1 = k:=h1.symm.trans e
   have b:atKey (q :: qs) k = some q.2:=by simp [atKey,QK,e']
   rw [kP e,b];exact h2
  ·have e':¬ q.1 = k:=fun z=>e (h1.trans z)
   have b:atKey (q :: qs) k = atKey qs k:=by simp [atKey,QK,e']
   rw [kO e,b];exact ih
theorem KT.repl {H:Hp} {kvs:List (List Key × V)} {xs:List (List Key × Addr × Value)} (r:KT H kvs xs) (k:List Key) {y:V} {u:Value} (ry:RelV y u) :
  KT H (kvs.map fun kv=>if kv.1 = k then (kv.1,y) else kv) (xs.map (putAt k u)):=by
 induction r with
 | nil=>exact .nil
 | @cons p q ps qs h t ih=>
  rw [Ox,Ox]
  refine .cons ?_ ih
  obtain ⟨h1,h2,h3⟩:=h
  unfold putAt
  by_cases e:p.1 = k
  ·rw [Oj e,Oj (h1.symm.trans e)];exact ⟨h1,h2,ry⟩
  ·rw [Oi e,Oi (fun z=>e (h1.trans z))];exact ⟨h1,h2,h3⟩
theorem KT.put {H:Hp} {kvs:List (List Key × V)} {xs:List (List Key × Addr × Value)} (r:KT H kvs xs) (k:List Key) {b:Addr} {y:V} {u:Value} (hb:H b = some (.tup (k.map kV))) (ry:RelV y u) :
  KT H (im kvs k y) (storedH xs k b u):=by
 have e:(kvs.any fun kv=>decide (kv.1 = k)) = (atKey xs k).isSome:=by
  rw [nR,(r.val k).isSome_eq,Option.isSome_map]
 unfold im storedH
 rw [e]
 by_cases q:(atKey xs k).isSome = true
 ·rw [Oj q,Oj q];exact r.repl k ry
 ·rw [Oi q,Oi q];exact Paired.snoc r ⟨rfl,hb,ry⟩
theorem KT.keeps {H H':Hp} {kvs:List (List Key × V)} {xs:List (List Key × Addr × Value)} (r:KT H kvs xs) (ht:∀ b ys,H b = some (.tup ys) -> H' b = some (.tup ys)):KT H' kvs xs:=
 Paired.mapP r fun _ _ z=>⟨z.1,ht _ _ z.2.1,z.2.2⟩
section
variable {P:Program} {w:World} {H:Hp} {h:Heap} {a:Addr}
theorem d8 {u:HO} (ok:HOk P w H h) (e:Rd H a u):ObjOk P w H h a u:=e.ok ok
theorem Em {kvs:List (Key × V)} (ok:HOk P w H h) (e:Rd H a (.dK kvs)):kvs.length <= sizeLine /\ (a == sysModules) = false /\ ∃ vs,KV kvs vs /\ h.DictOf (bp P w) a vs:=
 show ObjOk P w H h a (.dK kvs) from d8 ok e
theorem Kx {kvs:List (Key × V)} (ok:HOk P w H h) (e:H a = some (.dK kvs)):kvs.length <= sizeLine /\ (a == sysModules) = false /\ ∃ vs,KV kvs vs /\ h.DictOf (bp P w) a vs:=Em ok (.inl e)
theorem oH {ks:List Key} (ok:HOk P w H h) (e:H a = some (.tup (ks.map kV))):(tupleKind (bp P w)).is h ks a:=by
 obtain ⟨_,its,r,o,h1,h2,n,h3⟩:=(show ObjOk P w H h a (.tup (ks.map kV)) from ok a _ e)
 exact ⟨o,its.toArray,n,h1,h2,h3,by simpa using vi r⟩
theorem BL {kvs:List (List Key × V)} (ok:HOk P w H h) (e:Rd H a (.dT kvs)):kvs.length <= sizeLine /\ (a == sysModules) = false /\
  ∃ xs,KT H kvs xs /\ h.DictOfH (tupleKind (bp P w)) a xs:=by
 obtain ⟨z,y,xs,r,o,es,ep,h1,h2,h3,h4,h5⟩:=(show ObjOk P w H h a (.dT kvs) from d8 ok e)
 refine ⟨z,y,xs,r,o,es,ep,h1,h2,h3,h4,fun x hx=>?_,h5⟩
 have all:∀ {l:List (List Key × V)} {m:List (List Key × Addr × Value)},KT H l m -> ∀ x ∈ m,(tupleKind (bp P w)).is h x.1 x.2.1:=by
  intro l m q
  induction q with
  | nil=>intro x hx;exact nomatch hx
  | @cons p q ps qs hq t ih=>
   intro x hx
   rcases Oy.mp hx with e | hx
   ·subst e
    exact oH ok (by rw [<- hq.1];exact hq.2.1)
   ·exact ih x hx
 exact all r x hx
theorem Eo {kvs:List (List Key × V)} (ok:HOk P w H h) (e:H a = some (.dT kvs)):kvs.length <= sizeLine /\ (a == sysModules) = false /\
  ∃ xs,KT H kvs xs /\ h.DictOfH (tupleKind (bp P w)) a xs:=BL ok (.inl e)
end
def GF (H:Hp) (a:Addr) (y:V) (r:Option V):Prop:=
 (∃ kvs k,Rd H a (.dK kvs) /\ y = kV k /\ r = jJ kvs k) \/ ∃ kvs k b,Rd H a (.dT kvs) /\ y = .ref b /\ H b = some (.tup (k.map kV)) /\ r = jJ kvs k
def Km (H:Hp) (a:Addr) (y v:V) (H':Hp):Prop:=
 (∃ kvs k,H a = some (.dK kvs) /\ y = kV k /\ kvs.length < sizeLine /\ H' = upd H a (.dK (im kvs k v))) \/
 ∃ kvs k b,H a = some (.dT kvs) /\ y = .ref b /\ H b = some (.tup (k.map kV)) /\ kvs.length < sizeLine /\ H' = upd H a (.dT (im kvs k v))
section
variable {X:Cx} {pins:List (Addr × Obj)} {σ:St} {H:Hp} {s:Shared} {a:Addr} {y v:V} {u r:Value} {o:Option V} {A:Around} {E:Value -> Shared -> Prop}
theorem Inv.big (I:Inv X pins σ H s):sysModules < s.heap.objs.size:=by
 have h:mainGlobals < s.heap.objs.size:=(I.mod.glob.keeps I.bk).lt
 exact Q6 (by decide) h
theorem L9 {Q:Value -> Shared -> Prop} (hu:A.units + 1 < cLine) (I:Inv X pins σ H s) (g:GF H a y o) (ry:RelV y u) (h:∀ s',Inv X pins σ H s' -> Q (.bool o.isSome) s') :
  wpAny (model X.prog X.w) A (compareOp .In u (.ref a)) Q E s:=by
 rcases g with ⟨kvs,k,e,ey,l⟩ | ⟨kvs,k,b,e,ey,eb,l⟩
 ·subst ey
  obtain ⟨z,hd,vs,rel,dd⟩:=Em I.hok e
  refine wpAny_in_of (BQ ry) hd dd.mapOf ?_
  rw [<- (rel.val k).isSome_eq,<- l]
  exact h _ (I.tok _)
 ·subst ey
  cases (show u = Value.ref b from ry)
  obtain ⟨z,hd,xs,rel,dd⟩:=BL I.hok e
  refine wpAny_in_heap (Q9 hu) (oH I.hok eb) hd dd ?_
  have q:=(rel.val k).isSome_eq
  rw [Option.isSome_map] at q
  rw [<- q,<- l]
  exact h _ (I.tok _)
theorem GU {Q:Value -> Shared -> Prop} (hu:A.units + 1 < cLine) (I:Inv X pins σ H s) (g:GF H a y o) (ry:RelV y u) (h:∀ s',Inv X pins σ H s' -> Q (.bool (!o.isSome)) s') :
  wpAny (model X.prog X.w) A (compareOp .NotIn u (.ref a)) Q E s:=by
 rcases g with ⟨kvs,k,e,ey,l⟩ | ⟨kvs,k,b,e,ey,eb,l⟩
 ·subst ey
  obtain ⟨z,hd,vs,rel,dd⟩:=Em I.hok e
  refine wpAny_notIn_of (BQ ry) hd dd.mapOf ?_
  rw [<- (rel.val k).isSome_eq,<- l]
  exact h _ (I.tok _)
 ·subst ey
  cases (show u = Value.ref b from ry)
  obtain ⟨z,hd,xs,rel,dd⟩:=BL I.hok e
  refine wpAny_notIn_heap (Q9 hu) (oH I.hok eb) hd dd ?_
  have q:=(rel.val k).isSome_eq
  rw [Option.isSome_map] at q
  rw [<- q,<- l]
  exact h _ (I.tok _)
theorem m6 {h':Heap} {t':Nat} {ob:HO} (I:Inv X pins σ H s) (mu:Mut (H a)) (hs:Heap.SameBut a s.heap h') (he:∃ q,h'.get? a = some q) (new:ObjOk X.prog X.w (upd H a ob) h' a ob) :
  Inv X pins σ (upd H a ob) { s with heap:=h',toks:=t' }:=
 I.write (x:=a) (e:=a) mu (.inl rfl) (fun b q hb z=>(hs.2 b hb).trans z) he new
theorem Jh {P:Program} {w:World} {H':Hp} {h':Heap} {kvs:List (Key × V)} {vs:List (Key × Value)} (z:kvs.length <= sizeLine) (hd:(a == sysModules) = false) (rel:KV kvs vs) (dd:h'.DictOf (bp P w) a vs) :
  ObjOk P w H' h' a (.dK kvs):=⟨z,hd,vs,rel,dd⟩
theorem CO {H':Hp} {Q:Unit -> Shared -> Prop} (hu:A.units + 1 < cLine) (I:Inv X pins σ H s) (g:Km H a y v H') (ry:RelV y u) (rv:RelV v r) (h:∀ s',Inv X pins σ H' s' -> Q () s') :
  wpAny (model X.prog X.w) A (setItem (.ref a) u r) Q E s:=by
 rcases g with ⟨kvs,k,e,ey,l,eH⟩ | ⟨kvs,k,b,e,ey,eb,l,eH⟩
 ·subst ey eH
  obtain ⟨z,hd,vs,rel,dd⟩:=Kx I.hok e
  have hz:vs.length <= sizeLine:=by rw [<- rel.length];exact z
  have hl:(im kvs k v).length <= sizeLine:=by have:=gZ kvs k v;lia
  refine wpAny_setItem_pairs (hsz:=hz) (BQ ry) dd fun h' dd' hs=>h _ ?_
  have he:∃ q,h'.get? a = some q:=let ⟨q,_,_,hq,_⟩:=dd';⟨q,hq⟩
  exact m6 I (by rw [e];exact True.intro) hs he (Jh hl hd (rel.put k rv) dd')
 ·subst ey eH
  cases (show u = Value.ref b from ry)
  obtain ⟨z,hd,xs,rel,dd⟩:=Eo I.hok e
  have hz:xs.length <= sizeLine:=by rw [<- PL rel];exact z
  have hl:(im kvs k v).length <= sizeLine:=by have:=gZ kvs k v;lia
  refine wpAny_setItem_heap (hsz:=hz) (Q9 hu) (oH I.hok eb) dd fun h' dd' hs=>h _ ?_
  obtain ⟨q,es,ep,hq,h2,h3,h4,_,h5⟩:=dd'
  refine m6 I (by rw [e];exact True.intro) hs ⟨q,hq⟩ ⟨hl,hd,_,(rel.put k eb rv).keeps fun c ys ec=>?_,q,es,ep,hq,h2,h3,h4,h5⟩
  rw [aB (vz ec e (fun z=>nomatch z))]
  exact ec
end
section
variable {X:Cx} {pins:List (Addr × Obj)} {σ:St} {H:Hp} {s:Shared} {a:Addr} {kvs:List (Key × V)} {k:Key} {u:Value} {A:Around} {E:Value -> Shared -> Prop}
end
noncomputable def Lp (ty td:TE):TE:=fun σ H Q=>ty σ H fun y H1=>td σ H1 fun x H2=>∃ a o,x = .ref a /\ GF H2 a y o /\ Q (.bl o.isSome) H2
noncomputable def Cm (ty td:TE):TE:=fun σ H Q=>ty σ H fun y H1=>td σ H1 fun x H2=>∃ a o,x = .ref a /\ GF H2 a y o /\ Q (.bl (!o.isSome)) H2
noncomputable def IB (td ty tv:TE):TS:=fun D σ H=>tv σ H fun v H1=>td σ H1 fun x H2=>ty σ H2 fun y H3=>∃ a H4,x = .ref a /\ Km H3 a y v H4 /\ D.nx σ H4
section
variable {X:Cx} {o i e value:Expr} {pos pos' tpos:Pos} {td ty tv:TE}
theorem Fe (hu:X.A.units + 1 < cLine) (hi:PE X i ty) (ho:PE X o td):PC X .In i o (Lp ty td):=by
 intro pins s σ H Q I h
 refine thn (hi pins s σ H _ I h) fun iv s1 ⟨y,H1,I1,ry,q1⟩=>thn (ho pins s1 σ H1 _ I1 q1) fun u s2 hpt9=>?_
 obtain ⟨x,H2,I2,rx,a,ov,ex,g,q2⟩:=hpt9
 subst ex
 obtain rfl:u = Value.ref a:=rx
 exact L9 hu I2 g ry fun s3 I3=>⟨.bl ov.isSome,H2,I3,rfl,q2⟩
theorem vF (hu:X.A.units + 1 < cLine) (hi:PE X i ty) (ho:PE X o td):PC X .NotIn i o (Cm ty td):=by
 intro pins s σ H Q I h
 refine thn (hi pins s σ H _ I h) fun iv s1 ⟨y,H1,I1,ry,q1⟩=>thn (ho pins s1 σ H1 _ I1 q1) fun u s2 hpt9=>?_
 obtain ⟨x,H2,I2,rx,a,ov,ex,g,q2⟩:=hpt9
 subst ex
 obtain rfl:u = Value.ref a:=rx
 exact GU hu I2 g ry fun s3 I3=>⟨.bl (!ov.isSome),H2,I3,rfl,q2⟩
theorem Hy (hu:X.A.units + 1 < cLine) (ho:PE X o td) (hi:PE X i ty) (hv:PE X value tv) (hs:swapsWith value (some (.Subscript o i pos')) pos.line X.env = pure false) :
  PS X (.Assign [.Subscript o i pos'] value pos) (IB td ty tv):=by
 intro pins s σ H D I h
 refine wpAny_Assign_Subscript (thn (hv pins s σ H _ I h) fun r s1 ⟨v,H1,I1,rv,q1⟩=>thn (ho pins s1 σ H1 _ I1 q1) fun u s2 ⟨x,H2,I2,rx,q2⟩=>thn (hi pins s2 σ H2 _ I2 q2) fun iv s3 hpt9=>?_) hs
 obtain ⟨y,H3,I3,ry,a,H4,ex,g,q3⟩:=hpt9
 subst ex
 obtain rfl:u = Value.ref a:=rx
 exact CO hu I3 g ry rv fun s4 I4=>⟨σ,H4,I4,q3⟩
end
theorem yb {P:Program} {w:World} {H:Hp} (h:Heap) (hb:sysModules < h.objs.size):ObjOk P w H (h.push { cls:=.type "dict",data:=.dict #[] }) h.objs.size (.dT []):=
 ⟨O9 _,beq_eq_false_iff_ne.mpr (OQ (OE hb)),[],.nil,_,#[],0,OO _ rfl,⟨rfl,rfl,rfl⟩,rfl,rfl,Ra⟩
noncomputable def Gc:TE:=fun _ H Q=>∀ p,H p = none -> Q (.ref p) (upd H p (.dT []))
section
variable {X:Cx} {pos:Pos}
theorem Ff:PE X (.Dict [] [] pos) Gc:=fun pins s σ H Q I h=>
 wpAny_Dict_empty ⟨.ref s.heap.objs.size,_,I.laid (a:=s.heap.objs.size) (o:=.dT []) (t':=s.toks) (fun _ _ q=>OA _ q) (Op _) (yb s.heap I.big),rfl,h _ (I.hok.fresh (Op _))⟩
end
section
variable {X:Cx} {pins:List (Addr × Obj)} {σ:St} {H:Hp} {s:Shared} {a:Addr} {y d:V} {u r:Value} {o:Option V} {A:Around} {E:Value -> Shared -> Prop}
end
section
variable {X:Cx} {o e f:Expr} {apos cpos:Pos} {td ty tx:TE}
end
end L2
namespace PySem
namespace DX
theorem wT:typeLookup (.type "list") "keys" = pure none:=by rw [Qp,Qq];kernel_rfl
theorem AH:typeLookup (.type "list") "__getattr__" = pure none:=by rw [Qp,Qq];kernel_rfl
theorem lZ:isSubtype (.type "AttributeError") (.type "AttributeError") = pure true:=by rw [QL];kernel_rfl
theorem Av:((Manifest.find? "AttributeError").elim false fun t=>t.mro.contains "StopIteration" || t.mro.contains "SystemExit") = false:=by first | rfl | kernel_rfl | decide +kernel
section
variable {prog:Program} {w:World} {A:Around} {E:Value -> Shared -> Prop} {s:Shared} {a:Addr} {its:Array Value} {n:Nat} {α:Type}
theorem DA {msg nm:Str} {Q:α -> Shared -> Prop} (hh:A.handled = none) (hm:msg.length <= sizeLine) (hq:∀ h' tk' e oe,(∀ b o,s.heap.get? b = some o -> h'.get? b = some o) -> h'.get? e = some oe -> oe.cls = .type "AttributeError" -> E (.ref e) { s with heap:=h',toks:=tk' }) :
  wpAny (model prog w) A (raiseAttrError (.ref a) nm msg:Sem α) Q E s:=by
 unfold raiseAttrError
 refine Oh (wpAny_mkStr (Oh ?_) hm)
 unfold newExc newTuple
 refine Oh (Pc ?_ (by size_fits))
 refine Oh (m:=firstArgMember _ _) (Qd (a:=Value.none) (by simp only [firstArgMember,Av];rfl) ?_)
 refine Pc ?_ (by size_fits)
 refine Oh (wpAny_mkText ?_)
 refine Oh ?_
 have f1:=lZ
 unfold noteAttr lacksNameAndObj
 have ho:=OO (s.heap.push { cls:=.type "tuple",data:=.seq [Value.str msg s.toks].toArray }) (o:={ cls:=.type "AttributeError",data:=.fields (#[.ref s.heap.objs.size,.none,.none,.none,.bool false,.none] ++ ownMembersOf (.type "AttributeError") [Value.str msg s.toks]) }) rfl
 have hT:({ s with heap:=(s.heap.push { cls:=.type "tuple",data:=.seq [Value.str msg s.toks].toArray }).push { cls:=.type "AttributeError",data:=.fields (#[.ref s.heap.objs.size,.none,.none,.none,.bool false,.none] ++ ownMembersOf (.type "AttributeError") [Value.str msg s.toks]) } }:Shared).TypeIs (.ref (s.heap.push { cls:=.type "tuple",data:=.seq [Value.str msg s.toks].toArray }).objs.size) "AttributeError" := ⟨_,ho,rfl⟩
 repeat (any_goals (first | assumption | wp_step))
 unfold raiseNew
 refine Oh (wpAny_handled ?_)
 rw [hh]
 first
  | refine QM ?_
  | refine Oh (Om (QM ?_))
 have hu:=Pd (Obj.mapFields fun vs=>vs.extract 0 6 ++ #[Value.str nm s.toks,.ref a]) ho (Rb (Qe rfl _))
 refine hq _ _ _ _ (fun b o hb=>?_) (Pd _ ho (Rb (Qe rfl _))) (RC _ _)
 rw [Rv _ _ (P5 (OT (Oz hb) (by simp)))]
 exact OA _ (OA _ hb)
theorem qg {tk:Tok} {Q:Fin -> Shared -> Prop} (hh:A.handled = none) (hx:s.heap.get? a = some { cls:=.type "list",data:=.seq its n }) (hq:∀ h' tk' e oe,(∀ b o,s.heap.get? b = some o -> h'.get? b = some o) -> h'.get? e = some oe -> oe.cls = .type "AttributeError" -> E (.ref e) { s with heap:=h',toks:=tk' }) :
  wpAny (model prog w) A (Builtin.«object.__getattribute__» ⟨[.ref a,.str "keys" tk],[]⟩) Q E s:=by
 obtain ⟨h,g,d,t,os⟩:=s
 have hT:(⟨h,g,d,t,os⟩:Shared).TypeIs (.ref a) "list" := ⟨_,hx,rfl⟩
 have f4:=wT
 repeat (any_goals (first | assumption | wp_step))
 all_goals (try dsimp only)
 repeat (any_goals (first | assumption | wp_step))
 exact DA hh (by rw [OJ];decide +kernel) hq
theorem C9 {Q:Option Value -> Shared -> Prop} (hh:A.handled = none) (hx:s.heap.get? a = some { cls:=.type "list",data:=.seq its n }) (hq:∀ h' tk',(∀ b o,s.heap.get? b = some o -> h'.get? b = some o) -> Q none { s with heap:=h',toks:=tk' }) :
  wpAny (model prog w) A (getAttr? (.ref a) "keys") Q E s:=by
 obtain ⟨h,g,d,t,os⟩:=s
 have hT:(⟨h,g,d,t,os⟩:Shared).TypeIs (.ref a) "list" := ⟨_,hx,rfl⟩
 have f2:=RD.lookup
 have f3:=RD.bind (.ref a)
 have f5:=AH
 have f6:=lZ
 unfold getAttr? getAttrBy? getAttrBy getAttrByItsOwn callGetattribute boundAndCalled
 repeat (any_goals (first | assumption | wp_step))
 refine R5 RD.plain F.entry_list_ga (RD.check _ _ _ _ _ _ _ _ hT (F.args_list_getattribute_2 _ _) (qg (by exact hh) hx fun h' tk' e oe hk he hc=>?_))
 have hTe:(⟨h',g,d,tk',os⟩:Shared).TypeIs (.ref e) "AttributeError" := ⟨oe,he,hc⟩
 dsimp only
 unfold getattributeRaised
 refine Oh (QN (T := "AttributeError") (b:=true) hTe f6 ?_)
 rw [Oj rfl]
 refine Oh ?_
 unfold hookBehind
 rw [Oi (by decide)]
 refine Qd f5 ?_
 unfold hookOrError
 dsimp only
 unfold attributeErrorLeaves
 simp only [Bool.not_false,if_true]
 first
  | refine QM ?_
  | refine Oh (QM ?_)
 refine Oh (QN (T := "AttributeError") (b:=true) hTe f6 ?_)
 rw [Oj rfl]
 exact Om (hq h' tk' hk)
end
theorem rY:entryFor table "dict.update.loop" = some Builtin.«dict.update.loop»:=entryFor_of_tree (by kernel_rfl)
theorem jC:plainId "dict.update.loop" = true:=by decide +kernel
end DX
end PySem
namespace L2
open PySem PySem.Spec PyProof.Rows
section
variable {X:Cx} {pins:List (Addr × Obj)} {σ:St} {H:Hp} {s:Shared} {a b:Addr} {kvs:List (List Key × V)} {k:List Key} {v:V} {r:Value} {A:Around} {E:Value -> Shared -> Prop}
theorem GV {Q:Unit -> Shared -> Prop} (hu:(tupleKind (bp X.prog X.w)).room A) (I:Inv X pins σ H s) (e:H a = some (.dT kvs)) (eb:H b = some (.tup (k.map kV))) (l:kvs.length < sizeLine) (rv:RelV v r)
  (h:∀ s',Inv X pins σ (upd H a (.dT (im kvs k v))) s' -> Q () s'):wpAny (model X.prog X.w) A (dictSet a (.ref b) r) Q E s:=by
 obtain ⟨z,hd,xs,rel,dd⟩:=Eo I.hok e
 have hz:xs.length <= sizeLine:=by rw [<- PL rel];exact z
 have hl:(im kvs k v).length <= sizeLine:=by have:=gZ kvs k v;lia
 refine wpAny_dictSet_heap (hsz:=hz) hu (oH I.hok eb) dd fun h' dd' hs=>h _ ?_
 obtain ⟨q,es,ep,hq,h2,h3,h4,_,h5⟩:=dd'
 refine m6 I (by rw [e];exact True.intro) hs ⟨q,hq⟩ ⟨hl,hd,_,(rel.put k eb rv).keeps fun c ys ec=>?_,q,es,ep,hq,h2,h3,h4,h5⟩
 rw [aB (vz ec e (fun z=>nomatch z))]
 exact ec
end
noncomputable def kK (kvs:List (List Key × V)) (es:List (List Key × V)):List (List Key × V):=es.foldl (fun acc kv=>im acc kv.1 kv.2) kvs
section
variable {X:Cx} {pins:List (Addr × Obj)} {σ:St} {A:Around} {a l it:Addr} {xs:List V}
theorem zM {R:Result -> Shared -> Prop} (hu:(tupleKind (bp X.prog X.w)).room A.in1) (hh:A.in1.handled = none):∀ (es:List (Addr × Addr × List Key × V)) (i:Nat) (kvs:List (List Key × V)) (H:Hp) (s:Shared),Inv X pins σ H s -> H a = some (.dT kvs) ->
  rd X pins H it -> s.heap.IsListIter it l i -> H l = some (.lst xs) -> xs.drop i = es.map (fun e=>V.ref e.1) -> (∀ e ∈ es,H e.1 = some (.tup [.ref e.2.1,e.2.2.2]) /\ H e.2.1 = some (.tup (e.2.2.1.map kV))) -> kvs.length + es.length < sizeLine ->
  (∀ s',Inv X pins σ (upd H a (.dT (kK kvs (es.map fun e=>(e.2.2.1,e.2.2.2))))) s' -> R (.ok (.ret .none)) s') ->
  codeAny (model X.prog X.w) A (.builtin "dict.update.loop" ⟨[.ref a,.ref it,rawInt i,.none],[]⟩) R s
 | [],i,kvs,H,s,I,ea,fo,hit,el,hd,_,_,hR=>by
  obtain ⟨its,rl,pl,_⟩:=I.list (.inl (.inl el))
  have hx:its.toArray[i]? = none:=by
   have h1:xs.length <= i:=by
    have:=OG List.length hd
    rw [Ru] at this
    simpa [Nat.sub_eq_zero_iff_le] using this
   have:=rl.length
   simp
   lia
  refine Qf DX.rY ?_
  rw [Qr DX.jC _]
  show wpAny _ A.in1 (pyNext (.ref it) >>= _) _ _ s
  refine Oh (wpAny_pyNext_list_end hh hit pl.isList hx fun h' he=>?_)
  show wpAny _ A.in1 (Builtin.Dict.addKeywords a [] >>= _) _ _ _
  refine Oh (Om (Om (hR _ ?_)))
  have e0:upd H a (.dT (kK kvs (([]:List (Addr × Addr × List Key × V)).map fun e=>(e.2.2.1,e.2.2.2)))) = H:=by
   funext c
   unfold upd
   split
   ·rename_i z;rw [z,ea];rfl
   ·rfl
  rw [e0]
  exact I.turned (t':=s.toks) (it:=it) (fun b o hb e=>he b o hb e) fo.1 fo.2.1 fo.2.2.2.1 fo.2.2.2.2.1 fo.2.2.2.2.2
 | e :: es,i,kvs,H,s,I,ea,fo,hit,el,hd,he,hl,hR=>by
  obtain ⟨its,rl,pl,_⟩:=I.list (.inl (.inl el))
  obtain ⟨e1,e2⟩:=he e Oq
  have hxi:xs[i]? = some (V.ref e.1):=by
   have:=OG (fun l:List V=>l[0]?) hd
   simpa [Q3] using this
  obtain ⟨u,hui,ru⟩:=rl.get hxi
  cases (show u = Value.ref e.1 from ru)
  refine Qf DX.rY ?_
  rw [Qr DX.jC _]
  show wpAny _ A.in1 (pyNext (.ref it) >>= _) _ _ s
  refine Oh (wpAny_pyNext_list_item hit pl.isList (x:=.ref e.1) (by simpa using hui) fun h' hit' hs=>?_)
  have I1:Inv X pins σ H { s with heap:=h' }:=I.turned (t':=s.toks) (it:=it) (fun b o hb e=>hs.extBut b o hb e) fo.1 fo.2.1 fo.2.2.2.1 fo.2.2.2.2.1 fo.2.2.2.2.2
  have P1:=I1.pinned (fp:=[it]) (fun b hb=>by rw [Ot.mp hb];exact fo) (fun b hb=>by
   rw [Ot.mp hb]
   obtain ⟨o,ho,_,hd⟩:=hit'
   exact ⟨o,ho,fun v z=>by rw [hd] at z;cases z⟩)
  obtain ⟨its2,rl2,pl2,_⟩:=I1.tuple (.inl (.inl e1))
  obtain ⟨u1,u2,e3,r1,r2⟩:=Vals.two rl2
  subst e3
  cases (show u1 = Value.ref e.2.1 from r1)
  have body:wpAny (model X.prog X.w) A.in1 (dictSet a (.ref e.2.1) u2) (fun _ s'=>Inv X (pins ++ o4 [it] h') σ (upd H a (.dT (im kvs e.2.2.1 e.2.2.2))) s') (fun e s'=>R (.error e) s') { s with heap:=h' }:=
   GV hu P1 ea e2 (by rw [Ow] at hl;lia) r2 fun s' I'=>I'
  refine Oh (O8 (Oh ?_))
  refine wpAny_tryCatch (m:=Builtin.Dict.pairItems (.ref e.1)) ?_
  obtain ⟨ot,hot,hct,nt,hdt⟩:=pl2
  unfold Builtin.Dict.pairItems
  refine Oh (PN (T := "tuple") ⟨ot,hot,hct⟩ ?_)
  rw [Oj (by decide)]
  refine Oh (wpAny_seqItems hot hdt (Om ?_))
  show wpAny _ A.in1 (holding [.ref e.2.1,u2] (dictSet a (.ref e.2.1) u2)) _ _ _
  refine O8 (PD body (fun _ s' I'=>?_) fun _ _ z=>z)
  have na:it ≠ a:=fun z=>by have f0:=fo.1;rw [z,ea] at f0;cases f0
  have nl:l ≠ a:=vz el ea (fun z=>nomatch z)
  refine Om ⟨Qs DX.jC _,?_⟩
  show codeAny (model X.prog X.w) A (.builtin "dict.update.loop" ⟨[.ref a,.ref it,rawInt ((i + 1:Nat):Int),.none],[]⟩) R s'
  have tn:∀ c ys,H c = some (.tup ys) -> upd H a (.dT (im kvs e.2.2.1 e.2.2.2)) c = some (.tup ys):=fun c ys z=>by rw [aB (vz z ea (fun z=>nomatch z))];exact z
  refine zM hu hh es (i + 1) (im kvs e.2.2.1 e.2.2.2) _ s' I'.unpinned aD ⟨by rw [aB na];exact fo.1,fo.2⟩ ?_ (by rw [aB nl];exact el) ?_ (fun e' h'=>?_) ?_ fun s2 I2=>hR s2 ?_
  ·obtain ⟨o,ho,hc2,hd2⟩:=hit'
   exact ⟨o,(I'.pin (it,o) (OB _ (OB _ (gA (Ot.mpr rfl) ho)))).1,hc2,hd2⟩
  ·have:=OG List.tail hd
   rw [List.tail_drop] at this
   exact this
  ·obtain ⟨z1,z2⟩:=he e' (Ou _ h')
   exact ⟨tn _ _ z1,tn _ _ z2⟩
  ·have:=gZ kvs e.2.2.1 e.2.2.2
   rw [Ow] at hl
   lia
  ·rw [Cp] at I2
   exact I2
end
theorem un1 {A:Around} (h:A.units + 64 < cLine):A.units + 1 < cLine:=Pf (Nat.add_le_add_left (by decide) _) h
theorem Cg {P:Program} {w:World} {A:Around} (h:A.units + 64 < cLine):(tupleKind (bp P w)).room A.in1:=Q9 (un1 h)
end L2
namespace M
open PySem L2
section
variable {K:W.Frag} {S S' H H':Hp}
theorem Gj {l:List D} {v:V} (h:Den K S (.tup l) v):∃ p xs,v = .ref p /\ S p = some (.tup xs) /\ Dens K S l xs:=by
 obtain ⟨p,xs,e,h1,h2⟩:=den_tup.mp h
 exact ⟨p,xs,e,h1,h2⟩
noncomputable def kyD:D -> Option (List Int)
 | .tup l=>aK l
 | _=>none
noncomputable abbrev kI (k:List Int):List Key:=k.map Sum.inl
theorem KI (k:List Int):(kI k).map kV = k.map V.int:=by rw [OM];rfl
theorem AB {a b:List Int} (h:kI a = kI b):a = b:=by
 induction a generalizing b with
 | nil=>cases b with
  | nil=>rfl
  | cons _ _=>cases h
 | cons x a ih=>cases b with
  | nil=>cases h
  | cons y b=>
   injection h with h1 h2
   injection h1 with h1
   rw [h1,ih h2]
theorem sv {d:D} {k:List Int} {v:V} (h:Den K S d v) (e:kyD d = some k):∃ p,v = .ref p /\ S p = some (.tup ((kI k).map kV)):=by
 cases d <;> try (cases e;done)
 obtain ⟨p,xs,rfl,h1,h2⟩:=Gj h
 obtain ⟨rfl,_⟩:=eN h2 e
 exact ⟨p,rfl,by rw [KI];exact h1⟩
theorem nS (q:List Int):∀ ks:List (List Int),(jJ (br ks) (kI q)).isSome = ks.contains q
 | []=>rfl
 | k :: ks=>by
  have ih:=nS q ks
  by_cases h:k = q
  ·subst h
   show (jJ ((kI k,V.bl true) :: br ks) (kI k)).isSome = _
   rw [kP rfl]
   simp
  ·show (jJ ((kI k,V.bl true) :: br ks) (kI q)).isSome = _
   rw [kO (fun z=>h (AB z)),ih]
   rw [List.contains_cons]
   have:(q == k) = false:=by simpa using fun z=>h z.symm
   rw [this,Bool.false_or]
noncomputable def pR (ks:List (List Int)) (q:List Int):List (List Int):=if ks.contains q then ks else ks ++ [q]
theorem El (a b:List (List Int)):br (a ++ b) = br a ++ br b:=by unfold br;rw [QO]
theorem Cc (ks:List (List Int)) (q:List Int):im (br ks) (kI q) (.bl true) = br (pR ks q):=by
 unfold pR
 cases h:ks.contains q with
 | false=>
  have hv:jJ (br ks) (kI q) = none:=by
   have:=nS q ks
   rw [h] at this
   cases z:jJ (br ks) (kI q) with
   | none=>rfl
   | some _=>rw [z] at this;cases this
  rw [Fw _ hv,Oi (by decide),El]
  rfl
 | true=>
  rw [Oj rfl]
  have ha:((br ks).any fun kv=>decide (kv.1 = kI q)) = true:=by rw [nR,nS,h]
  unfold im
  rw [Oj ha]
  unfold br
  rw [OM]
  refine RE fun k _=>?_
  show (if kI k = kI q then (kI k,V.bl true) else (kI k,V.bl true)) = _
  split <;> rfl
theorem tp:∀ (qs ks:List (List Int)),kK (br ks) (qs.map fun q=>(kI q,V.bl true)) = br (qs.foldl pR ks)
 | [],ks=>rfl
 | q :: qs,ks=>by
  show kK (im (br ks) (kI q) (.bl true)) (qs.map fun q=>(kI q,V.bl true)) = _
  rw [Cc,tp qs]
  rfl
theorem rR (ks:List (List Int)):(br ks).length = ks.length:=Os _
@[simp] noncomputable def Nj (k:XE):Env -> Option O:=fun ρ=>(k ρ).bind fun d=>(kyD d).map fun q=>.dic [q]
@[simp] noncomputable def Gv:Env -> Option O:=fun _=>some (.dic [])
theorem JT:STr K Gc Gv:=fun ρ σ S H Q o r x c=>by
 cases x
 intro p hp
 exact c (.ref p) [p] S _ (Ext.own r.sub hp) (own_dic.mpr ⟨p,rfl,rfl,aD⟩) (OL.mpr ⟨by simp,Ra⟩) fun c' hc=>by rw [Ot.mp hc];exact ⟨hp,r.sub.free hp⟩
noncomputable def fv (ρ:Env) (i:Nat):Option (List (List Int)):=match ρ[i]? with
 | some (.ow (.dic ks))=>some ks
 | some (.sh (.dic ks))=>some ks
 | some (.sh (.dif ks))=>some ks
 | some (.ow (.hd _ ks []))=>some ks
 | _=>none
theorem An {ρ:Env} {σ:St} {i:Nat} {ks:List (List Int)} (r:Rl K ρ σ S H) (h:fv ρ i = some ks):∃ a,σ[i]? = some (some (.ref a)) /\ Rd H a (.dT (br ks)):=by
 unfold fv at h
 split at h
 ·rename_i ks' q
  cases h
  obtain ⟨v,fp,e,ow,_⟩:=r.ow i _ q
  obtain ⟨a,rfl,_,ha⟩:=own_dic.mp ow
  exact ⟨a,e,.inl ha⟩
 ·rename_i ks' q
  cases h
  obtain ⟨v,e,dv⟩:=r.sh i _ q
  obtain ⟨a,rfl,ha⟩:=den_dic.mp dv
  exact ⟨a,e,cN r.sub ha⟩
 ·rename_i ks' q
  cases h
  obtain ⟨v,e,dv⟩:=r.sh i _ q
  obtain ⟨a,o,rfl,ha⟩:=den_dif.mp dv
  exact ⟨a,e,.inr ⟨o,r.sub _ _ ha⟩⟩
 ·rename_i p ks' q
  cases h
  obtain ⟨v,fp,e,ow,_⟩:=r.ow i _ q
  obtain ⟨xs,f,rfl,_,ha,ho⟩:=own_hd.mp ow
  rw [ho.nil_of.1] at e
  exact ⟨p,e,.inl ha⟩
 ·cases h
@[simp] noncomputable def lB (neg:Bool) (k:XE) (i:Nat):XE:=fun ρ=>(k ρ).bind fun d=>(kyD d).bind fun q=>(fv ρ i).map fun ks=>.bl (if neg then !(ks.contains q) else ks.contains q)
theorem zo {tk:TE} {k:XE} {i:Nat} (h:SE K tk k):SE K (Cm tk (jI i)) (lB true k i):=fun ρ σ S H Q g r x c=>by
 unfold lB at x
 cases qk:k ρ with
 | none=>rw [qk] at x;cases x
 | some d=>
  rw [qk] at x
  dsimp only [Option.bind] at x
  cases qd:kyD d with
  | none=>rw [qd] at x;cases x
  | some q=>
   rw [qd] at x
   dsimp only at x
   cases qi:fv ρ i with
   | none=>rw [qi] at x;cases x
   | some ks=>
    rw [qi] at x
    cases x
    refine h ρ σ S H _ d r qk fun v S1 H1 z1 d1=>?_
    obtain ⟨b,rfl,hb⟩:=sv d1 qd
    obtain ⟨a,e1,ha⟩:=An (r.ext z1) qi
    refine ⟨.ref a,e1,a,_,rfl,.inr ⟨_,kI q,b,ha,rfl,z1.sub b _ hb,rfl⟩,c _ S1 H1 z1 ?_⟩
    rw [nS]
    exact den_bl.mpr rfl
theorem IC {tk:TE} {k:XE} {i:Nat} (h:SE K tk k):SE K (Lp tk (jI i)) (lB false k i):=fun ρ σ S H Q g r x c=>by
 unfold lB at x
 cases qk:k ρ with
 | none=>rw [qk] at x;cases x
 | some d=>
  rw [qk] at x
  dsimp only [Option.bind] at x
  cases qd:kyD d with
  | none=>rw [qd] at x;cases x
  | some q=>
   rw [qd] at x
   dsimp only at x
   cases qi:fv ρ i with
   | none=>rw [qi] at x;cases x
   | some ks=>
    rw [qi] at x
    cases x
    refine h ρ σ S H _ d r qk fun v S1 H1 z1 d1=>?_
    obtain ⟨b,rfl,hb⟩:=sv d1 qd
    obtain ⟨a,e1,ha⟩:=An (r.ext z1) qi
    refine ⟨.ref a,e1,a,_,rfl,.inr ⟨_,kI q,b,ha,rfl,z1.sub b _ hb,rfl⟩,c _ S1 H1 z1 ?_⟩
    rw [nS]
    exact den_bl.mpr rfl
theorem RlF.dic {A:Hp} {Λ:Nat -> Option Addr} {Φ:Nat -> List Addr} {ρ:Env} {σ:St} {i:Nat} {ks:List (List Int)} (f:RlF K A Λ Φ ρ σ S H) (h:ρ[i]? = some (.ow (.dic ks))) :
  ∃ a,σ[i]? = some (some (.ref a)) /\ H a = some (.dT (br ks)) /\ ∀ ks',RlA K A Λ (ρ.set i (.ow (.dic ks'))) σ S (upd H a (.dT (br ks'))):=by
 obtain ⟨v,ev,ow,nd,n⟩:=f.ow i _ h
 obtain ⟨a,rfl,hfp,ha⟩:=own_dic.mp ow
 have ain:a ∈ Φ i:=by rw [hfp];exact Oq
 refine ⟨a,ev,ha,fun ks'=>?_⟩
 have ne:∀ b,b ≠ a -> upd H a (.dT (br ks')) b = H b:=fun b hb=>aB hb
 have sub':Same S (upd H a (.dT (br ks'))):=fun b u e=>by rw [ne b fun z=>by subst z;rw [(n b ain).1] at e;cases e];exact f.sub b u e
 have asub':Same A (upd H a (.dT (br ks'))):=fun b u e=>by rw [ne b fun z=>by subst z;rw [(n b ain).2] at e;cases e];exact f.asub b u e
 have fin:=f.put (H':=upd H a (.dT (br ks'))) i sub' asub' (own_dic.mpr ⟨a,rfl,rfl,aD⟩) (OL.mpr ⟨by simp,Ra⟩) (fun b hb=>by rw [Ot.mp hb];exact n a ain) fun j o' hj e1 b hb=>by
  have nb:b ∉ Φ i:=fun z=>f.dj j i o' _ hj e1 h b hb z
  exact ⟨ne b fun z=>nb (z ▸ ain),fun z=>nb (by rw [Ot.mp z];exact ain)⟩
 rw [tI ev] at fin
 exact ⟨_,fin⟩
@[simp] noncomputable def GB (i:Nat) (k:XE):XS:=fun ρ=>match ρ[i]? with
 | some (.ow (.dic ks))=>(k ρ).bind fun d=>(kyD d).bind fun q=>if ks.length < LIM then some (.nx (ρ.set i (.ow (.dic (pR ks q))))) else none
 | _=>none
theorem JW {tk:TE} {k:XE} {i:Nat} (h:SE K tk k):SS K (IB (jI i) tk (tC (.bl true))) (GB i k):=fun A Λ ρ σ S H E o r x c=>by
 unfold GB at x
 split at x <;> try (cases x;done)
 rename_i ks q0
 cases qk:k ρ with
 | none=>rw [qk] at x;cases x
 | some d=>
  rw [qk] at x
  dsimp only [Option.bind] at x
  cases qd:kyD d with
  | none=>rw [qd] at x;cases x
  | some q=>
   rw [qd] at x
   dsimp only at x
   split at x <;> try (cases x;done)
   rename_i hl
   cases x
   obtain ⟨Φ,f⟩:=r
   obtain ⟨a,ev,_,_⟩:=f.dic q0
   refine ⟨.ref a,ev,h ρ σ S H _ d ⟨A,Λ,Φ,f⟩ qk fun v S1 H1 z1 d1=>?_⟩
   obtain ⟨b,rfl,hb⟩:=sv d1 qd
   obtain ⟨a',ev',ha,up⟩:=(f.ext z1).dic q0
   rw [ev] at ev'
   cases ev'
   refine ⟨a,_,rfl,.inr ⟨_,kI q,b,ha,rfl,z1.sub b _ hb,?_,rfl⟩,?_⟩
   ·rw [rR];exact Q6 hl eR
   ·rw [Cc]
    exact c σ S1 _ (up _) z1.sh
noncomputable def kF:List D -> Option (List (List Int))
 | []=>some []
 | .tup [d,.bl true] :: l=>(kyD d).bind fun q=>(kF l).map fun qs=>q :: qs
 | _=>none
theorem yX {S H:Hp} (s:Same S H):∀ {l:List D} {xs:List V} {qs:List (List Int)},Dens K S l xs -> kF l = some qs ->
  ∃ es:List (Addr × Addr × List Key × V),xs = es.map (fun e=>V.ref e.1) /\ (∀ e ∈ es,H e.1 = some (.tup [.ref e.2.1,e.2.2.2]) /\ H e.2.1 = some (.tup (e.2.2.1.map kV))) /\ es.map (fun e=>(e.2.2.1,e.2.2.2)) = qs.map fun q=>(kI q,V.bl true)
 | [],xs,qs,h,e=>by
  cases e
  exact ⟨[],h.nil_of,(fun e he=>by cases he),rfl⟩
 | d :: l,xs,qs,h,e=>by
  obtain ⟨y,ys,rfl,h1,h2⟩:=h.cons_of
  unfold kF at e
  split at e <;> try (cases e;done)
  ·rename_i hh;cases hh
  ·rename_i d0 l0 hh
   injection hh with hh1 hh2
   subst hh1 hh2
   cases qd:kyD d0 with
   | none=>rw [qd] at e;cases e
   | some q=>
    rw [qd] at e
    dsimp only [Option.bind] at e
    cases ql:kF l with
    | none=>rw [ql] at e;cases e
    | some qs'=>
     rw [ql] at e
     cases e
     obtain ⟨es,e1,e2,e3⟩:=yX s h2 ql
     obtain ⟨t,zs,rfl,ht,hz⟩:=Gj h1
     obtain ⟨y1,r1,rfl,k1,hz⟩:=hz.cons_of
     obtain ⟨y2,r2,rfl,k2,hz⟩:=hz.cons_of
     have:=hz.nil_of
     subst this
     obtain ⟨b,rfl,hb⟩:=sv k1 qd
     have:=den_bl.mp k2
     subst this
     refine ⟨(t,b,kI q,.bl true) :: es,by rw [e1];rfl,fun e he=>?_,by rw [Ox,e3];rfl⟩
     rcases Oy.mp he with rfl | he
     ·exact ⟨s t _ ht,s b _ hb⟩
     ·exact e2 e he
@[simp] noncomputable def ND (i:Nat) (e:XA):XS:=fun ρ=>match ρ[i]? with
 | some (.ow (.dic ks))=>(e ρ).bind fun l=>(kF l).bind fun qs=>if ks.length + l.length < LIM then some (.nx (ρ.set i (.ow (.dic (qs.foldl pR ks))))) else none
 | _=>none
theorem JY {t:TE} {e:XE} (h:SE K t e):ST K (tB t) (xB e):=fun ρ σ S H Q b r x c=>by
 unfold xB at x
 cases q:e ρ with
 | none=>rw [q] at x;cases x
 | some d=>
  rw [q] at x
  cases d <;> try (cases x;done)
  cases x
  refine h ρ σ S H _ _ r q fun v S1 H1 z1 d1=>?_
  exact ⟨_,den_bl.mp d1,c S1 H1 z1⟩
end
end M
namespace L2
open PySem PySem.Spec PyProof.Rows M
section
variable {X:Cx}
end
end L2
namespace M
open PySem L2
section
variable {K:W.Frag}
end
end M
namespace L2
open PySem PySem.Spec PyProof.Rows
section
variable {X:Cx} {tg:Expr}
end
end L2
namespace M
open PySem L2
section
variable {K:W.Frag} {S H:Hp}
noncomputable def Ka (a c:Int) (n:Nat):List D:=(List.range n).map fun i:Nat=>D.int (a + (i:Int) * c)
noncomputable def Ld:List D -> Option (List D)
 | [.int a,.int j,.int c]=>ifC (c ≠ 0 /\ (-1000000 < c /\ c < 1000000) /\ Builtin.Range.small a j c = true) (some (Ka a c (Builtin.Range.rangeSize a j c).toNat)) none
 | _=>none
@[simp] noncomputable def NB (a:XA):XA:=fun ρ=>(a ρ).bind Ld
end
end M
namespace L2
open PySem PySem.Spec PyProof.Rows
section
variable {X:Cx}
end
end L2
namespace M
open PySem L2
section
variable {K:W.Frag}
noncomputable def KJ:D -> Option (List D)
 | .int j=>ifC (0 <= j /\ j < 1000000) (some ((List.range j.toNat).map fun i:Nat=>D.int (i:Int))) none
 | _=>none
@[simp] noncomputable def MP (a:XE):XA:=fun ρ=>(a ρ).bind KJ
end
end M
namespace L2
open PySem PySem.Spec PyProof.Rows
section
variable {X:Cx} {pins:List (Addr × Obj)} {σ:List (Option V)} {H H':Hp} {s:Shared} {h':Heap}
end
section
variable {X:Cx}
end
end L2
namespace M
open PySem L2
section
variable {K:W.Frag} {S S' H H':Hp}
noncomputable def enL (k:Nat):List D -> List D
 | []=>[]
 | d :: l=>.tup [.int (k:Int),d] :: enL (k + 1) l
@[simp] noncomputable def N0 (a:XE):XA:=fun ρ=>(a ρ).bind fun d=>match d with | .lst l=>some (enL 0 l) | _=>none
end
end M
namespace L2
open PySem PySem.Spec PyProof.Rows M
section
variable {X:Cx}
end
end L2
namespace M
open PySem L2
section
variable {K:W.Frag}
end
section
variable {K:W.Frag} {S S' H H':Hp}
@[simp] noncomputable def N9 (i:Nat) (p:XP):XA:=fun ρ=>match ρ[i]? with
 | some (.ow o)=>(p ρ).bind fun is=>match dD o is with | some (.lst l)=>shs l | _=>none
 | _=>none
end
end M
namespace TL
open PySem PyProof.Rows
section
variable {prog:Program} {w:World} {A:Around} {E:Value -> Shared -> Prop} {s:Shared}
end
end TL
namespace L2
open PySem PySem.Spec PyProof.Rows
section
variable {X:Cx}
end
end L2
namespace M
open PySem L2
section
variable {K:W.Frag}
end
end M
namespace L2
open PySem PySem.Spec PyProof.Rows
section
variable {X:Cx}
end
end L2
namespace M
open PySem L2
section
variable {K:W.Frag}
end
end M
namespace TL
open PySem PyProof.Rows
section
variable {prog:Program} {w:World} {A:Around} {R:Result -> Shared -> Prop} {I:Addr} {fp wr:List Addr} {n:Nat} {P:Nat -> Value -> Prop} {St:Nat -> Heap -> Prop} {h0:Heap}
end
section
variable {prog:Program} {w:World} {A:Around} {E:Value -> Shared -> Prop} {s:Shared}
end
end TL
namespace L2
open PySem PySem.Spec PyProof.Rows
section
variable {X:Cx}
end
end L2
namespace M
open PySem L2
section
variable {K:W.Frag}
end
section
variable {K:W.Frag} {S S' H H':Hp}
end
section
variable {K:W.Frag}
@[simp] noncomputable def MO (f g:D -> D -> Option D) (a b c:XE):XE:=fun ρ=>(a ρ).bind fun x=>(b ρ).bind fun y=>(f x y).bind fun z=>match z with
 | .bl true=>(c ρ).bind fun w=>g y w
 | .bl false=>some (.bl false)
 | _=>none
end
end M
namespace ST
open PySem PySem.SetTable
noncomputable def it (m:Nat):Nat -> Nat -> Nat
 | 0,i=>i
 | n + 1,i=>it m n ((i * 5 + 1) % (m + 1))
theorem wN (m:Nat):∀ a b i,it m (a + b) i = it m b (it m a i)
 | 0,b,i=>by rw [Qb];rfl
 | a + 1,b,i=>by rw [Nat.add_right_comm];exact wN m a b _
noncomputable def orb (m:Nat):Nat -> Nat -> List Nat
 | 0,_=>[]
 | n + 1,i=>i :: orb m n ((i * 5 + 1) % (m + 1))
theorem B2 {m:Nat}:∀ {n i j:Nat},j ∈ orb m n i -> ∃ k,k < n /\ it m k i = j
 | 0,_,_,h=>by cases h
 | n + 1,i,j,h=>by
  rcases Oy.mp h with rfl | h
  ·exact ⟨0,QI _,rfl⟩
  ·obtain ⟨k,hk,e⟩:=B2 h
   exact ⟨k + 1,Nat.succ_lt_succ hk,e⟩
def Full (m:Nat):Prop:=it m (m + 1) 0 = 0 /\ ((List.range (m + 1)).all fun j=>(orb m (m + 1) 0).contains j) = true
noncomputable instance (m:Nat):Decidable (Full m):=by unfold Full;infer_instance
theorem KC:Full 7:=by decide +kernel
theorem Jl:Full 31:=by decide +kernel
theorem G2:Full 127:=by decide +kernel
theorem G3:Full 511:=by decide +kernel
theorem Full.reach {m:Nat} (f:Full m) {i j:Nat} (hi:i <= m) (hj:j <= m):∃ k,k <= m /\ it m k i = j:=by
 have h:∀ x,x <= m -> ∃ k,k <= m /\ it m k 0 = x:=fun x hx=>by
  have:=List.all_eq_true.mp f.2 x (PM.mpr (by lia))
  obtain ⟨k,hk,e⟩:=B2 (R6.mp this)
  exact ⟨k,by lia,e⟩
 obtain ⟨a,ha,rfl⟩:=h i hi
 obtain ⟨b,hb,rfl⟩:=h j hj
 by_cases hab:a <= b
 ·exact ⟨b - a,by lia,by rw [<- wN];congr 1;lia⟩
 ·refine ⟨m + 1 + b - a,by lia,?_⟩
  rw [<- wN,show a + (m + 1 + b - a) = (m + 1) + b by lia,wN,f.1]
noncomputable def blk (m:Nat):Nat -> Nat × Nat -> Nat × Nat
 | 0,x=>x
 | n + 1,x=>blk m n (leap m x.1 x.2)
theorem BC (m:Nat):∀ a b x,blk m (a + b) x = blk m b (blk m a x)
 | 0,b,x=>by rw [Qb];rfl
 | a + 1,b,x=>by rw [Nat.add_right_comm];exact BC m a b _
theorem xO (m:Nat):∀ n i,blk m n (i,0) = (it m n i,0)
 | 0,i=>rfl
 | n + 1,i=>by
  show blk m n ((i * 5 + 1 + 0 / 32) % (m + 1),0 / 32) = _
  exact xO m n _
theorem BE (m:Nat):∀ n x,(blk m n x).2 = x.2 / 32 ^ n
 | 0,x=>by rw [Nat.pow_zero,Nat.div_one];rfl
 | n + 1,x=>by
  show (blk m n (leap m x.1 x.2)).2 = _
  rw [BE m n]
  show x.2 / 32 / 32 ^ n = _
  rw [Nat.div_div_eq_div_mul,Nat.pow_succ,Nat.mul_comm]
theorem BD (m:Nat):∀ n x,x.1 <= m -> (blk m n x).1 <= m
 | 0,x,h=>h
 | n + 1,x,h=>BD m n _ (Nat.le_of_lt_succ (Nat.mod_lt _ (QI m)))
theorem uS {m:Nat} (f:Full m) (x:Nat × Nat) (h1:x.1 <= m) (h2:x.2 < 2 ^ 64) {j:Nat} (hj:j <= m):∃ n,n <= m + 13 /\ (blk m n x).1 = j:=by
 have e:(blk m 13 x).2 = 0:=by
  rw [BE]
  exact Nat.div_eq_of_lt (OT h2 (by decide))
 obtain ⟨k,hk,ek⟩:=f.reach (BD m 13 x h1) hj
 refine ⟨13 + k,by lia,?_⟩
 have e2:blk m 13 x = ((blk m 13 x).1,0):=Prod.ext rfl e
 rw [BC,e2,xO]
 exact ek
noncomputable def adv (t:SetTable):Nat -> Probe -> Probe
 | 0,p=>p
 | n + 1,p=>adv t n (t.advance p)
theorem Bw (t:SetTable):∀ a b p,adv t (a + b) p = adv t b (adv t a p)
 | 0,b,p=>by rw [Qb];rfl
 | a + 1,b,p=>by rw [Nat.add_right_comm];exact Bw t a b _
noncomputable def stt (m:Nat) (x:Nat × Nat) (d:Option Nat):Probe:={ j:=x.1,more:=runEnd m x.1 - x.1,i:=x.1,perturb:=x.2,dummy:=d }
theorem Bz (t:SetTable):∀ (r:Nat) (p:Probe),p.more = r -> adv t (r + 1) p = stt t.mask (leap t.mask p.i p.perturb) p.dummy
 | 0,p,h=>by
  show t.advance p = _
  unfold advance
  rw [Oi (by lia)]
  rfl
 | r + 1,p,h=>by
  show adv t (r + 1) (t.advance p) = _
  have e:t.advance p = { p with j:=p.j + 1,more:=p.more - 1 }:=by
   unfold advance
   rw [Oj (by lia)]
  rw [e]
  exact Bz t r _ (by show p.more - 1 = r;lia)
theorem Ga (m:Nat) (x:Nat × Nat) (d:Option Nat):(stt m x d).more <= 9:=by
 show runEnd m x.1 - x.1 <= 9
 unfold runEnd
 split <;> lia
theorem Bx (t:SetTable) (d:Option Nat):∀ n x,∃ k,k <= 10 * n /\ adv t k (stt t.mask x d) = stt t.mask (blk t.mask n x) d
 | 0,x=>⟨0,Op _,rfl⟩
 | n + 1,x=>by
  obtain ⟨k,hk,e⟩:=Bx t d n (leap t.mask x.1 x.2)
  have h:=Ga t.mask x d
  refine ⟨(stt t.mask x d).more + 1 + k,by lia,?_⟩
  rw [Bw,Bz t _ _ rfl]
  exact e
theorem zg {t:SetTable} (f:Full t.mask) (h:Int) {j:Nat} (hj:j <= t.mask):∃ k,k < 10 * turns t.mask /\ (adv t k (t.probeStart h)).j = j:=by
 have hb:bits h < 2 ^ 64:=by
  unfold bits
  have h1:=Int.emod_nonneg h (b:=(2 ^ 64:Int)) (by decide)
  have h2:=Int.emod_lt_of_pos h (b:=(2 ^ 64:Int)) (by decide)
  lia
 obtain ⟨n,hn,e⟩:=uS f (bits h % (t.mask + 1),bits h) (Nat.le_of_lt_succ (Nat.mod_lt _ (QI _))) hb hj
 obtain ⟨k,hk,e2⟩:=Bx t none n (bits h % (t.mask + 1),bits h)
 refine ⟨k,by unfold turns;lia,?_⟩
 show (adv t k (stt t.mask (bits h % (t.mask + 1),bits h) none)).j = j
 rw [e2]
 exact e
theorem E5 {t:SetTable} (hd:t.dummies = #[]) (j:Nat):t.slot j ≠ .dummy:=by
 unfold slot
 dsimp only
 split
 ·exact fun z=>by cases z
 ·rw [Oi (by rw [hd];unfold has;simp)]
  exact fun z=>by cases z
theorem BO {t:SetTable} (hd:t.dummies = #[]) (hashAt:Nat -> Int) (h:Int):∀ (fuel k:Nat) (p:Probe),k < fuel -> t.slot (adv t k p).j = .empty ->
  (∃ a,a <= k /\ t.slot (adv t a p).j = .empty /\ probe.go t hashAt h fuel p = some (.empty (adv t a p).j p.dummy)) \/
  (∃ a i,a < k /\ t.slot (adv t a p).j = .live i /\ hashAt i = h /\ probe.go t hashAt h fuel p = some (.candidate (adv t a p).j i (adv t (a + 1) p)))
 | 0,_,_,hk,_=>by lia
 | fuel + 1,k,p,hk,he=>by
  unfold probe.go
  cases q:t.slot p.j with
  | empty=>exact .inl ⟨0,O9 _,q,rfl⟩
  | dummy=>exact absurd q (E5 hd _)
  | live i=>
   cases k with
   | zero=>
    have:t.slot p.j = .empty:=he
    rw [q] at this
    cases this
   | succ k=>
    by_cases hh:hashAt i = h
    ·refine .inr ⟨0,i,QI _,q,hh,?_⟩
     have:(hashAt i == h) = true:=by simpa using hh
     show (if (hashAt i == h) = true then _ else _) = _
     rw [Oj this]
     rfl
    ·have:¬ (hashAt i == h) = true:=by simpa using hh
     have e:(if (hashAt i == h) = true then some (Met.candidate p.j i (t.advance p)) else probe.go t hashAt h fuel (t.advance p)) = probe.go t hashAt h fuel (t.advance p):=Oi this
     have hdm:(t.advance p).dummy = p.dummy:=by unfold advance;split <;> rfl
     rcases BO hd hashAt h fuel k (t.advance p) (by lia) he with ⟨a,h1,h2,h3⟩ | ⟨a,i',h1,h2,h3,h4⟩
     ·refine .inl ⟨a + 1,by lia,h2,?_⟩
      show (if (hashAt i == h) = true then _ else _) = _
      rw [e,h3,hdm]
      rfl
     ·refine .inr ⟨a + 1,i',by lia,h2,h3,?_⟩
      show (if (hashAt i == h) = true then _ else _) = _
      rw [e,h4]
      rfl
theorem ve {m:Nat} {owner:Array (Option Nat)} {j0:Nat} (h0:owner.getD j0 (some 0) = none):∀ (fuel n:Nat) (x:Nat × Nat),n < fuel -> (blk m n x).1 = j0 -> ∃ j,layClean.free m owner fuel x.1 x.2 = some j /\ owner.getD j (some 0) = none
 | 0,_,_,h,_=>by lia
 | fuel + 1,n,x,h,e=>by
  unfold layClean.free
  cases q:(List.range (runEnd m x.1 + 1 - x.1)).find? fun k=>(owner.getD (x.1 + k) (some 0)).isNone with
  | some k=>
   have:=List.find?_some q
   exact ⟨x.1 + k,rfl,Option.isNone_iff_eq_none.mp this⟩
  | none=>
   cases n with
   | zero=>
    have hx:x.1 = j0:=e
    have hr:x.1 <= runEnd m x.1:=by unfold runEnd;split <;> lia
    have:=List.find?_eq_none.mp q 0 (PM.mpr (by lia))
    rw [Nat.add_zero,hx,h0] at this
    exact absurd rfl this
   | succ n=>exact ve h0 fuel n (leap m x.1 x.2) (by lia) e
noncomputable def liv (m:Nat) (owner:Array (Option Nat)):List (Nat × Nat):=(List.range (m + 1)).filterMap fun j=>(owner.getD j none).map (j,·)
theorem GM (h:Int):bits h < 2 ^ 64:=by
 unfold bits
 have h1:=Int.emod_nonneg h (b:=(2 ^ 64:Int)) (by decide)
 have h2:=Int.emod_lt_of_pos h (b:=(2 ^ 64:Int)) (by decide)
 lia
theorem yh {α β:Type} {f g:α -> Option β}:∀ {l:List α},(∀ x ∈ l,f x = g x) -> l.filterMap f = l.filterMap g
 | [],_=>rfl
 | a :: l,h=>by rw [OW,OW,h a Oq,yh fun x hx=>h x (Ou _ hx)]
theorem yJ:∀ {l m:List Nat},l.Nodup -> (∀ a ∈ l,a ∈ m) -> l.length <= m.length
 | [],m,_,_=>O9 _
 | a :: l,m,h,k=>by
  obtain ⟨h1,h2⟩:=OL.mp h
  have ha:=k a Oq
  have ih:=yJ (m:=m.erase a) h2 fun b hb=>(R7 (fun e=>h1 (by rw [<- e];exact hb))).mpr (k b (Ou _ hb))
  rw [R8 ha] at ih
  have:=List.length_pos_of_mem ha
  rw [Ow]
  lia
theorem Ey {α β:Type} (f g:α -> Option β):∀ (l:List α) (j:α),l.Nodup -> j ∈ l -> f j = none -> (g j).isSome = true -> (∀ i ∈ l,i ≠ j -> g i = f i) -> (l.filterMap g).length = (l.filterMap f).length + 1
 | [],_,_,h,_,_,_=>by cases h
 | i :: l,j,nd,h,hf,hg,hs=>by
  obtain ⟨n1,n2⟩:=OL.mp nd
  by_cases e:i = j
  ·subst e
   obtain ⟨b,hb⟩:=Rs.mp hg
   have:l.filterMap g = l.filterMap f:=yh fun x hx=>hs x (Ou _ hx) fun z=>n1 (z ▸ hx)
   rw [OW,OW,hf,hb,this]
   rfl
  ·have hj:j ∈ l:=(Oy.mp h).resolve_left (OQ e)
   have ih:=Ey f g l j n2 hj hf hg fun x hx=>hs x (Ou _ hx)
   rw [OW,OW,hs i Oq e]
   cases f i with
   | none=>exact ih
   | some b=>rw [Ow,Ow,ih]
structure LOk (m k:Nat) (owner:Array (Option Nat)):Prop where
 size:owner.size = m + 1
 len:(liv m owner).length = k
 lt:∀ (j v:Nat),owner.getD j none = some v -> v < k
theorem LOk.empty {m k:Nat} {owner:Array (Option Nat)} (o:LOk m k owner) (hk:k <= m):∃ j,j <= m /\ owner.getD j (some 0) = none:=by
 apply Rc
 intro hn
 have all:∀ j ∈ List.range (m + 1),((owner.getD j none).map (j,·)).isSome = true:=fun j hj=>by
  have hj':=PM.mp hj
  cases q:owner.getD j none with
  | some v=>rfl
  | none=>
   have hs:=o.size
   refine absurd ⟨j,by lia,?_⟩ hn
   simp [Array.getD,hs,hj'] at q ⊢
   exact q
 have:(liv m owner).length = m + 1:=by
  unfold liv
  have key:∀ l:List Nat,(∀ j ∈ l,((owner.getD j none).map (j,·)).isSome = true) -> (l.filterMap fun j=>(owner.getD j none).map (j,·)).length = l.length:=by
   intro l
   induction l with
   | nil=>intro _;rfl
   | cons a l ih=>
    intro h
    obtain ⟨b,hb⟩:=Rs.mp (h a Oq)
    rw [OW,hb,Ow,Ow,ih fun j hj=>h j (Ou _ hj)]
  rw [key _ all,RF]
 have:=o.len
 lia
theorem LOk.set {m k:Nat} {owner:Array (Option Nat)} (o:LOk m k owner) {j:Nat} (h:owner.getD j (some 0) = none):LOk m (k + 1) (owner.setIfInBounds j (some k)):=by
 have hs:=o.size
 have hj:j < m + 1:=by
  apply Rc
  intro hn
  simp [Array.getD,hs,hn] at h
 have gd:∀ i,(owner.setIfInBounds j (some k)).getD i none = if i = j then some k else owner.getD i none:=fun i=>by
  by_cases e:i = j
  ·subst e
   simp [Array.getD,hs,hj]
  ·rw [Oi e]
   rw [RG,RG,Array.getElem?_setIfInBounds_ne (OQ e)]
 have hj0:owner.getD j none = none:=by
  simp [Array.getD,hs,hj] at h ⊢
  exact h
 refine ⟨by rw [Array.size_setIfInBounds];exact hs,?_,fun i v hv=>?_⟩
 ·unfold liv
  rw [Ey (fun i=>(owner.getD i none).map (i,·)) _ _ j List.nodup_range (PM.mpr hj) (by rw [hj0];rfl) (by rw [gd,Oj rfl];rfl) fun i _ hi=>by rw [gd,Oi hi]]
  have:=o.len
  unfold liv at this
  lia
 ·rw [gd] at hv
  split at hv
  ·cases hv;lia
  ·have:=o.lt i v hv;lia
theorem Bh {t:SetTable} (hd:t.dummies = #[]) (h:t.place.size <= t.mask):∃ j,j <= t.mask /\ t.slot j = .empty:=by
 apply Rc
 intro hn
 have all:∀ j,j <= t.mask -> t.place[below t.place j]? = some j:=fun j hj=>by
  apply Rc
  intro hx
  refine hn ⟨j,hj,?_⟩
  unfold slot
  dsimp only
  rw [Oi (by simpa using hx),Oi (by rw [hd];unfold has;simp)]
 have inj:∀ l:List Nat,l.Nodup -> (∀ j ∈ l,j <= t.mask) -> l.length <= t.place.size:=fun l nd hl=>by
  have h1:(l.map (below t.place)).Nodup:=by
   rw [List.nodup_iff_pairwise_ne] at nd
   rw [List.nodup_iff_pairwise_ne,Pw]
   refine List.Pairwise.imp_of_mem ?_ nd
   intro a b ha hb hab e
   have e1:=all a (hl a ha)
   have e2:=all b (hl b hb)
   rw [e,e2] at e1
   cases e1
   exact hab rfl
  have h2:∀ x ∈ l.map (below t.place),x ∈ List.range t.place.size:=fun x hx=>by
   obtain ⟨j,hj,rfl⟩:=OI.mp hx
   exact PM.mpr (QP.mp (all j (hl j hj))).1
  have:=yJ h1 h2
  simpa using this
 have:=inj (List.range (t.mask + 1)) List.nodup_range fun j hj=>by have:=PM.mp hj;lia
 rw [RF] at this
 lia
theorem dF {α:Type} (xs:Array α) (p:Nat) (x:α):(insertAt xs p x).size = xs.size + 1:=by
 unfold insertAt
 rw [Array.size_append,Array.size_push,Re,Re]
 lia
section
variable {prog:Program} {w:World} {A:Around} {E:Value -> Shared -> Prop} {s:Shared}
end
def Msk (m:Nat):Prop:=m = 7 \/ m = 31 \/ m = 127 \/ m = 511
theorem Msk.full {m:Nat} (h:Msk m):Full m:=by
 rcases h with rfl | rfl | rfl | rfl
 ·exact KC
 ·exact Jl
 ·exact G2
 ·exact G3
structure TOk (n:Nat) (t:SetTable):Prop where
 msk:Msk t.mask
 pl:t.place.size = n
 dm:t.dummies = #[]
theorem TOk.fits {n:Nat} {t:SetTable} (o:TOk n t) (h:n <= t.mask):t.fits n = true:=by
 unfold SetTable.fits SetTable.fill
 rw [o.dm,o.pl]
 simp [h]
theorem Ma {m n:Nat} (h:Msk m) (h1:n * 5 < m * 3) (h2:m * 3 <= (n + 1) * 5) (hn:n < 300):Msk (sizeAbove (grown (n + 1)) - 1) /\ (n + 1) * 5 < (sizeAbove (grown (n + 1)) - 1) * 3 /\ sizeAbove (grown (n + 1)) <= 512:=by
 rcases h with rfl | rfl | rfl | rfl
 ·have:n = 4:=by lia
  subst this
  exact ⟨.inr (.inl (by decide +kernel)),by decide +kernel,by decide +kernel⟩
 ·have:n = 18:=by lia
  subst this
  exact ⟨.inr (.inr (.inl (by decide +kernel))),by decide +kernel,by decide +kernel⟩
 ·have:n = 76:=by lia
  subst this
  exact ⟨.inr (.inr (.inr (by decide +kernel))),by decide +kernel,by decide +kernel⟩
 ·lia
section
variable {prog:Program} {w:World} {A:Around} {E:Value -> Shared -> Prop} {s:Shared}
end
end ST
namespace ST
open PySem PySem.SetTable PyProof.Rows
section
variable {prog:Program} {w:World} {A:Around} {E:Value -> Shared -> Prop} {s:Shared}
end
section
variable {prog:Program} {w:World} {A:Around} {E:Value -> Shared -> Prop} {s:Shared}
end
section
variable {prog:Program} {w:World} {A:Around} {R:Result -> Shared -> Prop} {I:Addr} {fp wr:List Addr} {n:Nat} {P:Nat -> Value -> Prop} {St:Nat -> Heap -> Prop} {h0:Heap}
end
section
variable {prog:Program} {w:World} {A:Around} {E:Value -> Shared -> Prop} {s:Shared}
end
end ST
namespace L2
open PySem
section
variable {X:Cx}
end
end L2
namespace M
open PySem L2
section
variable {K:W.Frag}
end
end M
namespace DL
open PySem
section
variable {prog:Program} {w:World} {A:Around} {E:Value -> Shared -> Prop} {s:Shared}
end
end DL
namespace L2
open PySem
section
variable {X:Cx}
end
end L2
namespace M
open PySem L2
section
variable {K:W.Frag}
@[simp] noncomputable def Np (i:Nat):XE:=fun ρ=>(fv ρ i).map fun ks=>.int (ks.length:Nat)
end
end M
namespace DY
open PySem
section
variable {prog:Program} {w:World} {K:Type} [DecidableEq K] {knd:HeapKind prog w K} {A:Around} {E:Value -> Shared -> Prop} {s:Shared}
theorem yd {β:Type} (f:K × Addr × Value -> β) (k:K):∀ {xs:List (K × Addr × Value)} {j:Nat} {p:Addr × Value},(xs.map (·.1)).Nodup -> xs[j]? = some (k,p) -> (xs.map f).eraseIdx j = (xs.filter fun x=>decide (x.1 ≠ k)).map f
 | [],j,p,_,hj=>by simp at hj
 | x :: l,0,p,hn,hj=>by
  simp at hj
  subst hj
  rw [Ox,OL] at hn
  have:l.filter (fun x=>decide (x.1 ≠ k)) = l:=List.filter_eq_self.mpr fun y hy=>by
   simp only [ne_eq,decide_eq_true_eq]
   exact fun e=>hn.1 (OI.mpr ⟨y,hy,e⟩)
  rw [Qg (by simp),this]
  rfl
 | x :: l,j + 1,p,hn,hj=>by
  rw [PX] at hj
  rw [Ox,OL] at hn
  have hne:x.1 ≠ k:=fun e=>hn.1 (by rw [e];exact OI.mpr ⟨(k,p),QW hj,rfl⟩)
  rw [QR (by simpa using hne),Ox,Ox,List.eraseIdx_cons_succ,yd f k hn.2 hj]
theorem xw {d a:Addr} {xs:List (K × Addr × Value)} {k:K} {p:Addr × Value} {Q:Option DictEntry -> Shared -> Prop} (hu:knd.room A) (hkey:knd.is s.heap k a) (hm:s.heap.DictOfH knd d xs) (hp:atKey xs k = some p) (hsz:xs.length <= sizeLine)
  (hQ:∀ h',h'.DictOfH knd d (xs.filter fun x=>decide (x.1 ≠ k)) -> Heap.SameBut d s.heap h' -> Q (some (entryOfKey knd (k,p))) { s with heap:=h',toks:=s.toks + knd.draws k }):wpAny (model prog w) A (Builtin.Dict.takeOut d (.ref a)) Q E s:=by
 obtain ⟨o,es,ep,ho,hc,hd,he,his,hn⟩:=hm
 unfold Builtin.Dict.takeOut;refine O8 (Oh (knd.pyHash hu hkey (Oh (wpAny_dictFind_heap (s:={ s with toks:=s.toks + knd.draws k }) hu hkey ho hd he his hn (fun hno=>?_) fun j q hj=>?_))))
 ·rw [atKey_none_of_get hno] at hp;cases hp
 ·rw [atKey_of_get hn hj] at hp
  cases hp
  refine Oh (Rf (s:={ s with toks:=s.toks + knd.draws k }) ho hd ?_)
  rw [entry_at he j,hj]
  have hz:es.size <= sizeLine:=by rw [size_of_entries he];exact hsz
  refine Oh (wpAny_updateDictKeys (hz:=hz) (s:={ s with toks:=s.toks + knd.draws k }) ho hd (Om (hQ _ ⟨_,_,ep + 1,Pd _ ho (Obj.isFreed_of_dict (Obj.data_mapDictKeys hd _)),hc.mapDictKeys _,Obj.data_mapDictKeys hd _,?_,fun x hx=>?_,?_⟩ (Rg ..))))
  ·rw [<- yd (entryOfKey knd) k hn hj,<- he]
   obtain ⟨l⟩:=es
   simp
  ·exact knd.keeps (his x (O3.mp hx).1) ho hd (Rg ..)
  ·exact hn.sublist ((RH).map _)
theorem Fs {d a:Addr} {xs:List (K × Addr × Value)} {k:K} {p:Addr × Value} {Q:Value -> Shared -> Prop} (hu:knd.room A.in1) (hkey:knd.is s.heap k a) (hm:s.heap.DictOfH knd d xs) (hp:atKey xs k = some p) (hsz:xs.length <= sizeLine)
  (hQ:∀ h',h'.DictOfH knd d (xs.filter fun x=>decide (x.1 ≠ k)) -> Heap.SameBut d s.heap h' -> Q p.2 { s with heap:=h',toks:=s.toks + knd.draws k }):wpAny (model prog w) A (call (.builtin "dict.pop") [.ref d,.ref a]) Q E s:=by
 have hT:=hm.typeIs
 obtain ⟨o,es,ep,ho,hc,hd,he,his,hn⟩:=id hm
 refine wpAny_call (R5 F.slot_dict_pop.plain F.entry_dict_pop (F.slot_dict_pop.check _ _ _ _ _ _ _ _ hT (F.args_dict_pop_2 _ _) ?_))
 unfold Builtin.«dict.pop»;refine Oh ?_
 unfold Builtin.Dict.keyAndDefault;refine Oh (R9 hT ?_)
 show wpAny _ _ (pure (d,Value.ref a,none)) _ _ s;refine Om ?_
 have hne:es.isEmpty = false:=by
  cases q:es.isEmpty with
  | false=>rfl
  | true=>
   have e0:es.toList = []:=by simpa [Array.isEmpty_iff] using q
   rw [e0] at he
   cases xs with
   | nil=>cases hp
   | cons _ _=>cases he
 refine Oh (Rf ho hd (Oh (Om ?_)))
 rw [hne]
 refine Oh (xw hu hkey hm hp hsz fun h' hm' hs'=>?_)
 exact Oh (wpAny_letGo (Om (hQ h' hm' hs')))
def DAt (s:Heap) (d:Addr) (es:Array DictEntry) (ep:Nat):Prop:=∃ o,s.get? d = some o /\ o.ExactDict /\ o.data = .dict es ep
theorem vk {d:Addr} {es:Array DictEntry} {ep:Nat} {Q:Value -> Shared -> Prop} (hd:(d == sysModules) = false) (hm:DAt s.heap d es ep)
  (hQ:Q (.ref s.heap.objs.size) { s with heap:=s.heap.push { cls:=.type "dict_keyiterator",data:=.fields #[.ref d,.int 0 0,.int es.size 0,.int ep 0] } }):wpAny (model prog w) A (pyIter (.ref d)) Q E s:=by
 obtain ⟨o,ho,hc,hdat⟩:=hm
 have hT:s.TypeIs (.ref d) "dict" := ⟨o,ho,hc.1⟩
 refine wpAny_pyIter_slot hT F.slot_dict_iter (Pt F.slot_dict_iter hT F.entry_dict_iter ?_ (F.args_dict_iter_1 _));unfold Builtin.«dict.__iter__»;refine Oh ?_
 unfold Builtin.Dict.dictSlotNone;refine Oh (R9 hT ?_);show wpAny _ _ (pure (Value.ref d)) _ _ s
 refine Om ?_;show wpAny _ _ (Builtin.Dict.showsAll d >>= _) _ _ s
 unfold Builtin.Dict.showsAll;rw [Oi (by rw [hd];exact Ph)]
 refine Oh (Om (Oh (Rf ho hdat (Oh (wpAny_dictEpoch ho hdat (Oh (Pc (Om ⟨_,rfl, "dict_keyiterator",_,⟨_,OO _ rfl,rfl⟩,Rh.lookup,?_⟩))))))))
 simpa [rawInt] using hQ
theorem yH {it d:Addr} {i ep:Nat} {es:Array DictEntry} {Q:Option Value -> Shared -> Prop} (hit:s.heap.IsKeyIter it d i es.size ep) (hm:DAt s.heap d es ep) (hlt:i < es.size)
  (hQ:∀ h',h'.IsKeyIter it d (i + 1) es.size ep -> Heap.SameBut it s.heap h' -> Q (some es[i].key) { s with heap:=h' }):wpAny (model prog w) A (pyNext (.ref it)) Q E s:=by
 obtain ⟨o,ho,hc,hd⟩:=id hit
 obtain ⟨od,hod,hcd,hdd⟩:=hm
 unfold pyNext;refine Oh (QZ (Qy (name:=Str.ofString "__next__") hit.typeIs Rh (Pt Rh hit.typeIs F.entry_dict_keyiterator_next ?_ (F.args_dict_keyiterator_next_1 _))))
 refine Oh (Om (Oh (Oh ?_)))
 first | refine Oh (RI hit.typeIs (Om (Oh (QS ho hd ?_)))) | refine Oh (RJ hit.typeIs (Om (Oh (QS ho hd ?_))))
 simp only [show Builtin.Dict_items.ownsTuple "dict_keyiterator" = false from by decide,Bool.false_eq_true,P7]
 show wpAny _ _ (if (Value.ref d == Value.none) = true then _ else _) _ _ s;rw [Oi (show ¬ ((Value.ref d == Value.none) = true) from Ph)]
 refine Oh (Om (Oh (Rf hod hdd ?_)));rw [Oi (by simp)]
 refine Oh (Om (Oh (wpAny_dictEpoch hod hdd ?_)));rw [Oi (by simp)];refine Om ?_
 simp only [show ¬ ((i:Int) < 0) from by lia,P7,PV,Ps hlt];refine Oh ?_
 first | refine Oh (RI hit.typeIs (Om (Oh (Sa hit.typeIs ?_)))) | refine Oh (RJ hit.typeIs (Om (Oh (Sa hit.typeIs ?_))))
 show wpAny _ _ (setField (.ref it) 1 (rawInt ((i:Int) + 1)) >>= _) _ _ s;refine Oh (Ri ho hd (by simp) ?_)
 have hit':(s.heap.update it (Obj.mapFields (·.setIfInBounds 1 (rawInt ((i:Int) + 1))))).IsKeyIter it d (i + 1) es.size ep:=⟨_,Pd _ ho (Rb (Qe hd _)),(RC ..).trans hc,by rw [Qe hd];simp [rawInt]⟩
 refine Oh (O8 (Oh (Sa (s:={ s with heap:=s.heap.update it (Obj.mapFields (·.setIfInBounds 1 (rawInt ((i:Int) + 1)))) }) hit'.typeIs ?_)))
 show wpAny _ _ (pure es[i].key) _ _ _;exact Om (Om ⟨_,rfl,Om (hQ _ hit' (Rg ..))⟩)
theorem yG {it d:Addr} {i ep:Nat} {es:Array DictEntry} {Q:Option Value -> Shared -> Prop} (hh:A.handled = none) (hit:s.heap.IsKeyIter it d i es.size ep) (hm:DAt s.heap d es ep) (hge:es.size <= i)
  (hQ:∀ h',Heap.ExtBut it s.heap h' -> Q none { s with heap:=h' }):wpAny (model prog w) A (pyNext (.ref it)) Q E s:=by
 obtain ⟨o,ho,hc,hd⟩:=id hit
 obtain ⟨od,hod,hcd,hdd⟩:=hm
 unfold pyNext;refine Oh (QZ (Qy (name:=Str.ofString "__next__") hit.typeIs Rh (Pt Rh hit.typeIs F.entry_dict_keyiterator_next ?_ (F.args_dict_keyiterator_next_1 _))))
 refine Oh (Om (Oh (Oh ?_)))
 first | refine Oh (RI hit.typeIs (Om (Oh (QS ho hd ?_)))) | refine Oh (RJ hit.typeIs (Om (Oh (QS ho hd ?_))))
 simp only [show Builtin.Dict_items.ownsTuple "dict_keyiterator" = false from by decide,Bool.false_eq_true,P7]
 show wpAny _ _ (if (Value.ref d == Value.none) = true then _ else _) _ _ s;rw [Oi (show ¬ ((Value.ref d == Value.none) = true) from Ph)]
 refine Oh (Om (Oh (Rf hod hdd ?_)));rw [Oi (by simp)]
 refine Oh (Om (Oh (wpAny_dictEpoch hod hdd ?_)));rw [Oi (by simp)];refine Om ?_
 simp only [show ¬ ((i:Int) < 0) from by lia,P7,PV,RK hge];refine Oh ?_
 first | refine Oh (RI hit.typeIs (Om ?_)) | refine Oh (RJ hit.typeIs (Om ?_)) ; skip
 show wpAny _ _ (setField (.ref it) 0 .none >>= _) _ _ s;refine Oh (Ri ho hd (by simp) ?_)
 show wpAny _ _ (newExc (.type "StopIteration") [] >>= _) _ _ _;refine Oh ?_
 simp only [newExc,newTuple];refine Oh (Pc ?_ (by size_fits))
 refine Oh (m:=firstArgMember _ _) (Qd (a:=Value.none) (by first | rfl | (simp only [firstArgMember];rfl)) (Pc ?_ (by size_fits)))
 simp only [raiseNew];refine Oh (wpAny_handled ?_);rw [show A.in1.handled = none from hh]
 refine Oh (Om (QM ?_));refine Oh (QN (T := "StopIteration") (b:=true) ⟨_,OO _ rfl,rfl⟩ isSubtype_stop ?_)
 exact Om (hQ _ (((Rg ..).extBut.push _).push _))
end
end DY
namespace L2
open PySem PySem.Spec PyProof.Rows
section
variable {X:Cx} {pins:List (Addr × Obj)} {σ:St} {H:Hp} {s:Shared} {a b:Addr} {kvs:List (List Key × V)} {k:List Key} {v:V} {A:Around} {E:Value -> Shared -> Prop}
theorem KT.less {H:Hp} {kvs:List (List Key × V)} {xs:List (List Key × Addr × Value)} (r:KT H kvs xs) (k:List Key):KT H (uY kvs k) (xs.filter fun x=>decide (x.1 ≠ k)):=by
 unfold KT at *
 induction r with
 | nil=>exact .nil
 | @cons p q l l' h t ih=>
  unfold uY at *
  by_cases e:p.1 = k
  ·rw [Qg (by simpa using e),Qg (by rw [<- h.1];simpa using e)]
   exact ih
  ·rw [QR (by simpa using e),QR (by rw [<- h.1];simpa using e)]
   exact .cons h ih
noncomputable def rPopT:V -> List V -> Hp -> VK -> Prop:=fun x vs H Q=>∃ a b kvs k v,x = .ref a /\ vs = [.ref b] /\ H a = some (.dT kvs) /\ H b = some (.tup (k.map kV)) /\ jJ kvs k = some v /\ Q v (upd H a (.dT (uY kvs k)))
theorem BW (hu:(tupleKind (bp X.prog X.w)).room X.A.in1):MtR X "dict.pop" rPopT:=by
 intro pins s σ H x vs v us Q I rx rv h
 obtain ⟨a,b,kvs,k,y,rfl,rfl,ea,eb,hv,q⟩:=h
 cases (show v = Value.ref a from rx)
 obtain ⟨u,rfl,ru⟩:=rv.one
 cases (show u = Value.ref b from ru)
 obtain ⟨z,hd,xs,rel,dd⟩:=Eo I.hok ea
 have hz:xs.length <= sizeLine:=by rw [<- PL rel];exact z
 have rk:=rel.val k
 rw [hv] at rk
 cases hp:atKey xs k with
 | none=>rw [hp] at rk;exact rk.elim
 | some p=>
  rw [hp] at rk
  refine DY.Fs hu (oH I.hok eb) dd hp hz fun h' dd' hs=>⟨y,_,?_,rk,q⟩
  obtain ⟨o,es,ep,ho,h2,h3,h4,_,h5⟩:=dd'
  refine m6 I (by rw [ea];exact True.intro) hs ⟨o,ho⟩ ⟨OD (En _ _) z,hd,_,((show KT H kvs xs from rel).less k).keeps fun c ys ec=>?_,o,es,ep,ho,h2,h3,h4,h5⟩
  rw [aB (vz ec ea (fun z=>nomatch z))]
  exact ec
end
section
variable {X:Cx} {pins:List (Addr × Obj)} {σ:St} {H:Hp} {s:Shared} {a:Addr} {o:Obj} {kvs:List (List Key × V)}
theorem Jk (I:Inv X pins σ H s) (e:H a = some (.dT kvs)):∃ o,s.heap.get? a = some o /\ Inv X pins σ (upd H a (.frz o (.dT kvs))) s:=by
 obtain ⟨z,hd,xs,rel,o,es,ep,ho,h2,h3,h4,h5⟩:=(show ObjOk X.prog X.w H s.heap a (.dT kvs) from I.hok a _ e)
 refine ⟨o,ho,?_⟩
 have:=m6 (t':=s.toks) (h':=s.heap) (ob:=.frz o (.dT kvs)) I (by rw [e];exact True.intro) ⟨rfl,fun _ _=>rfl⟩ ⟨o,ho⟩ ⟨ho,z,hd,xs,Paired.mapP rel fun p q y=>⟨y.1,by rw [aB (vz y.2.1 e (fun z=>nomatch z))];exact y.2.1,y.2.2⟩,o,es,ep,ho,h2,h3,h4,h5⟩
 exact this
theorem Inv.thaw {u:HO} (I:Inv X pins σ H s) (e:H a = some (.frz o u)) (hn:∀ o' u',X.H₀ a ≠ some (.frz o' u')) (hu:(∀ x,u ≠ .own x) /\ (∀ xs,u ≠ .tup xs)):Inv X pins σ (upd H a u) s:=by
 have ne:∀ b x,H b = x -> (∀ o' u',x ≠ some (.frz o' u')) -> b ≠ a:=fun b x hb hx z=>by subst z;rw [e] at hb;exact hx _ _ hb.symm
 have n0:∀ b,H b = none -> upd H a u b = none:=fun b hb=>by rw [aB (ne b _ hb fun _ _ z=>by cases z)];exact hb
 exact {
  ok:=I.ok
  os:=I.os
  bare:=I.bare
  base:=⟨I.base.keep,I.base.slot,fun b ob q n hx=>n0 b (I.base.free b ob q n hx),I.base.there,fun b xs q=>by rw [aB (ne b _ (I.base.tups b xs q) fun _ _ z=>by cases z)];exact I.base.tups b xs q,
   fun b o' u' q=>by rw [aB fun z=>hn o' u' (by rw [<- z];exact q)];exact I.base.frzs b o' u' q,fun b ps q=>by
    obtain ⟨m,em⟩:=I.base.tbls b ps q
    exact ⟨m,by rw [aB (ne b _ em fun _ _ z=>by cases z)];exact em⟩⟩
  loc:=I.loc
  cell:=I.cell
  free:=n0 _ I.free
  freeC:=fun x c q=>n0 _ (I.freeC x c q)
  pin:=fun p hp=>by
   obtain ⟨q1,q2,q3⟩:=I.pin p hp
   exact ⟨q1,n0 _ q2,q3⟩
  hok:=fun b w hb=>by
   have st:∀ w',ObjOk X.prog X.w H s.heap b w' -> ObjOk X.prog X.w (upd H a u) s.heap b w':=fun w' ok=>ok.stay (fun _ _ _ z=>z) (fun c hc=>by rw [aB (ne c _ hc fun _ _ z=>by cases z)];exact hc) fun c xs hc=>by rw [aB (ne c _ hc fun _ _ z=>by cases z)];exact hc
   by_cases hba:b = a
   ·subst hba
    rw [aD] at hb
    cases hb
    exact st _ (I.hok b _ e).2
   ·rw [aB hba] at hb
    exact st w (I.hok b w hb)
  len:=I.len }
end
theorem oY {α β:Type} {F:α -> β -> Prop}:∀ {l:List α} {m:List β} {i:Nat} {y:β},Paired F l m -> m[i]? = some y -> ∃ p,l[i]? = some p /\ F p y
 | _,_,_,_,.nil,h=>by simp at h
 | _,_,0,_,.cons r _,h=>by simp at h;subst h;exact ⟨_,rfl,r⟩
 | _,_,i + 1,_,.cons _ t,h=>by simpa using oY t (by simpa using h)
noncomputable def Gd (i:Nat) (t:TE):TE:=fun σ H Q=>∃ a kvs,σ[i]? = some (some (.ref a)) /\ H a = some (.dT kvs) /\ ∀ o,t σ (upd H a (.frz o (.dT kvs))) fun v H2=>H2 a = some (.frz o (.dT kvs)) /\ Q v (upd H2 a (.dT kvs))
theorem nD {X:Cx} {e:Expr} {t:TE} (i:Nat) (h:PE X e t):PE X e (Gd i t):=by
 intro pins s σ H Q I q
 obtain ⟨a,kvs,_,ea,q⟩:=q
 obtain ⟨o,ho,I1⟩:=Jk I ea
 refine thn (h pins s σ _ _ I1 (q o)) fun v s1 h1=>?_
 obtain ⟨x,H2,I2,r2,e2,q2⟩:=h1
 refine ⟨x,_,I2.thaw e2 (fun o' u' z=>?_) ⟨fun _ z=>(nomatch z),fun _ z=>(nomatch z)⟩,r2,q2⟩
 have:=I.base.frzs a o' u' z
 rw [ea] at this
 cases this
noncomputable def Itd (a:Addr) (o:Obj) (kvs:List (List Key × V)):It:=
 ⟨fun i H=>H a = some (.frz o (.dT kvs)) /\ i < kvs.length,fun i H x H'=>H' = H /\ ∃ b k v,kvs[i]? = some (k,v) /\ x = .ref b /\ H b = some (.tup (k.map kV)),fun i H=>H a = some (.frz o (.dT kvs)) /\ kvs.length <= i⟩
noncomputable def KF (te:TE):TI:=fun σ H R=>te σ H fun x H1=>∃ a o kvs,x = .ref a /\ H1 a = some (.frz o (.dT kvs)) /\ R (Itd a o kvs) H1
theorem Gm {P:Program} {w:World} {K:W.Frag} {tg:Expr} {es:Array DictEntry} {ep:Nat} {o:Obj} {kvs:List (List Key × V)} (a it:Addr) (ho:o.data = .dict es ep) (hx:o.ExactDict) (hl:es.size = kvs.length):Turn P w K tg (Itd a o kvs) [it] it (fun i h=>h.IsKeyIter it a i es.size ep) where
 mem:=by simp
 obj:=fun i h st b hb=>by
  obtain ⟨q,e,c,d⟩:=st
  rw [Ot.mp hb]
  exact ⟨q,e,fun v z=>by rw [d] at z;cases z⟩
 keep:=fun i h h' st k=>st.at fun o e=>k it (by simp) o e
 item:=by
  intro X hP hw hK hc i pins s σ H E I hf st hg
  subst hP hw hK
  obtain ⟨ea,hi⟩:=hg
  obtain ⟨g1,z,hd,xs,rel,o',es',ep',h1,h2,h3,h4,h5⟩:=(show ObjOk X.prog X.w H s.heap a (.frz o (.dT kvs)) from I.hok a _ ea)
  rw [g1] at h1
  cases h1
  rw [ho] at h3
  cases h3
  obtain ⟨f0,f1,f2,f3,f4,f5⟩:=hf it (by simp)
  have hlt:i < es.size:=by rw [hl];exact hi
  refine DY.yH st ⟨o,g1,hx,ho⟩ hlt fun h' st' sb=>?_
  have I1:Inv X pins σ H { s with heap:=h' }:=I.turned (t':=s.toks) (fun b o hb e=>(sb.2 b hb).trans e) f0 f1 f3 f4 f5
  obtain ⟨q,e,c,d⟩:=id st'
  have hxi:es[i]? = (xs[i]?).map (entryOfKey (tupleKind (bp X.prog X.w))):=entry_at h4 i
  rw [Ps hlt] at hxi
  cases qx:xs[i]? with
  | none=>rw [qx] at hxi;cases hxi
  | some y=>
   rw [qx] at hxi
   have ek:es[i] = entryOfKey (tupleKind (bp X.prog X.w)) y:=O2 hxi
   obtain ⟨p,qp,r1,r2,r3⟩:=oY rel qx
   refine ⟨_,rfl,yn (s:={ s with heap:=h' }) e c d (by decide) ⟨.ref y.2.1,H,I1,?_,⟨rfl,y.2.1,p.1,p.2,qp,rfl,r2⟩,st',fun b hb=>(hf b hb).1⟩⟩
   rw [ek]
   rfl
 done:=by
  intro X hP hw hK hc i pins s σ H E I hf st hg
  subst hP hw hK
  obtain ⟨ea,hi⟩:=hg
  obtain ⟨g1,_⟩:=(show ObjOk X.prog X.w H s.heap a (.frz o (.dT kvs)) from I.hok a _ ea)
  obtain ⟨f0,f1,f2,f3,f4,f5⟩:=hf it (by simp)
  exact DY.yG (I.ok.hd hc) st ⟨o,g1,hx,ho⟩ (by rw [hl];exact hi) fun h' eb=>⟨rfl,I.turned (t':=s.toks) (fun b o hb e=>eb b o hb e) f0 f1 f3 f4 f5⟩
 self:=fun _ _ _ _ _ st h=>wpAny_pyIter_keyiter st h
theorem AZ {X:Cx} {tg l:Expr} {tl:TE} (hl:PE X l tl):PI X tg l (KF tl):=by
 intro pins s σ H R I h
 refine thn (hl pins s σ H _ I h) fun v s1 h1=>?_
 obtain ⟨x,H1,I1,r1,a,o,kvs,e,ea,q⟩:=h1
 subst e
 cases r1
 obtain ⟨g1,z,hd,xs,rel,o',es,ep,h1,h2,h3,h4,h5⟩:=(show ObjOk X.prog X.w H1 s1.heap a (.frz o (.dT kvs)) from I1.hok a _ ea)
 rw [g1] at h1
 cases h1
 have hsz:es.size = kvs.length:=by rw [size_of_entries h4,PL rel]
 refine DY.vk hd ⟨o,g1,h2,h3⟩ ⟨s1.heap.objs.size,[s1.heap.objs.size],_,_,H1,rfl,I1.kept (t':=s1.toks) fun b o e=>OA _ e,Gm a _ h3 h2 hsz,⟨_,OO _ rfl,rfl,rfl⟩,fun b hb=>?_,q⟩
 rw [Ot.mp hb]
 exact I1.fpOk (Op _) I1.fresh
noncomputable def Iu:List V -> Hp -> VK -> Prop:=fun vs H Q=>∃ l,∃ es:List (Addr × Addr × List Key × V),vs = [.ref l] /\ H l = some (.lst (es.map fun e=>.ref e.1)) /\ (∀ e ∈ es,H e.1 = some (.tup [.ref e.2.1,e.2.2.2]) /\ H e.2.1 = some (.tup (e.2.2.1.map kV))) /\
 es.length < sizeLine /\ ∀ p,H p = none -> Q (.ref p) (upd H p (.dT (kK [] (es.map fun e=>(e.2.2.1,e.2.2.2)))))
theorem HD {P:Program} {w:World} {A:Around} (h:A.units + 64 < cLine):(tupleKind (bp P w)).room A.in1.in1:=Q9 (show A.units + 1 + 1 < cLine from Pf (by lia) h)
theorem Ad {X:Cx} (hu:(tupleKind (bp X.prog X.w)).room X.A.in1.in1) (hc:X.calm = true):CallR X (.type "dict") Iu:=by
 intro pins s σ H xs us Q I r h
 obtain ⟨l,es,rfl,el,he,hl,q⟩:=h
 obtain ⟨u,rfl,ru⟩:=r.one
 cases (show u = Value.ref l from ru)
 have hn:=I.hok.fresh (Op s.heap.objs.size)
 have I1:=I.laid (a:=s.heap.objs.size) (o:=.dT []) (h':=s.heap.push { cls:=.type "dict",data:=.dict #[] }) (t':=s.toks) (fun _ _ q=>OA _ q) (Op _) (yb s.heap I.big)
 have nl:l ≠ s.heap.objs.size:=ba el hn
 have ek:∀ {b u},H b = some u -> upd H s.heap.objs.size (.dT []) b = some u:=fun {b u} z=>by rw [aB (ba z hn)];exact z
 obtain ⟨hll,its,n,rl,hol⟩:=(show ObjOk X.prog X.w (upd H s.heap.objs.size (.dT [])) (s.heap.push { cls:=.type "dict",data:=.dict #[] }) l (.lst (es.map fun e=>V.ref e.1)) from I1.hok l _ (ek el))
 refine callType_codes (Q₁:=fun obj s₁=>obj = .ref s.heap.objs.size /\ s₁ = { s with heap:=s.heap.push { cls:=.type "dict",data:=.dict #[] } }) F.kt_called_dict (F.kt_typeCall_dict_1 _) F.entry_dict_init (kt_code_dict_new _ ⟨rfl,rfl⟩) ?_
 rintro obj s₁ ⟨rfl,rfl⟩
 have hTa:({ s with heap:=s.heap.push { cls:=.type "dict",data:=.dict #[] } }:Shared).TypeIs (.ref s.heap.objs.size) "dict" := ⟨_,OO _ rfl,rfl⟩
 have hTl:({ s with heap:=s.heap.push { cls:=.type "dict",data:=.dict #[] } }:Shared).TypeIs (.ref l) "list" := ⟨_,hol,rfl⟩
 have hh:X.A.in1.handled = none:=I.ok.hd hc
 refine ⟨hTa,F.args_dict_init_2 _ _,?_⟩
 unfold Builtin.«dict.__init__»;refine Oh ?_
 unfold Builtin.Dict.selfAndRest;refine Oh (R9 hTa ?_)
 show wpAny _ _ (pure (s.heap.objs.size,[Value.ref l])) _ _ _;refine Om ?_
 show wpAny _ _ (Builtin.Dict.updateFrom "dict.__init__" s.heap.objs.size (.ref l) [] .none) _ _ _
 unfold Builtin.Dict.updateFrom;refine Oh (PN hTl ?_);rw [Oj (by decide)]
 refine Oh (DX.C9 hh hol fun h' tk' hk=>?_)
 rw [Oj (show (none:Option Value).isNone = true from rfl)];refine Oh (Pn ?_)
 have I2:Inv X pins σ (upd H s.heap.objs.size (.dT [])) { s with heap:=h',toks:=tk' }:=I1.kept (t':=tk') hk
 obtain ⟨its1,rl1,pl1,_⟩:=I2.list (.inl (.inl (ek el)))
 refine Oh (wpAny_pyIter_list pl1.isList ?_)
 have I3:Inv X pins σ (upd H s.heap.objs.size (.dT [])) { s with heap:=h'.push { cls:=.type "list_iterator",data:=.fields #[.ref l,.int 0 0] },toks:=tk' }:=I2.kept (t':=tk') fun b o e=>OA _ e
 refine Om ⟨Qs DX.jC _,?_⟩
 refine zM (A:=X.A.in1) (xs:=es.map fun e=>V.ref e.1) (pins:=pins) (σ:=σ) hu hh es 0 [] _ _ I3 aD (I2.fpOk (Op _) (I2.hok.fresh (Op _))) ⟨_,OO _ rfl,rfl,rfl⟩ (ek el) (by rw [List.drop_zero]) (fun e h'=>?_) (by simpa using hl) fun s' I'=>?_
 ·obtain ⟨z1,z2⟩:=he e h'
  exact ⟨ek z1,ek z2⟩
 ·rw [Cp] at I'
  exact ⟨rfl,.ref s.heap.objs.size,_,I',rfl,q _ hn⟩
end L2
namespace M
open PySem L2
section
variable {K:W.Frag} {S S' H H':Hp}
mutual
noncomputable def fI:D -> Bool
 | .dic _=>false
 | .dif _=>false
 | .lst l=>noDics l
 | .tup l=>noDics l
 | .scr l=>noDics l
 | .mtp l=>noDics l
 | .ins _ _ l=>noDics l
 | _=>true
noncomputable def noDics:List D -> Bool
 | []=>true
 | d :: l=>fI d && noDics l
end
mutual
theorem Den.less {a:Addr} {o:Obj} {kvs:List (List Key × V)} (hs:∀ b,b ≠ a -> S' b = S b) (ha:S a = some (.frz o (.dT kvs))):∀ {d:D} {v:V},fI d = true -> Den K S d v -> Den K S' d v
 | .dic _,_,n,_=>by unfold fI at n;cases n
 | .dif _,_,n,_=>by unfold fI at n;cases n
 | .non,_,_,h=>by unfold Den at *;exact h
 | .bl _,_,_,h=>by unfold Den at *;exact h
 | .int _,_,_,h=>by unfold Den at *;exact h
 | .str _,_,_,h=>by unfold Den at *;exact h
 | .ty _,_,_,h=>by unfold Den at *;exact h
 | .lst l,_,n,h=>by
  unfold fI at n
  obtain ⟨p,xs,e,h1,h2⟩:=den_lst.mp h
  refine den_lst.mpr ⟨p,xs,e,?_,Dens.less hs ha n h2⟩
  rcases h1 with h1 | ⟨q,h1⟩
  ·exact .inl (by rw [hs p fun z=>by subst z;rw [ha] at h1;cases h1];exact h1)
  ·exact .inr ⟨q,by rw [hs p fun z=>by subst z;rw [ha] at h1;cases h1];exact h1⟩
 | .tup l,_,n,h=>by
  unfold fI at n
  obtain ⟨p,xs,e,h1,h2⟩:=den_tup.mp h
  exact den_tup.mpr ⟨p,xs,e,(show S' p = some (.tup xs) by rw [hs p fun z=>by subst z;rw [show S p = some (.tup xs) from h1] at ha;cases ha];exact h1),Dens.less hs ha n h2⟩
 | .scr l,_,n,h=>by
  unfold fI at n
  obtain ⟨p,xs,e,h1,h2⟩:=den_scr.mp h
  refine den_scr.mpr ⟨p,xs,e,?_,Dens.less hs ha n h2⟩
  rcases h1 with (h1 | ⟨q,h1⟩) | h1
  ·exact .inl (.inl (by rw [hs p fun z=>by subst z;rw [ha] at h1;cases h1];exact h1))
  ·exact .inl (.inr ⟨q,by rw [hs p fun z=>by subst z;rw [ha] at h1;cases h1];exact h1⟩)
  ·exact .inr h1
 | .mtp l,_,n,h=>by
  unfold fI at n
  obtain ⟨p,xs,e,h1,h2⟩:=den_mtp.mp h
  refine den_mtp.mpr ⟨p,xs,e,?_,Dens.less hs ha n h2⟩
  rcases h1 with (h1 | ⟨q,h1⟩) | h1
  ·exact .inl (.inl (by rw [hs p fun z=>by subst z;rw [ha] at h1;cases h1];exact h1))
  ·exact .inl (.inr ⟨q,by rw [hs p fun z=>by subst z;rw [ha] at h1;cases h1];exact h1⟩)
  ·exact .inr h1
 | .ins _ _ l,_,n,h=>by
  unfold fI at n
  obtain ⟨p,C,dx,fs,e,h0,h1,h2,h3⟩:=den_ins.mp h
  exact den_ins.mpr ⟨p,C,dx,fs,e,h0,by rw [hs p fun z=>by subst z;rw [ha] at h1;cases h1];exact h1,h2,Dens.less hs ha n h3⟩
theorem Dens.less {a:Addr} {o:Obj} {kvs:List (List Key × V)} (hs:∀ b,b ≠ a -> S' b = S b) (ha:S a = some (.frz o (.dT kvs))):∀ {ds:List D} {xs:List V},noDics ds = true -> Dens K S ds xs -> Dens K S' ds xs
 | [],_,_,h=>by rw [h.nil_of];exact .nil
 | _ :: _,_,n,h=>by
  unfold noDics at n
  obtain ⟨n1,n2⟩:=Sb.mp n
  obtain ⟨y,ys,rfl,a,b⟩:=h.cons_of
  exact .cons (Den.less hs ha n1 a) (Dens.less hs ha n2 b)
end
noncomputable def ksO:Sl -> Option (List (List Int))
 | .ow (.dic ks)=>some ks
 | .ow (.hd _ ks [])=>some ks
 | _=>none
noncomputable def reD (ks:List (List Int)):Sl -> Sl
 | .ow (.dic _)=>.ow (.dic ks)
 | .ow (.hd p _ [])=>.ow (.hd p ks [])
 | s=>s
@[simp] theorem wQ (ks:List (List Int)):ksO (.ow (.dic ks)) = some ks:=rfl
@[simp] theorem AE (p:Addr) (ks:List (List Int)):ksO (.ow (.hd p ks [])) = some ks:=rfl
@[simp] theorem LU (ks ks':List (List Int)):reD ks (.ow (.dic ks')) = .ow (.dic ks):=rfl
@[simp] theorem Mg (p:Addr) (ks ks':List (List Int)):reD ks (.ow (.hd p ks' [])) = .ow (.hd p ks []):=rfl
theorem Hv {s:Sl} {ks:List (List Int)} (h:ksO s = some ks):∃ o,s = .ow o /\ (∀ S H v fp,Own K S H o v fp -> ∃ a,v = .ref a /\ fp = [a] /\ H a = some (.dT (br ks))) /\ (∀ S H v fp,Own K S H o v fp -> ∀ a,v = .ref a -> ∀ (S' H':Hp) ks',H' a = some (.dT (br ks')) -> ∃ o',reD ks' s = .ow o' /\ Own K S' H' o' (.ref a) [a]):=by
 unfold ksO at h
 split at h
 ·cases h
  refine ⟨_,rfl,fun S H v fp ow=>own_dic.mp ow,fun S H v fp ow a e S' H' ks' hh=>⟨_,rfl,own_dic.mpr ⟨a,rfl,rfl,hh⟩⟩⟩
 ·cases h
  refine ⟨_,rfl,fun S H v fp ow=>?_,fun S H v fp ow a e S' H' ks' hh=>⟨_,rfl,?_⟩⟩
  ·obtain ⟨xs,f,e,e2,h1,h2⟩:=own_hd.mp ow
   obtain ⟨rfl,rfl⟩:=h2.nil_of
   exact ⟨_,e,e2,h1⟩
  ·obtain ⟨xs,f,e1,e2,h1,h2⟩:=own_hd.mp ow
   obtain ⟨rfl,rfl⟩:=h2.nil_of
   rw [e] at e1
   cases e1
   exact own_hd.mpr ⟨[],[],rfl,rfl,hh,.nil⟩
 ·cases h
section
variable {A:Hp} {Λ:Nat -> Option Addr} {Φ:Nat -> List Addr} {ρ:Env} {σ:St} {i:Nat} {s:Sl} {ks:List (List Int)}
theorem RlF.dicO (f:RlF K A Λ Φ ρ σ S H) (h:ρ[i]? = some s) (hk:ksO s = some ks):∃ a,σ[i]? = some (some (.ref a)) /\ H a = some (.dT (br ks)) /\ S a = none /\ A a = none /\ (∀ (j:Nat) o',j ≠ i -> ρ[j]? = some (.ow o') -> a ∉ Φ j) /\
  ∀ ks',RlF K A Λ Φ (ρ.set i (reD ks' s)) σ S (upd H a (.dT (br ks'))):=by
 obtain ⟨o,rfl,w1,w2⟩:=Hv (K:=K) hk
 obtain ⟨v,ev,ow,nd,n⟩:=f.ow i _ h
 obtain ⟨a,rfl,hfp,ha⟩:=w1 _ _ _ _ ow
 have ain:a ∈ Φ i:=by rw [hfp];exact Oq
 have oth:∀ (j:Nat) o',j ≠ i -> ρ[j]? = some (.ow o') -> a ∉ Φ j:=fun j o' hj e1 z=>f.dj j i o' _ hj e1 h a z ain
 refine ⟨a,ev,ha,(n a ain).1,(n a ain).2,oth,fun ks'=>?_⟩
 obtain ⟨o2,e2,ow2⟩:=w2 _ _ _ _ ow a rfl S (upd H a (.dT (br ks'))) ks' aD
 rw [e2]
 have ne:∀ b,b ≠ a -> upd H a (.dT (br ks')) b = H b:=fun b hb=>aB hb
 have fin:=f.put (H':=upd H a (.dT (br ks'))) i (fun b u e=>by rw [ne b fun z=>by subst z;rw [(n b ain).1] at e;cases e];exact f.sub b u e) (fun b u e=>by rw [ne b fun z=>by subst z;rw [(n b ain).2] at e;cases e];exact f.asub b u e) ow2 (by simp) (fun b hb=>by rw [Ot.mp hb];exact n a ain) fun j o' hj e1 b hb=>by
  have nb:b ≠ a:=fun z=>oth j o' hj e1 (by rw [<- z];exact hb)
  exact ⟨ne b nb,fun z=>nb (Ot.mp z)⟩
 rw [tI ev] at fin
 have hΦ:(fun j=>if j = i then [a] else Φ j) = Φ:=by
  funext j
  by_cases hj:j = i
  ·rw [Oj hj,hj,hfp]
  ·rw [Oi hj]
 rw [hΦ] at fin
 exact fin
theorem RlF.melt (f:RlF K A Λ Φ ρ σ S H) (h:ρ[i]? = some s) (hk:ksO s = some ks):∃ a,σ[i]? = some (some (.ref a)) /\ H a = some (.dT (br ks)) /\ S a = none /\
  ∀ o,RlF K A Λ Φ (ρ.set i (.sh (.dif ks))) σ (upd S a (.frz o (.dT (br ks)))) (upd H a (.frz o (.dT (br ks)))):=by
 obtain ⟨a,ev,ha,sa,aa,oth,_⟩:=f.dicO h hk
 refine ⟨a,ev,ha,sa,fun o=>?_⟩
 have s1:Same S (upd S a (.frz o (.dT (br ks)))):=fun b u e=>by rw [aB (ba e sa)];exact e
 exact {
  len:=by rw [PQ];exact f.len
  sub:=fun b u e=>by
   by_cases hb:b = a
   ·subst hb;rw [aD] at e ⊢;exact e
   ·rw [aB hb] at e ⊢;exact f.sub b u e
  sh:=fun j d hj=>by
   rcases bv hj with ⟨rfl,e,_⟩ | ⟨hij,hj⟩
   ·cases e
    exact ⟨_,ev,den_dif.mpr ⟨a,o,rfl,aD⟩⟩
   ·obtain ⟨v,e1,e2⟩:=f.sh j d hj
    exact ⟨v,e1,e2.mono s1⟩
  ow:=fun j o' hj=>by
   rcases bv hj with ⟨rfl,e,_⟩ | ⟨hij,hj⟩
   ·cases e
   ·obtain ⟨v,e1,e2,e3,e4⟩:=f.ow j o' hj
    have nb:∀ b ∈ Φ j,b ≠ a:=fun b hb z=>oth j o' (OQ hij) hj (by rw [<- z];exact hb)
    exact ⟨v,e1,e2.mono s1 fun b hb=>aB (nb b hb),e3,fun b hb=>⟨by rw [aB (nb b hb)];exact (e4 b hb).1,(e4 b hb).2⟩⟩
  dj:=fun j k o1 o2 hjk g1 g2=>by
   rcases bv g1 with ⟨rfl,e,_⟩ | ⟨_,g1⟩
   ·cases e
   ·rcases bv g2 with ⟨rfl,e,_⟩ | ⟨_,g2⟩
    ·cases e
    ·exact f.dj j k o1 o2 hjk g1 g2
  lo:=fun j hj=>by
   rcases bv hj with ⟨rfl,e,_⟩ | ⟨_,hj⟩
   ·cases e
   ·exact f.lo j hj
  asub:=fun b u e=>by rw [aB fun z=>by subst z;rw [aa] at e;cases e];exact f.asub b u e
  adis:=fun b=>by
   by_cases hb:b = a
   ·subst hb;exact .inr (.inl aa)
   ·rw [aB hb];exact f.adis b }
end
theorem vt {a:Addr} {o:Obj} {kvs:List (List Key × V)} (s:Same S H) (sa:S a = none) (ha:H a = some (.dT kvs)) (z:Ext (upd S a (.frz o (.dT kvs))) (upd H a (.frz o (.dT kvs))) S' H') :
  S' a = some (.frz o (.dT kvs)) /\ H' a = some (.frz o (.dT kvs)) /\ Ext S H (fun b=>if b = a then none else S' b) (upd H' a (.dT kvs)):=by
 have e1:=z.sh a _ aD
 refine ⟨e1,z.sub a _ e1,fun b u e=>?_,fun b u e=>?_,fun b u e n=>?_⟩
 ·have hb:=ba e sa
  rw [Oi hb]
  exact z.sh b u (by rw [aB hb];exact e)
 ·by_cases hb:b = a
  ·rw [Oj hb] at e;cases e
  ·rw [Oi hb] at e
   rw [aB hb]
   exact z.sub b u e
 ·by_cases hb:b = a
  ·subst hb
   rw [aD,Oj rfl,<- ha]
   exact ⟨e,.inl rfl⟩
  ·rw [aB hb,Oi hb]
   exact z.alw b u (by rw [aB hb];exact e) (by rw [aB hb];exact n)
@[simp] noncomputable def nU (i:Nat) (e:XE):XE:=fun ρ=>((ρ[i]?).bind ksO).bind fun ks=>(e (ρ.set i (.sh (.dif ks)))).bind fun d=>if fI d = true then some d else none
theorem bind_some {α β:Type} {x:Option α} {f:α -> Option β} {b:β} (h:x.bind f = some b):∃ a,x = some a /\ f a = some b:=Option.bind_eq_some_iff.mp h
theorem Bb {t:TE} {e:XE} (i:Nat) (h:SE K t e):SE K (Gd i t) (nU i e):=fun ρ σ S H Q d r x k=>by
 obtain ⟨ks,x1,x⟩:=bind_some x
 obtain ⟨s,qs,hk⟩:=bind_some x1
 obtain ⟨d',qe,x⟩:=bind_some x
 split at x
 ·rename_i hn
  cases x
  obtain ⟨A,Λ,Φ,f⟩:=r
  obtain ⟨a,ev,ha,sa,up⟩:=f.melt qs hk
  refine ⟨a,_,ev,ha,fun o=>h _ σ _ _ _ d ⟨A,Λ,Φ,up o⟩ qe fun v S1 H1 z1 d1=>?_⟩
  obtain ⟨e1,e2,z⟩:=vt f.sub sa ha z1
  exact ⟨e2,k v _ _ z (d1.less (fun b hb=>Oi hb) e1 hn)⟩
 ·cases x
@[simp] noncomputable def ir (i:Nat) (e:XA):XA:=fun ρ=>((ρ[i]?).bind ksO).bind fun ks=>(e (ρ.set i (.sh (.dif ks)))).bind fun l=>if noDics l = true then some l else none
theorem Ci {t:TE} {e:XA} (i:Nat) (h:SF K t e):SF K (Gd i t) (ir i e):=fun ρ σ S H Q l r x k=>by
 obtain ⟨ks,x1,x⟩:=bind_some x
 obtain ⟨s,qs,hk⟩:=bind_some x1
 obtain ⟨d',qe,x⟩:=bind_some x
 split at x
 ·rename_i hn
  cases x
  obtain ⟨A,Λ,Φ,f⟩:=r
  obtain ⟨a,ev,ha,sa,up⟩:=f.melt qs hk
  refine ⟨a,_,ev,ha,fun o=>h _ σ _ _ _ l ⟨A,Λ,Φ,up o⟩ qe fun b xs S1 H1 z1 h1 h2 h3 d1=>?_⟩
  obtain ⟨e1,e2,z⟩:=vt f.sub sa ha z1
  have hb:b ≠ a:=fun z=>by subst z;rw [aD] at h1;cases h1
  exact ⟨e2,k b xs _ _ z (by rw [aB hb] at h1;exact h1) (by show (if b = a then none else S1 b) = none;rw [Oi hb];exact h2) (by rw [aB hb];exact h3) (d1.less (fun b hb=>Oi hb) e1 hn)⟩
 ·cases x
noncomputable def Ek (ks:List (List Int)) (q:List Int):List (List Int):=ks.filter fun k=>decide (k ≠ q)
theorem ya (q:List Int):∀ ks:List (List Int),uY (br ks) (kI q) = br (Ek ks q)
 | []=>rfl
 | k :: ks=>by
  have ih:=ya q ks
  unfold uY Ek br at *
  rw [Ox]
  by_cases h:k = q
  ·subst h
   rw [Qg (by simp),Qg (by simp)]
   exact ih
  ·rw [QR (by simpa using fun z=>h (AB z)),QR (by simpa using h),Ox,ih]
theorem zN (q:List Int):∀ ks:List (List Int),ks.contains q = true -> jJ (br ks) (kI q) = some (.bl true)
 | [],h=>by cases h
 | k :: ks,h=>by
  by_cases e:k = q
  ·subst e
   exact kP rfl
  ·show jJ ((kI k,V.bl true) :: br ks) (kI q) = _
   rw [kO (fun z=>e (AB z))]
   refine zN q ks ?_
   rw [List.contains_cons] at h
   have:(q == k) = false:=by simpa using fun z=>e z.symm
   rw [this,Bool.false_or] at h
   exact h
@[simp] noncomputable def zQ (i:Nat) (k:XE):XS:=fun ρ=>(ρ[i]?).bind fun s=>(ksO s).bind fun ks=>(k ρ).bind fun d=>(kyD d).bind fun q=>if ks.contains q = true then some (.nx (ρ.set i (reD (Ek ks q) s))) else none
theorem FT {tk:TE} {k:XE} {i:Nat} (h:SE K tk k):SS K (zG (tBM K "dict" rPopT (jI i) (eK tk nP))) (zQ i k):=fun A Λ ρ σ S H E o r x c=>by
 obtain ⟨s,qs,x⟩:=bind_some x
 obtain ⟨ks,hk,x⟩:=bind_some x
 obtain ⟨d,qk,x⟩:=bind_some x
 obtain ⟨q,qd,x⟩:=bind_some x
 split at x
 ·rename_i hc
  cases x
  obtain ⟨Φ,f⟩:=r
  obtain ⟨a,ev,ha,_⟩:=f.dicO qs hk
  refine ⟨.ref a,ev,.inr (.inr (.inl ⟨rfl,.inr ⟨_,ha⟩⟩)),h ρ σ S H _ d ⟨A,Λ,Φ,f⟩ qk fun v S1 H1 z1 d1=>?_⟩
  obtain ⟨b,rfl,hb⟩:=sv d1 qd
  obtain ⟨a',ev',ha',_,_,_,up⟩:=(f.ext z1).dicO qs hk
  rw [ev] at ev'
  cases ev'
  refine ⟨a,b,_,kI q,.bl true,rfl,rfl,ha',z1.sub b _ hb,zN q ks hc,?_⟩
  rw [ya]
  exact c σ S1 _ ⟨Φ,up _⟩ z1.sh
 ·cases x
@[simp] noncomputable def xA (e:XA):Env -> Option O:=fun ρ=>(e ρ).bind fun l=>(kF l).bind fun qs=>if l.length < LIM then some (.dic (qs.foldl pR [])) else none
theorem HG {te:TE} {e:XA} (h:SF K te e):STr K (tCB Iu (eK te nP)) (xA e):=fun ρ σ S H Q o r x c=>by
 obtain ⟨l,qe,x⟩:=bind_some x
 obtain ⟨qs,qp,x⟩:=bind_some x
 split at x
 ·rename_i hl
  cases x
  refine h ρ σ S H _ l r qe fun p xs S1 H1 z1 hp hs1 hp1 d1=>?_
  obtain ⟨es,e1,e2,e3⟩:=yX z1.sub d1 qp
  refine ⟨p,es,rfl,by rw [<- e1];exact hp1,e2,?_,fun a ha=>?_⟩
  ·have:=d1.length
   have e4:es.length = xs.length:=by rw [e1,Os]
   exact Q6 (by lia) eR
  ·rw [e3,show ([]:List (List Key × V)) = br [] from rfl,tp]
   have h0:H a = none:=(z1.same r.sub).free ha
   have z2:Ext S1 H1 S1 (upd H1 a (.dT (br (qs.foldl pR [])))):=Ext.own z1.sub ha
   exact c (.ref a) [a] S1 _ (z1.trans z2) (own_dic.mpr ⟨a,rfl,rfl,aD⟩) (by simp) fun b hb=>by rw [Ot.mp hb];exact ⟨h0,z1.sub.free ha⟩
 ·cases x
end
section
variable {K:W.Frag} {S S' H H':Hp}
def IW (J:It) (S H:Hp) (l:List D):Prop:=∀ S' H',Ext S H S' H' ->
 (∀ i d,l[i]? = some d -> J.go i H' /\ ∀ x H'',J.yld i H' x H'' -> H'' = H' /\ ∃ b,∃ k:List Int,d = .tup (k.map .int) /\ x = .ref b /\ H' b = some (.tup (k.map V.int))) /\ J.stop l.length H'
def SIT (K:W.Frag) (wi:TI) (e:XA):Prop:=∀ ρ σ S H (R:It -> Hp -> Prop) l,Rl K ρ σ S H -> e ρ = some l -> (∀ J S' H',Ext S H S' H' -> IW J S' H' l -> R J H') -> wi σ H R
def SGT (K:W.Frag) (g:TG) (x:XG):Prop:=∀ A Λ ρ σ S H b (k:List Int) (Q:St -> Hp -> Prop) ρ',RlA K A Λ ρ σ S H -> H b = some (.tup (k.map V.int)) -> x (.tup (k.map .int)) ρ = some ρ' -> (∀ σ',RlA K A Λ ρ' σ' S H -> Q σ' H) -> g (.ref b) σ H Q
theorem Ax {gs:TGs} {y:XGs} {n:Nat} (hs:SGs K gs y) (hl:yy y n):SGT K (G4 K n gs) (aU y):=fun A Λ ρ σ S H b k Q ρ' r hb e c=>
 ⟨b,k.map V.int,rfl,SqT.of hb,by rw [Os,<- hl (k.map D.int) ρ ρ' e,Os],hs A Λ ρ σ S H _ (k.map D.int) Q ρ' r (oi k) e c⟩
@[simp] noncomputable def mR (i:Nat):XA:=fun ρ=>match ρ[i]? with | some (.sh (.dif ks))=>some (ks.map fun k=>.tup (k.map .int)) | _=>none
theorem EF (i:Nat):SIT K (KF (jI i)) (mR i):=fun ρ σ S H R l r x c=>by
 unfold mR at x
 split at x
 ·rename_i ks q
  cases x
  obtain ⟨v,ev,dv⟩:=r.sh i _ q
  obtain ⟨a,o,rfl,ha⟩:=den_dif.mp dv
  refine ⟨.ref a,ev,a,o,_,rfl,r.sub _ _ ha,c _ S H (Ext.refl r.sub) fun S' H' z=>?_⟩
  have ha':=z.sub a _ (z.sh a _ ha)
  have hl:(br ks).length = ks.length:=rR ks
  refine ⟨fun j d hd=>⟨⟨ha',?_⟩,fun x H'' hy=>?_⟩,ha',by rw [hl,Os];exact Op _⟩
  ·have:=(O5.mp hd).1
   rw [Os] at this
   rw [hl];exact this
  ·obtain ⟨e,b,k,v,hk,rfl,hb⟩:=hy
   refine ⟨e,b,?_⟩
   rw [OU] at hd
   unfold br at hk
   rw [OU] at hk
   cases qj:ks[j]? with
   | none=>rw [qj] at hd;cases hd
   | some k0=>
    rw [qj] at hd hk
    cases hd
    cases hk
    exact ⟨k0,rfl,rfl,by rw [KI] at hb;exact hb⟩
 ·cases x
theorem xp {js:List (Option Nat)} {wi:TI} {g:TG} {tt:TIf} {te:TE} {w:XA} {x:XG} {c:XT} {e:XE} (hi:SIT K wi w) (hg:SGT K g x) (hc:ST K tt c) (he:SE K te e):SF K (Cl js wi g tt te) (bF js w x c e):=fun ρ σ S H Q l r y k=>by
 unfold bF at y
 cases q:w ρ with
 | none=>rw [q] at y;cases y
 | some ds=>
  rw [q] at y
  dsimp only [Option.bind] at y
  split at y
  ·rename_i hlim
   refine hi ρ σ S H _ ds r q fun J S1 H1 z1 wk D hD=>?_
   have r1:=r.ext z1
   have hD0:H D = none:=(z1.same r.sub).free hD
   refine ⟨fun i n H'=>n = ds.length - i /\ i <= ds.length /\ ∃ S' done ys eW,Ext S1 H1 S' H' /\ Same S1 S' /\ H' D = some (.lst ys) /\ S' D = none /\ Dens K S' done ys /\ done.length <= i /\ bR x c e (p7 js ρ) (ds.drop i) = some eW /\ l = done ++ eW,
    ⟨_,rfl,O9 _,S1,[],[],l,Ext.own z1.sub hD,Same.refl _,aD,z1.sub.free hD,.nil,O9 _,y,rfl⟩,?_⟩
   rintro i n H2 ⟨rfl,hil,S2,done,ys,eW,z2,s2,hy,hSD,dy,hdl,y2,rfl⟩
   obtain ⟨w1,w2⟩:=wk S2 H2 z2
   cases qd:ds[i]? with
   | none=>
    have:ds.length = i:=by have:=QJ.mp qd;lia
    subst this
    rw [QE (Op _)] at y2
    cases y2
    rw [OZ] at k
    exact .inl ⟨w2,k D ys S2 H2 (z1.trans z2) hD0 hSD hy dy⟩
   | some d=>
    obtain ⟨g1,g2⟩:=w1 i d qd
    have hlt:=(O5.mp qd).1
    rw [rS qd] at y2
    unfold bR at y2
    cases qx:x d (p7 js ρ) with
    | none=>rw [qx] at y2;cases y2
    | some ρ3=>
     rw [qx] at y2
     dsimp only [Option.bind] at y2
     refine .inr ⟨g1,fun xv H3 hyl=>?_⟩
     obtain ⟨rfl,b0,k0,rfl,rfl,hb0⟩:=g2 xv H3 hyl
     have ri:=FF (r1.ext z2) js
     refine hg _ _ _ _ S2 _ b0 k0 _ ρ3 ri hb0 qx fun σ3 r3=>?_
     cases qc:c ρ3 with
     | none=>rw [qc] at y2;cases y2
     | some b=>
      rw [qc] at y2
      dsimp only at y2
      refine hc ρ3 σ3 S2 _ _ b r3.toRl qc fun S4 H4 z4=>?_
      obtain ⟨al1,al2⟩:=z4.al D _ hy hSD
      cases b with
      | false=>
       rw [Oi (by decide)] at y2
       exact yr ⟨_,by lia,rfl,hlt,S4,done,ys,eW,z2.trans z4,s2.trans z4.sh,al1,al2,dy.mono z4.sh,by lia,y2,rfl⟩
      | true=>
       rw [Oj rfl] at y2
       cases qe:e ρ3 with
       | none=>rw [qe] at y2;cases y2
       | some dv=>
        rw [qe] at y2
        dsimp only at y2
        cases qr:bR x c e (p7 js ρ) (ds.drop (i + 1)) with
        | none=>rw [qr] at y2;cases y2
        | some rest2=>
         rw [qr] at y2
         cases y2
         refine yt (he ρ3 σ3 S4 H4 _ dv (r3.toRl.ext z4) qe fun v S5 H5 z5 d5=>?_)
         obtain ⟨b1,b2⟩:=z5.al D _ al1 al2
         refine ⟨ys,b1,?_,_,by lia,rfl,hlt,S5,done ++ [dv],ys ++ [v],rest2,?_,(s2.trans z4.sh).trans z5.sh,aD,b2,((dy.mono z4.sh).mono z5.sh).append (.cons d5 .nil),by rw [Ov,Pv];lia,qr,by rw [OV];rfl⟩
         ·rw [<- dy.length]
          exact OT (Pf hdl hlt) (OD hlim (O4 eR))
         ·have z6:=(z2.trans z4).trans z5
          exact ⟨z6.sh,fun b u hb=>by rw [aB fun z=>by subst z;rw [b2] at hb;cases hb];exact z6.sub b u hb,fun b o hb hn=>by
           obtain ⟨c1,c2⟩:=z6.alw b o hb hn
           exact ⟨by rw [aB fun z=>by subst z;rw [hD] at hb;cases hb];exact c1,c2⟩⟩
  ·cases y
noncomputable abbrev HM:=Addr -> List (List Int) -> List D -> Option (O × List (List Int))
noncomputable def fnH (n:Nat) (x:XS):HM:=fun p ks ds=>match x (.ow (.hd p ks []) :: (ds.map .sh ++ List.replicate (n - 1 - ds.length) .un)) with
 | some (.ro (.hd p' ks' [o]))=>if p' = p then some (o,ks') else none
 | _=>none
noncomputable def spH (K:W.Frag) (n:Nat) (m:HM):Sp:=fun vs H Q _=>vs.length = n /\ ∃ S p ks ds us o ks',vs = .ref p :: us /\ Same S H /\ H p = some (.dT (br ks)) /\ S p = none /\ Dens K S ds us /\ m p ks ds = some (o,ks') /\
 ∀ v fp S' H',Ext S (upd H p (.dT (br ks'))) S' H' -> Own K S' H' o v fp -> fp.Nodup -> (∀ b ∈ fp,H b = none /\ S' b = none) -> Q v H'
noncomputable def GJ (S H:Hp) (p:Addr):Hp:=fun b=>if b = p then none else gS S H b
theorem z7 {p:Addr}:GJ S H p p = none:=Oj rfl
theorem wm {p b:Addr} (h:b ≠ p):GJ S H p b = gS S H b:=Oi h
theorem DF {N:List Str} {ds:List D} {us:List V} {p:Addr} {ks:List (List Int)} (s:Same S H) (hp:H p = some (.dT (br ks))) (sp:S p = none) (h:Dens K S ds us) :
  RlA K (GJ S H p) (fun _=>none) (.ow (.hd p ks []) :: (ds.map .sh ++ List.replicate (N.length - 1 - ds.length) .un)) (L2.bg N (.ref p :: us)) S H:=by
 have hl:=h.length
 have key:∀ (i:Nat) t,(Sl.ow (.hd p ks []) :: (ds.map Sl.sh ++ List.replicate (N.length - 1 - ds.length) .un))[i]? = some t -> t = .un \/ (∃ d v,t = .sh d /\ (L2.bg N (.ref p :: us))[i]? = some (some v) /\ Den K S d v) \/ (i = 0 /\ t = .ow (.hd p ks [])):=fun i t ht=>by
  cases i with
  | zero=>rw [PY] at ht;cases ht;exact .inr (.inr ⟨rfl,rfl⟩)
  | succ i=>
   rw [PX] at ht
   by_cases hi:i < ds.length
   ·rw [Qn (by rw [Os];exact hi),OU] at ht
    cases q:ds[i]? with
    | none=>rw [q] at ht;cases ht
    | some d=>
     rw [q] at ht
     cases ht
     obtain ⟨v,e1,e2⟩:=h.get q
     refine .inr (.inl ⟨d,v,rfl,?_,e2⟩)
     unfold L2.bg
     rw [Qn (by rw [Os,Ow];lia),OU,PX,e1]
     rfl
   ·rw [Qm (by rw [Os];lia),RQ] at ht
    split at ht
    ·cases ht;exact .inl rfl
    ·cases ht
 have e0:(L2.bg N (.ref p :: us))[0]? = some (some (.ref p)):=by unfold L2.bg;rfl
 refine ⟨fun i=>if i = 0 then [p] else [],?_⟩
 exact {
  len:=by
   unfold L2.bg
   simp only [Ov,Ow,Os,Rt,hl]
   lia
  sub:=s
  sh:=fun i d hi=>by
   rcases key i _ hi with e | ⟨d',v,e,h1,h2⟩ | ⟨_,e⟩
   ·cases e
   ·cases e;exact ⟨v,h1,h2⟩
   ·cases e
  ow:=fun i o hi=>by
   rcases key i _ hi with e | ⟨d',v,e,h1,h2⟩ | ⟨rfl,e⟩
   ·cases e
   ·cases e
   ·cases e
    exact ⟨.ref p,e0,own_hd.mpr ⟨[],[],rfl,rfl,hp,.nil⟩,by simp,fun b hb=>by
     rw [Oj rfl] at hb
     rw [Ot.mp hb]
     exact ⟨sp,z7⟩⟩
  dj:=fun i j o o' hij hi hj=>by
   rcases key i _ hi with e | ⟨d',v,e,h1,h2⟩ | ⟨rfl,e⟩
   ·cases e
   ·cases e
   ·rcases key j _ hj with e' | ⟨d',v,e',h1,h2⟩ | ⟨rfl,e'⟩
    ·cases e'
    ·cases e'
    ·exact absurd rfl hij
  lo:=fun i hi=>by
   rcases key i _ hi with e | ⟨d',v,e,h1,h2⟩ | ⟨_,e⟩
   ·cases e
   ·cases e
   ·cases e
  asub:=fun b u e=>by
   by_cases hb:b = p
   ·subst hb;rw [z7] at e;cases e
   ·rw [wm hb] at e;exact n5 b u e
  adis:=fun b=>by
   by_cases hb:b = p
   ·subst hb;exact .inr (.inl z7)
   ·rw [wm hb];exact n4 b }
theorem A6 {t:TS} {x:XS} {N:List Str} {n k:Nat} {vs:List V} {H:Hp} {Q:VK} {E:XK} (hs:SS K t x) (hN:N.length = n) (h:spH K k (fnH n x) vs H Q E) :
  t { nx:=fun _ H'=>Q .non H',rt:=Q } (L2.bg N vs) H:=by
 obtain ⟨_,S,p,ks,ds,us,o,ks',rfl,s,hp,sp,dd,y,q⟩:=h
 subst hN
 unfold fnH at y
 have r:=DF (N:=N) s hp sp dd
 split at y
 ·rename_i p' ks2 o' qx
  split at y
  ·rename_i e
   subst e
   cases y
   refine hs _ _ _ _ S H _ _ r qx fun v fp S' H' s1 s2 s3 s4 ow nd n=>?_
   obtain ⟨xs,f,rfl,rfl,h1,h2⟩:=own_hd.mp ow
   obtain ⟨z,zs,f1,f2,rfl,rfl,ho,h3⟩:=h2.cons_of
   obtain ⟨rfl,rfl⟩:=h3.nil_of
   rw [OZ] at nd n
   obtain ⟨n1,n2⟩:=OL.mp nd
   have inA:∀ b u,b ≠ p' -> H b = some u -> S b = none -> GJ S H p' b = some u:=fun b u hb hu hn=>by rw [wm hb];exact rA hu hn
   refine q z f1 S' H' ⟨s1,s2,fun b u hb hn=>?_⟩ ho n2 fun b hb=>⟨?_,(n b (Ou _ hb)).1⟩
   ·by_cases e:b = p'
    ·subst e
     rw [aD] at hb
     cases hb
     exact ⟨h1,.inl (n b Oq).1⟩
    ·rw [aB e] at hb
     have ha:=inA b u e hb hn
     refine ⟨s3 b u ha,?_⟩
     rcases s4 b with z | z | ⟨_,z,hu⟩
     ·exact .inl z
     ·rw [ha] at z;cases z
     ·rw [ha] at z;cases z;exact .inr hu
   ·cases qb:H b with
    | none=>rfl
    | some u=>
     have nb:=n b (Ou _ hb)
     have:=inA b u (fun e=>n1 (by rw [<- e];exact hb)) qb (s1.free nb.1)
     rw [nb.2] at this
     cases this
  ·cases y
 ·cases y
@[simp] noncomputable def zR (j:Nat):XS:=fun ρ=>match ρ[j]?,(ρ[0]?:Option Sl) with
 | some (.ow o),some (.ow (.hd p ks []))=>if j = 0 then none else some (.ro (.hd p ks [o]))
 | _,_=>none
theorem Bc (j:Nat):SS K (DR (jI j)) (zR j):=fun A Λ ρ σ S H E out r x k=>by
 unfold zR at x
 split at x
 ·rename_i o p ks q1 q2
  split at x
  ·cases x
  ·rename_i hj
   cases x
   obtain ⟨Φ,f⟩:=r
   obtain ⟨v,e1,o1,nd1,n1⟩:=f.ow j _ q1
   obtain ⟨v0,e0,o0,nd0,n0⟩:=f.ow 0 _ q2
   obtain ⟨xs,f0,rfl,hf,h1,h2⟩:=own_hd.mp o0
   obtain ⟨rfl,rfl⟩:=h2.nil_of
   have np:p ∉ Φ j:=fun z=>f.dj j 0 _ _ hj q1 q2 p z (by rw [hf];exact Oq)
   refine ⟨v,e1,k v (p :: (Φ j ++ [])) S H (Same.refl _) f.sub f.asub f.adis (own_hd.mpr ⟨[v],_,rfl,rfl,h1,.cons o1 .nil⟩) (by rw [OZ];exact OL.mpr ⟨np,nd1⟩) fun b hb=>?_⟩
   rw [OZ] at hb
   rcases Oy.mp hb with rfl | hb
   ·exact n0 b (by rw [hf];exact Oq)
   ·exact n1 b hb
 ·cases x
noncomputable def CZ (m:HM) (ks:List (List Int)) (ds:List D):Option (O × List (List Int)):=by
 classical exact if h:∃ r,∀ p,m p ks ds = some r then some h.choose else none
theorem wJ {m:HM} {ks:List (List Int)} {ds:List D} {r:O × List (List Int)} (h:∀ p,m p ks ds = some r):CZ m ks ds = some r:=by
 unfold CZ
 have he:∃ r,∀ p,m p ks ds = some r:=⟨r,h⟩
 rw [dif_pos he]
 have:=he.choose_spec 0
 rw [h 0] at this
 rw [O2 this]
theorem B0 {m:HM} {ks:List (List Int)} {ds:List D} {r:O × List (List Int)} (h:CZ m ks ds = some r) (p:Addr):m p ks ds = some r:=by
 unfold CZ at h
 split at h
 ·rename_i he
  cases h
  exact he.choose_spec p
 ·cases h
@[simp] noncomputable def tV (j i:Nat) (m:HM) (a:XA):XS:=fun ρ=>match ρ[j]? with
 | some (.ow (.lst l))=>(ρ[i]?).bind fun s=>(ksO s).bind fun ks=>(a ρ).bind fun ds=>(CZ m ks ds).bind fun r=>match r with
  | (.lst l',ks')=>(shs l').bind fun ds'=>if l.length + l'.length <= LIM then some (.nx ((ρ.set i (reD ks' s)).set j (.ow (.lst (l ++ ds'.map .sh))))) else none
  | _=>none
 | _=>none
theorem FO {n:Nat} {m:HM} {E0:XK} {ta:TA} {a:XA} {i j:Nat} (h:SA K ta a) (hn:∀ ρ ds,a ρ = some ds -> ds.length = n):SS K (zG (tBM K "list" rExtM (jI j) (eK (zF (spH K (n + 1) m) [] E0 (eK (jI i) ta)) nP))) (tV j i m a):=fun A Λ ρ σ S H E out r y k=>by
 unfold tV at y
 split at y
 ·rename_i l q0
  obtain ⟨s,qs,y⟩:=bind_some y
  obtain ⟨ks,hk,y⟩:=bind_some y
  obtain ⟨ds,qa,y⟩:=bind_some y
  obtain ⟨⟨o,ks'⟩,qm,y⟩:=bind_some y
  split at y
  ·rename_i l' ks2 e1
   cases e1
   obtain ⟨ds',qd,y⟩:=bind_some y
   split at y
   ·rename_i hl
    cases y
    have e:=oW qd
    subst e
    have hji:j ≠ i:=fun z=>by
     subst z
     rw [q0] at qs
     cases qs
     cases hk
    obtain ⟨Φ,f⟩:=r
    obtain ⟨p,ep,hp,sp,_,_,_⟩:=f.dicO qs hk
    obtain ⟨v0,ev0,ow0,_⟩:=f.ow j _ q0
    obtain ⟨a0,xs,f0,rfl,_,hx,_⟩:=own_lst.mp ow0
    refine ⟨.ref a0,ev0,.inl ⟨rfl,xs,SqL.of hx⟩,.ref p,ep,h ρ σ S H _ ds ⟨A,Λ,Φ,f⟩ qa fun us S1 H1 z1 d1=>?_⟩
    obtain ⟨p',ep',hp1,sp1,_,_,up1⟩:=(f.ext z1).dicO qs hk
    rw [ep] at ep'
    cases ep'
    rw [OZ]
    refine ⟨by rw [Ow,<- d1.length,hn ρ ds qa],S1,p,ks,ds,us,_,_,rfl,z1.sub,hp1,sp1,d1,B0 qm p,fun v fp S2 H2 z2 ow nd n=>?_⟩
    have f2:=(up1 ks').ext z2
    have q0':(ρ.set i (reD ks' s))[j]? = some (.ow (.lst l)):=by rw [Pg (OQ hji)];exact q0
    obtain ⟨a1,xs1,g1,e1,hx1,hw1,nd1,in1,up⟩:=f2.at (is:=[]) q0' (by unfold dD;rfl) ev0 rfl
    cases e1
    obtain ⟨b,zs,f3,rfl,rfl,hb,hz⟩:=own_lst.mp ow
    obtain ⟨dz,rfl⟩:=eU hz
    obtain ⟨na,ng⟩:=OL.mp nd1
    refine ⟨a0,b,xs1,zs,rfl,rfl,hx1,.inl hb,?_,?_⟩
    ·rw [<- hw1.length,<- dz.length]
     rw [Os] at hl
     exact O4 (Pf hl eR)
    ·have fin:=up (l ++ ds'.map .sh) (xs1 ++ zs) g1 (fun H' ne=>by
      have:=(hw1.mono (H':=H') (Same.refl _) fun b hb=>ne b fun z=>na (z ▸ hb)).append (lf (H:=H') dz)
      rw [OZ] at this
      exact this) nd1 fun b hb=>.inl hb
     exact k σ S2 _ (by unfold iL at fin;exact fin) (z1.sh.trans z2.sh)
   ·cases y
  ·cases y
 ·cases y
end
end M
namespace L2
open PySem
theorem GN:bootBuiltins "dict" = some (.type "dict"):=by decide +kernel
end L2
namespace M
open PySem L2
theorem bJ {K:W.Frag} {a:Addr} {o:Obj} {its:Array Value} {n:Nat} {xs:List V} {l:List D} (h:K.lookup a = some o) (hc:o.cls = .type "tuple") (hd:o.data = .seq its n) (hs:its.size <= sizeLine) (hv:Vals xs its.toList) (hD:∀ S,Dens K S l xs) (S:Hp):Den K S (.mtp l) (.ref a):=
 den_mtp.mpr ⟨a,xs,rfl,(show SqT K S a xs from .inr ⟨o,its,n,h,hc,hd,hs,hv⟩),hD S⟩
end M
namespace L2
open PySem PySem.Spec PyProof.Rows
section
variable {X:Cx} {tg:Expr}
end
end L2
namespace M
open PySem L2
section
variable {K:W.Frag} {S S' H H':Hp}
noncomputable def La:List D -> Option (List D)
 | [.lst l]=>some l.reverse | _=>none
@[simp] noncomputable def Nz (a:XA):XA:=fun ρ=>(a ρ).bind La
end
end M
namespace L2
open PySem PySem.Spec PyProof.Rows
section
variable {X:Cx} {CX:CXT} {k:Nat} {f:Addr} {fd:FuncData} {ps:List Str} {sp:Sp} {E:XK} {x y:Str} {p cpos pos pos':Pos} {e:Expr} {es:List Expr} {t:TA}
end
section
variable {X:Cx} {body suite:List Stmt} {b0:Stmt} {x n:Str} {i:Nat} {L:List Str} {tx:XK -> St -> Hp -> Prop} {tu ts:TS} {np hp pos:Pos}
end
end L2
namespace M
open PySem L2
section
variable {K:W.Frag} {S S' H H':Hp}
@[simp] noncomputable def NC (L:List Str) (i:Nat) (n:List D -> Option Str) (a:XA) (m:XS) (l:List (Nat × List (List (Str × Bool)))):XS:=fun ρ=>if i < ρ.length then (match (a ρ).bind n with
 | some N=>if L.contains N then (ED i N l (ρ.set i .un)).map fun ρ'=>.nx (ρ'.set i .un) else none
 | none=>(match m ρ with | some (.nx ρ')=>some (.nx ρ') | _=>none)) else none
end
end M
namespace L2
open PySem PySem.Spec PyProof.Rows
end L2
namespace M
open PySem L2
section
variable {K:W.Frag} {S S' H H':Hp}
@[simp] noncomputable def Nn (i:Nat) (m:XS):XS:=fun ρ=>match (ρ[i]?).bind ksO with | some ks=>m (ρ.set i (.sh (.dif ks))) | none=>m ρ
@[simp] noncomputable def Nl (i:Nat) (x:XG) (m:XS):XS:=f8 (mR i) x m
end
end M
namespace ST
open PySem PySem.SetTable
def Ris (xs:Array Nat):Prop:=∀ (i j a b:Nat),i < j -> xs[i]? = some a -> xs[j]? = some b -> a < b
theorem sg {xs:Array Nat} {j:Nat} (r:Ris xs):∀ (fuel lo hi:Nat),lo <= hi -> hi <= xs.size -> hi - lo <= fuel -> (∀ i a,i < lo -> xs[i]? = some a -> a < j) -> (∀ i a,hi <= i -> xs[i]? = some a -> j <= a) ->
  below.go xs j fuel lo hi <= xs.size /\ (∀ i a,i < below.go xs j fuel lo hi -> xs[i]? = some a -> a < j) /\ (∀ i a,below.go xs j fuel lo hi <= i -> xs[i]? = some a -> j <= a)
 | 0,lo,hi,h1,h2,h3,h4,h5=>by
  have:hi = lo:=by lia
  subst this
  exact ⟨h2,h4,h5⟩
 | fuel + 1,lo,hi,h1,h2,h3,h4,h5=>by
  unfold below.go
  by_cases h:lo < hi
  ·rw [Oj h]
   dsimp only
   have hm:(lo + hi) / 2 < xs.size:=by lia
   have em:xs[(lo + hi) / 2]? = some xs[(lo + hi) / 2]:=Ps hm
   have eg:xs.getD ((lo + hi) / 2) j = xs[(lo + hi) / 2]:=by simp [Array.getD,hm]
   rw [eg]
   by_cases hc:xs[(lo + hi) / 2] < j
   ·rw [Oj hc]
    refine sg r fuel _ hi (by lia) h2 (by lia) (fun i a hi' e=>?_) h5
    by_cases e2:i = (lo + hi) / 2
    ·subst e2
     rw [em] at e
     cases e
     exact hc
    ·exact Q6 (r i ((lo + hi) / 2) a _ (by lia) e em) hc
   ·rw [Oi hc]
    refine sg r fuel lo _ (by lia) (by lia) (by lia) h4 fun i a hi' e=>?_
    by_cases e2:i = (lo + hi) / 2
    ·subst e2
     rw [em] at e
     cases e
     exact QX hc
    ·exact O4 (Pf (QX hc) (r ((lo + hi) / 2) i _ a (by lia) em e))
  ·rw [Oi h]
   have:hi = lo:=by lia
   subst this
   exact ⟨h2,h4,h5⟩
theorem mW {xs:Array Nat} (r:Ris xs) (j:Nat):below xs j <= xs.size /\ (∀ i a,i < below xs j -> xs[i]? = some a -> a < j) /\ (∀ i a,below xs j <= i -> xs[i]? = some a -> j <= a):=
 sg r xs.size 0 xs.size (O9 _) (Op _) (by lia) (fun i a h=>absurd h (Nat.not_lt_zero _)) fun i a h e=>absurd (QP.mp e).1 (Nat.not_lt.mpr h)
theorem Ab {xs:Array Nat} (r:Ris xs) {i a:Nat} (h:xs[i]? = some a):below xs (a + 1) = i + 1:=by
 obtain ⟨h1,h2,h3⟩:=mW r (a + 1)
 have hi:=(QP.mp h).1
 apply Nat.le_antisymm
 ·apply QX
  intro hn
  have hs:i + 1 < xs.size:=by lia
  have:=h2 (i + 1) _ hn (Ps hs)
  have:=r i (i + 1) a _ (QF _) h (Ps hs)
  lia
 ·apply QX
  intro hn
  have:=h3 i a (by lia) h
  lia
theorem Ac {xs:Array Nat} (r:Ris xs):below xs 0 = 0:=by
 obtain ⟨h1,h2,h3⟩:=mW r 0
 apply Nat.eq_zero_of_not_pos
 intro hp
 have:=h2 0 _ hp (Ps (OT hp h1))
 lia
theorem wL {α:Type} (xs:Array α) (p:Nat) (x:α) (hp:p <= xs.size) (i:Nat):(insertAt xs p x)[i]? = if i < p then xs[i]? else if i = p then some x else xs[i - 1]?:=by
 unfold insertAt
 have hs:((xs.extract 0 p).push x).size = p + 1:=by rw [Array.size_push,Re];lia
 rw [Array.getElem?_append,hs]
 by_cases h1:i < p
 ·rw [Oj (by lia),Oj h1,Array.getElem?_push]
  have h3:(xs.extract 0 p).size = p:=by rw [Re];lia
  rw [h3,Oi (by lia),Array.getElem?_extract]
  rw [Oj (by lia),Qb]
 ·rw [Oi h1]
  by_cases h2:i = p
  ·subst h2
   have h3:(xs.extract 0 i).size = i:=by rw [Re];lia
   rw [Oj (by lia),Oj rfl,Array.getElem?_push,h3,Oj rfl]
  ·rw [Oi (by lia),Oi h2,Array.getElem?_extract]
   by_cases h4:i - (p + 1) < xs.size - p
   ·rw [Oj (by lia)]
    congr 1
    lia
   ·rw [Oi (by lia),RK (by lia)]
theorem uf {α:Type} (xs:Array α) (p:Nat) (x:α) (hp:p <= xs.size):(insertAt xs p x).toList.Perm (x :: xs.toList):=by
 unfold insertAt
 have e:xs.toList = (xs.extract 0 p).toList ++ (xs.extract p xs.size).toList:=by
  rw [<- PR,Array.extract_append_extract]
  simp [hp]
 rw [PR,Qa,e,OV]
 exact List.perm_middle
theorem Ris.put {xs:Array Nat} (r:Ris xs) {j:Nat} (h:xs[below xs j]? ≠ some j):Ris (insertAt xs (below xs j) j):=by
 obtain ⟨h1,h2,h3⟩:=mW r j
 have gt:∀ i a,below xs j <= i -> xs[i]? = some a -> j < a:=fun i a hi e=>by
  have:=h3 i a hi e
  by_cases q:a = j
  ·subst q
   refine absurd ?_ h
   by_cases e1:i = below xs a
   ·rw [<- e1];exact e
   ·have hb:below xs a < xs.size:=by have:=(QP.mp e).1;lia
    have:=r _ _ _ _ (show below xs a < i by lia) (Ps hb) e
    have:=h3 _ _ (Op _) (Ps hb)
    lia
  ·lia
 intro i k a b hik ha hb
 rw [wL _ _ _ h1] at ha hb
 split at ha
 ·rename_i i1
  split at hb
  ·exact r i k a b hik ha hb
  ·split at hb
   ·cases hb
    exact h2 i a i1 ha
   ·exact r i (k - 1) a b (by lia) ha hb
 ·rename_i i1
  split at ha
  ·cases ha
   rw [Oi (by lia),Oi (by lia)] at hb
   exact gt _ _ (by lia) hb
  ·rw [Oi (by lia),Oi (by lia)] at hb
   exact r (i - 1) (k - 1) a b (by lia) ha hb
theorem B6 {α:Type} [BEq α] [LawfulBEq α]:∀ {l m:List α},l.Nodup -> (∀ a ∈ l,a ∈ m) -> l.length = m.length -> m.Perm l
 | [],m,_,_,h=>by
  have:m = []:=Rj h.symm
  subst this
  exact .refl _
 | a :: l,m,nd,hs,h=>by
  have ha:=hs a Oq
  have nd':=OL.mp nd
  refine (List.perm_cons_erase ha).trans (.cons a (B6 nd'.2 (fun b hb=>?_) ?_))
  ·exact (R7 (fun z:b = a=>nd'.1 (z ▸ hb))).mpr (hs b (Ou _ hb))
  ·rw [R8 ha]
   rw [Ow] at h
   lia
theorem BU {m:Nat} (f:Full m):∀ (hs:List Int) (k:Nat) (owner:Array (Option Nat)),LOk m k owner -> k + hs.length <= m -> (∀ i,i < k -> ∃ j,j <= m /\ owner.getD j none = some i) ->
  ∃ owner',hs.foldl (fun (acc:Option (Array (Option Nat) × Nat)) h=>do
   let (owner,k) ← acc
   let j ← layClean.free m owner (turns m) (bits h % (m + 1)) (bits h)
   pure (owner.setIfInBounds j (some k),k + 1)) (some (owner,k)) = some (owner',k + hs.length) /\ LOk m (k + hs.length) owner' /\ ∀ i,i < k + hs.length -> ∃ j,j <= m /\ owner'.getD j none = some i
 | [],k,owner,o,_,h=>⟨owner,rfl,o,h⟩
 | h :: hs,k,owner,o,hk,hown=>by
  rw [Ow] at hk ⊢
  obtain ⟨j0,hj0,e0⟩:=o.empty (by lia)
  obtain ⟨n,hn,e⟩:=uS f (bits h % (m + 1),bits h) (Nat.le_of_lt_succ (Nat.mod_lt _ (QI _))) (GM h) hj0
  obtain ⟨j,ej,hj⟩:=ve e0 (turns m) n (bits h % (m + 1),bits h) (by unfold turns;lia) e
  have hs':=o.size
  have hjm:j < m + 1:=by
   apply Rc
   intro hn
   simp [Array.getD,hs',hn] at hj
  have hj0:owner.getD j none = none:=by
   simp [Array.getD,hs',hjm] at hj ⊢
   exact hj
  have gd:∀ i,(owner.setIfInBounds j (some k)).getD i none = if i = j then some k else owner.getD i none:=fun i=>by
   by_cases e:i = j
   ·subst e
    simp [Array.getD,hs',hjm]
   ·rw [Oi e]
    rw [RG,RG,Array.getElem?_setIfInBounds_ne (OQ e)]
  obtain ⟨ow,h1,h2,h3⟩:=BU f hs (k + 1) _ (o.set hj) (by lia) fun i hi=>by
   by_cases q:i = k
   ·exact ⟨j,by lia,by rw [gd,Oj rfl,q]⟩
   ·obtain ⟨j',hj',e'⟩:=hown i (by lia)
    refine ⟨j',hj',?_⟩
    rw [gd,Oi (fun z=>by rw [z,hj0] at e';cases e')]
    exact e'
  refine ⟨ow,?_,by rw [show k + (hs.length + 1) = k + 1 + hs.length by lia];exact h2,by rw [show k + (hs.length + 1) = k + 1 + hs.length by lia];exact h3⟩
  rw [OP,show k + (hs.length + 1) = k + 1 + hs.length by lia,<- h1]
  congr 1
  show ((layClean.free m owner (turns m) (bits h % (m + 1)) (bits h)).bind fun j=>some (owner.setIfInBounds j (some k),k + 1)) = _
  rw [ej]
  rfl
theorem A8 {β:Type} (g:Nat -> Option β):∀ (l:List Nat),l.Pairwise (· < ·) -> ((l.filterMap fun j=>(g j).map (j,·)).map (·.1)).Pairwise (· < ·)
 | [],_=>.nil
 | a :: l,h=>by
  have h':=PH.mp h
  rw [OW]
  cases q:g a with
  | none=>exact A8 g l h'.2
  | some b=>
   refine PH.mpr ⟨fun x hx=>?_,A8 g l h'.2⟩
   obtain ⟨⟨y,z⟩,hy,rfl⟩:=OI.mp hx
   obtain ⟨w,hw,e⟩:=Rr.mp hy
   cases q2:g w with
   | none=>rw [q2] at e;cases e
   | some v=>
    rw [q2] at e
    cases e
    exact h'.1 _ hw
theorem JN {l:List Nat} (h:l.Pairwise (· < ·)):Ris l.toArray:=fun i j a b hij ha hb=>by
 rw [List.getElem?_toArray] at ha hb
 obtain ⟨h1,rfl⟩:=O5.mp ha
 obtain ⟨h2,rfl⟩:=O5.mp hb
 exact Rx.mp h i j h1 h2 hij
theorem ET {m finger moves:Nat} {led plain:Bool} (f:Full m) (hs:Array Int) (h:hs.size <= m):∃ t order,laid m finger moves led plain hs = some (t,order) /\ t.mask = m /\ t.dummies = #[] /\ t.place.size = hs.size /\ Ris t.place /\ order.toList.Perm (List.range hs.size) /\ t.led = led /\ t.plain = plain:=by
 have gd:∀ i,(Array.replicate (m + 1) (none:Option Nat)).getD i none = none:=fun i=>by simp [Array.getD]
 have o0:LOk m 0 (Array.replicate (m + 1) none):=by
  refine ⟨Array.size_replicate,?_,fun j v hv=>by rw [gd] at hv;cases hv⟩
  unfold liv
  rw [Qo,List.filterMap_eq_nil_iff]
  intro a _
  rw [gd]
  rfl
 obtain ⟨ow,h1,h2,h3⟩:=BU f hs.toList 0 _ o0 (by rw [O0];lia) fun i hi=>absurd hi (Nat.not_lt_zero _)
 rw [Qb,O0] at h2 h3
 have e:layClean m hs = some ow:=by
  unfold layClean
  rw [<- Array.foldl_toList]
  refine (OG (Option.map (·.1)) h1).trans rfl
 refine ⟨_,_,by unfold laid;rw [e];rfl,rfl,rfl,?_,?_,?_,rfl,rfl⟩
 ·show ((liv m ow).map (·.1)).toArray.size = _
  rw [OK,Os,h2.len]
 ·exact JN (A8 (fun j=>ow.getD j none) (List.range (m + 1)) List.pairwise_lt_range)
 ·show ((liv m ow).map (·.2)).Perm _
  refine B6 List.nodup_range (fun i hi=>?_) (by rw [RF,Os,h2.len])
  obtain ⟨j,hj,e⟩:=h3 i (PM.mp hi)
  refine OI.mpr ⟨(j,i),Rr.mpr ⟨j,PM.mpr (by lia),by rw [e];rfl⟩,rfl⟩
theorem CV {α:Type} (es:Array α) {order:List Nat} (h:order.Perm (List.range es.size)):(order.filterMap (es[·]?)).Perm es.toList:=by
 refine (h.filterMap _).trans (.of_eq ?_)
 have:∀ l:List α,(List.range l.length).filterMap (l[·]?) = l:=by
  intro l
  induction l with
  | nil=>rfl
  | cons a l ih=>
   rw [Ow,List.range_succ_eq_map,OW]
   show a :: ((List.range l.length).map Nat.succ).filterMap _ = _
   rw [List.filterMap_map]
   exact OG (a :: ·) ih
 have:=this es.toList
 rw [O0] at this
 refine Eq.trans ?_ this
 congr 1
 funext i
 exact (Pp ..).symm
end ST
namespace ST
open PySem PySem.SetTable PyProof.Rows
theorem Da {t:SetTable} {es:Array (Int × Value)} (h:Int) (x:Value) (ok:TOk es.size t) (room:es.size * 5 < t.mask * 3) (r:Ris t.place) :
  ∃ es' t',layNew t es h x = (es',t',false,false) /\ TOk es'.size t' /\ es'.size = es.size + 1 /\ t'.mask = t.mask /\ Ris t'.place /\ t'.led = t.led /\ t'.plain = t.plain /\ es'.toList.Perm ((h,x) :: es.toList):=by
 have hle:es.size <= t.mask:=by lia
 obtain ⟨j0,hj0,e0⟩:=Bh ok.dm (by rw [ok.pl];exact hle)
 obtain ⟨k,hk,ek⟩:=zg ok.msk.full h hj0
 have fr:∃ j,t.slot j = .empty /\ t.freeSlot h = some (j,false):=by
  unfold SetTable.freeSlot
  rcases BO ok.dm (fun _=>h + 1) h (10 * turns t.mask) k (t.probeStart h) hk (by rw [ek];exact e0) with ⟨a,_,h2,h3⟩ | ⟨_,_,_,_,h4,_⟩
  ·refine ⟨_,h2,?_⟩
   have:t.probe (fun _=>h + 1) h (t.probeStart h) = some (.empty (adv t a (t.probeStart h)).j (t.probeStart h).dummy):=h3
   rw [this]
   rfl
  ·lia
 obtain ⟨j,hj,ej⟩:=fr
 have hne:t.place[below t.place j]? ≠ some j:=fun z=>by
  unfold slot at hj
  dsimp only at hj
  rw [Oj (by rw [z];exact beq_self_eq_true _)] at hj
  cases hj
 have hp:below t.place j <= es.size:=by rw [<- ok.pl];exact (mW r j).1
 have ep:t.put j = ({ t with place:=insertAt t.place (below t.place j) j },below t.place j):=by
  unfold SetTable.put
  dsimp only
  rw [Oi (by rw [ok.dm];unfold has;simp)]
 have hf:SetTable.fits { t with place:=insertAt t.place (below t.place j) j } (insertAt es (below t.place j) (h,x)).size = true:=by
  unfold SetTable.fits SetTable.fill
  dsimp only
  rw [dF,dF,ok.pl,ok.dm]
  simp
  lia
 refine ⟨insertAt es (below t.place j) (h,x),{ t with place:=insertAt t.place (below t.place j) j },?_,⟨ok.msk,?_,ok.dm⟩,dF _ _ _,rfl,r.put hne,rfl,rfl,uf _ _ _ hp⟩
 ·unfold layNew
  rw [ej]
  dsimp only
  rw [ep]
  dsimp only
  unfold SetTable.orStandIn
  rw [Oj hf,hf]
  rfl
 ·show (insertAt t.place _ _).size = _
  rw [dF,dF,ok.pl]
theorem zh {t:SetTable} {es:Array (Int × Value)} {wanted:Nat} (hm:Msk (sizeAbove wanted - 1)) (hn:es.size <= sizeAbove wanted - 1) :
  ∃ es' t',relayAll t es wanted = (es',t',false) /\ TOk es'.size t' /\ es'.size = es.size /\ t'.mask = sizeAbove wanted - 1 /\ Ris t'.place /\ t'.led = t.led /\ t'.plain = t.plain /\ es'.toList.Perm es.toList:=by
 obtain ⟨t',order,e1,e2,e3,e4,e5,e6,e7,e8⟩:=ET (finger:=t.finger) (moves:=t.movedTo (sizeAbove wanted - 1)) (led:=t.led) (plain:=t.plain) hm.full (es.map (·.1)) (by rw [Q4];exact hn)
 rw [Q4] at e4 e6
 have er:t.relaid (es.map (·.1)) wanted = some (t',order):=e1
 have hp:(order.filterMap (es[·]?)).toList.Perm es.toList:=by rw [Array.toList_filterMap];exact CV es e6
 have hz:(order.filterMap (es[·]?)).size = es.size:=by rw [<- O0,hp.length_eq,O0]
 have ok:TOk (order.filterMap (es[·]?)).size t':=⟨e2 ▸ hm,by rw [hz];exact e4,e3⟩
 have hf:t'.fits (order.filterMap (es[·]?)).size = true:=ok.fits (by rw [hz,e2];exact hn)
 refine ⟨order.filterMap (es[·]?),t',?_,ok,hz,e2,e5,e7,e8,hp⟩
 unfold relayAll
 rw [er]
 dsimp only
 rw [Oj]
 rw [hf,Bool.and_true]
 unfold coversAll
 exact List.isPerm_iff.mpr e6
def SetI (prog:Program) (w:World) (h:Heap) (a:Addr) (led:Bool) (ks:List Int):Prop:=∃ o es ep t,h.get? a = some o /\ o.ExactSet /\ o.data = .set es ep t /\ TOk es.size t /\ es.size * 5 < t.mask * 3 /\ Ris t.place /\ t.plain = true /\ t.led = led /\ ElemsOf (intKind prog w) es.toList /\ ∃ ms,IntsAre (es.toList.map (·.2)) ms /\ ms.Perm ks
theorem oD {vs us:List Value} (p:us.Perm vs):∀ {ns:List Int},IntsAre vs ns -> ∃ ms,IntsAre us ms /\ ms.Perm ns:=by
 induction p with
 | nil=>intro ns h;exact ⟨ns,h,.refl _⟩
 | cons x _ ih=>
  intro ns h
  cases h with
  | cons n t h=>
   obtain ⟨ms,h1,h2⟩:=ih h
   exact ⟨n :: ms,.cons n t h1,.cons _ h2⟩
 | swap x y l=>
  intro ns h
  cases h with
  | cons n t h=>
   cases h with
   | cons m t' h=>exact ⟨m :: n :: _,.cons m t' (.cons n t h),.swap _ _ _⟩
 | trans _ _ ih1 ih2=>
  intro ns h
  obtain ⟨ms,h1,h2⟩:=ih2 h
  obtain ⟨ks,h3,h4⟩:=ih1 h1
  exact ⟨ks,h3,h4.trans h2⟩
section
variable {prog:Program} {w:World} {A:Around} {E:Value -> Shared -> Prop} {s:Shared}
theorem wM {k:Int}:∀ {l:List (Int × Value)} {ms:List Int},IntsAre (l.map (·.2)) ms -> ((∃ e ∈ l,(intKind prog w).is k e.2 = true) ↔ k ∈ ms)
 | [],_,h=>by
  cases h
  simp
 | (h',v) :: l,ms,h=>by
  cases h with
  | cons n t h=>
   have e1:(intKind prog w).is k (.int n t) = decide (k = n):=KeyKind.is_eq_decide (intKind_is _ _ _ _) k
   rw [Oy,<- wM h]
   constructor
   ·rintro ⟨e,he,q⟩
    rcases Oy.mp he with rfl | he
    ·rw [e1] at q
     exact .inl (Qc q)
    ·exact .inr ⟨e,he,q⟩
   ·rintro (rfl | ⟨e,he,q⟩)
    ·exact ⟨_,Oq,by rw [e1];exact Pb rfl⟩
    ·exact ⟨e,Ou _ he,q⟩
theorem Be {a:Addr} {led:Bool} {ks:List Int} {k:Int} {tk:Tok} {Q:Bool -> Shared -> Prop} (hS:SetI prog w s.heap a led ks) (hn:ks.length < 300)
  (h:∀ h' tk' r,SetI prog w h' a led (if ks.any (· == k) then ks else ks ++ [k]) -> (∀ b,b ≠ a -> h'.get? b = s.heap.get? b) -> Q r { s with heap:=h',toks:=tk' }):wpAny (model prog w) A (setAdd a (.int k tk)) Q E s:=by
 obtain ⟨o,es,ep,t,ho,hex,hd,ok,room,ris,pl,le,hel,ms,hi,hp⟩:=hS
 have hsz:es.size = ks.length:=by
  have:=hi.length
  rw [Os,O0] at this
  rw [this,hp.length_eq]
 have hle:es.size <= t.mask:=by lia
 have hf:=ok.fits hle
 have hsc:(Value.int k tk).scannable = true:=rfl
 have hkey:(intKind prog w).is k (.int k tk) = true:=intKind_is _ _ _ _
 have hb:es.size < scanBound:=by rw [hsz];show _ < 4096;lia
 unfold setAdd
 refine O8 ?_
 refine Oh ((intKind prog w).pyHash (k:=k) hkey ?_)
 unfold setAddHashed setAddHashedIn
 refine O8 (Oh (RL ho hd hf ?_))
 dsimp only
 rw [byScan_of hsc hb hel]
 simp only [↓reduceIte]
 unfold setAddByScan
 refine Oh ?_
 refine Oh (Pn ?_)
 refine Oh (wpAny_setScan_of hkey ho hd hf hel ?_)
 cases hr:List.findIdx? (fun e=>(intKind prog w).is k e.2) es.toList with
 | some j=>
  dsimp only
  obtain ⟨hj,hpj,_⟩:=List.findIdx?_eq_some_iff_getElem.mp hr
  have hm:k ∈ ks:=hp.mem_iff.mp ((wM hi).mp ⟨es.toList[j],List.getElem_mem hj,hpj⟩)
  refine Om (Om ?_)
  refine h s.heap _ _ ?_ fun _ _=>rfl
  rw [Oj (List.any_eq_true.mpr ⟨k,hm,by simp⟩)]
  exact ⟨o,es,ep,t,ho,hex,hd,ok,room,ris,pl,le,hel,ms,hi,hp⟩
 | none=>
  dsimp only
  have hm:k ∉ ks:=fun z=>by
   obtain ⟨e,he,q⟩:=(wM (prog:=prog) (w:=w) hi).mpr (hp.mem_iff.mpr z)
   have:=List.findIdx?_eq_none_iff.mp hr e he
   rw [q] at this
   exact Bool.noConfusion this
  have hany:¬ ks.any (· == k) = true:=fun z=>by
   obtain ⟨x,hx,e⟩:=List.any_eq_true.mp z
   rw [eq_of_beq e] at hx
   exact hm hx
  obtain ⟨es1,t1,e1,ok1,z1,m1,r1,l1,p1,pm1⟩:=Da ((intKind prog w).hash k) (.int k tk) ok room ris
  rw [e1]
  dsimp only
  refine Oh (Om ?_)
  rw [p1,pl]
  rw [Oj rfl]
  refine Oh ?_
  rw [hashByValue_scannable 8 hsc]
  refine Om ?_
  have hpk:plainKind (Value.int k tk) = true:=rfl
  rw [hpk,Oj rfl]
  have hel1:ElemsOf (intKind prog w) es1.toList:=(hel.push hkey hsc).perm (pm1.trans (List.perm_append_singleton _ _).symm)
  have hi1:IntsAre (((intKind prog w).hash k,Value.int k tk) :: es.toList |>.map (·.2)) (k :: ms):=.cons k tk hi
  obtain ⟨ms1,hi1',hp1⟩:=oD (pm1.map (·.2)) hi1
  have hpk1:ms1.Perm (ks ++ [k]):=hp1.trans ((hp.cons k).trans (List.perm_append_singleton _ _).symm)
  have fits1:es1.size <= sizeLine:=by rw [z1,OJ];lia
  refine Oh (wpAny_storeSet_of ho hd ?_ fits1)
  have hg1:(s.heap.update a (Obj.putSet es1 t1)).get? a = some { o with data:=.set es1 (ep + 1) t1 }:=by
   have:=Pd (Obj.putSet es1 t1) ho (by rw [putSet_of es1 t1 hd];rfl)
   rw [putSet_of es1 t1 hd] at this
   exact this
  have hz1:t1.fill = es.size + 1:=by
   unfold SetTable.fill
   rw [ok1.dm,ok1.pl,z1]
   rfl
  by_cases htf:t1.tooFull = true
  ·rw [Oj (by rw [htf];rfl)]
   have hfu:t.mask * 3 <= (es.size + 1) * 5:=by
    unfold SetTable.tooFull at htf
    have:=Qc htf
    rw [hz1,m1] at this
    exact this
   obtain ⟨g1,g2,g3⟩:=Ma ok.msk room hfu (by lia)
   obtain ⟨es2,t2,e2,ok2,z2,m2,r2,l2,p2,pm2⟩:=zh (t:=t1) (es:=es1) (wanted:=grown es1.size) (by rw [z1];exact g1) (by rw [z1];lia)
   rw [e2]
   dsimp only
   refine Oh (Om ?_)
   refine Oh (wpAny_storeSet_of hg1 rfl ?_ (by rw [z2];exact fits1))
   refine Om (Om ?_)
   have hg2:((s.heap.update a (Obj.putSet es1 t1)).update a (Obj.putSet es2 t2)).get? a = some { o with data:=.set es2 (ep + 1 + 1) t2 }:=by
    have:=Pd (Obj.putSet es2 t2) hg1 (by rw [putSet_of es2 t2 rfl];rfl)
    rw [putSet_of es2 t2 rfl] at this
    exact this
   obtain ⟨ms2,hi2,hp2⟩:=oD (pm2.map (·.2)) hi1'
   refine h _ _ _ ?_ fun b hb=>?_
   ·rw [Oi hany]
    refine ⟨_,es2,_,t2,hg2,hex,rfl,ok2,?_,r2,by rw [p2,p1,pl],by rw [l2,l1,le],hel1.perm pm2,ms2,hi2,hp2.trans hpk1⟩
    rw [z2,m2,z1]
    exact g2
   ·rw [Px _ _ _ _ hb,Px _ _ _ _ hb]
  ·rw [Oi (by simpa using htf)]
   refine Om (Om ?_)
   refine h _ _ _ ?_ fun b hb=>Px _ _ _ _ hb
   rw [Oi hany]
   refine ⟨_,es1,_,t1,hg1,hex,rfl,ok1,?_,r1,by rw [p1,pl],by rw [l1,le],hel1,ms1,hi1',hpk1⟩
   unfold SetTable.tooFull at htf
   have:¬ t1.fill * 5 ≥ t1.mask * 3:=fun z=>htf (Pb z)
   rw [hz1] at this
   rw [z1]
   lia
theorem FZ {h:Heap} {led:Bool}:SetI prog w (h.push { cls:=.type "set",dict:=none,data:=.set #[] 0 (.fresh 0 0 led) }) h.objs.size led []:=
 ⟨_,#[],0,.fresh 0 0 led,OO _ rfl,⟨rfl,rfl,rfl⟩,rfl,⟨.inl rfl,rfl,rfl⟩,show 0 * 5 < 7 * 3 by decide,fun i j a b _ e=>by simp [SetTable.fresh] at e,rfl,rfl,fun e he=>by simp at he,[],.nil,.nil⟩
end
section
variable {prog:Program} {w:World} {A:Around} {R:Result -> Shared -> Prop} {I:Addr} {fp wr:List Addr} {n:Nat} {P:Nat -> Value -> Prop} {St:Nat -> Heap -> Prop} {led:Bool}
theorem SetI.kept {h h':Heap} {a:Addr} {ks:List Int} (x:SetI prog w h a led ks) (k:∀ o,h.get? a = some o -> h'.get? a = some o):SetI prog w h' a led ks:=by
 obtain ⟨o,es,ep,t,ho,r⟩:=x
 exact ⟨o,es,ep,t,k o ho,r⟩
theorem wF (l:List Int):(M.eD l).length <= l.length:=by
 have key:∀ (l a:List Int),(l.foldl M.gU a).length <= a.length + l.length:=by
  intro l
  induction l with
  | nil=>intro a;exact Op _
  | cons x l ih=>
   intro a
   refine OD (ih _) ?_
   unfold M.gU
   rw [Ow]
   split
   ·lia
   ·rw [Ov,Pv];lia
 have:=key l []
 rw [RB,Qb] at this
 exact this
theorem CU (ns:List Int) {i:Nat} (hi:i < ns.length):M.eD (ns.take (i + 1)) = M.gU (M.eD (ns.take i)) ns[i]:=by
 have:ns.take (i + 1) = ns.take i ++ [ns[i]]:=by simp
 rw [this]
 unfold M.eD
 rw [Qt]
 rfl
theorem DW (W:Walks prog w A.in1 I fp wr n P St) (S:Addr) (hSf:S ∉ fp) (ns:List Int) (hns:ns.length = n) (hn:n <= 300) (hP:∀ i v,P i v -> ∃ t,v = .int (ns.getD i 0) t) :
  ∀ (k i:Nat) (s:Shared),n - i = k -> i <= n -> St i s.heap -> SetI prog w s.heap S led (M.eD (ns.take i)) ->
   (∀ h' tk,(∀ b o,b ≠ S -> b ∉ wr -> s.heap.get? b = some o -> h'.get? b = some o) -> SetI prog w h' S led (M.eD ns) -> R (.ok (.ret .none)) { s with heap:=h',toks:=tk }) ->
   codeAny (model prog w) A (.builtin "set.update.loop" ⟨[.ref S,.ref I],[]⟩) R s:=by
 have hSw:S ∉ wr:=fun h=>hSf (W.sub _ h)
 intro k
 induction k with
 | zero=>
  intro i s hk hi hst hS hR
  have hin:i = n:=by lia
  subst hin
  refine Qf PyProof.Rows.F.entry_set_update_loop ?_
  rw [Qr Sc _]
  refine Oh (W.done s _ _ hst fun h' tk hk'=>?_)
  refine Om (hR h' tk (fun b o _ hb e=>hk' b o hb e) ?_)
  have:=hS.kept fun o e=>hk' S o hSw e
  rw [QG (by lia)] at this
  exact this
 | succ k ih=>
  intro i s hk hi hst hS hR
  have hlt:i < n:=by lia
  refine Qf PyProof.Rows.F.entry_set_update_loop ?_
  rw [Qr Sc _]
  refine Oh (W.item i s _ _ hlt hst fun v h' tk hv hst' hk'=>?_)
  obtain ⟨t,rfl⟩:=hP i v hv
  have hil:i < ns.length:=by lia
  have eg:ns.getD i 0 = ns[i]:=by simp [hil]
  rw [eg]
  refine Oh (O8 (Be (hS.kept fun o e=>hk' S o hSw e) (by have:=wF (ns.take i);rw [P6] at this;lia) fun h2 tk2 r q1 q2=>?_))
  have q1':SetI prog w h2 S led (M.eD (ns.take (i + 1))):=by rw [CU ns hil];exact q1
  refine Om ⟨Qs Sc _,ih (i + 1) _ (by lia) hlt (W.frame _ _ _ hst' fun b hb o e=>?_) q1' fun h3 tk3 z1 z2=>hR h3 tk3 (fun b o hb hw e=>z1 b o hb hw ?_) z2⟩
  ·show h2.get? b = some o
   rw [q2 b fun z=>hSf (z ▸ hb)]
   exact e
  ·show h2.get? b = some o
   rw [q2 b hb]
   exact hk' b o hw e
end
section
variable {prog:Program} {w:World} {A:Around} {E:Value -> Shared -> Prop} {s:Shared}
theorem F1 (a:Value) {Q₁:Value -> Shared -> Prop}
  (h:Q₁ (.ref s.heap.objs.size) { s with heap:=s.heap.push { cls:=.type "set",dict:=none,data:=.set #[] 0 (.fresh 0 0 (!w.params.followText "set-order")) } }) :
  codeAny (model prog w) A (.call (.builtin "set.__new__") ⟨[.type "set",a],[]⟩) (wants Q₁ E) s:=by
 refine codeAny_of_tree ?_
 show wpAny _ A.in1 (do checkBuiltinCall "set.__new__" ⟨[.type "set",a],[]⟩;again (.builtin "set.__new__" ⟨[.type "set",a],[]⟩)) _ _ s
 refine Oh (Qd (F.newCall_set_1 a) (Om ⟨Qs F.plain_set_new _,Qf F.entry_set_new ?_⟩))
 rw [Qr F.plain_set_new _]
 unfold Builtin.«set.__new__» Builtin.Frozenset.newClass
 have hsub:=sub_set_self
 obtain ⟨hp,g,d,tk,os⟩:=s
 dsimp only
 wp_walk
 refine Rk (Om ?_)
 dsimp only
 simp only [newObj]
 refine Oh (wpAny_alloc (Om ?_))
 exact Om h
theorem rK {l:Addr} {items:Array Value} {ns:List Int} {Q:Value -> Shared -> Prop}
  (hh:A.handled = none) (hl:s.heap.IsList l items) (hns:ns.length = items.size) (hn:items.size <= 300) (hi:IntsAre items.toList ns)
  (h:∀ (h':Heap) (tk:Nat),SetI prog w h' s.heap.objs.size (!w.params.followText "set-order") (M.eD ns) -> (∀ b o,s.heap.get? b = some o -> h'.get? b = some o) -> Q (.ref s.heap.objs.size) { s with heap:=h',toks:=tk }) :
  wpAny (model prog w) A (call (.type "set") [.ref l]) Q E s:=by
 obtain ⟨c,tl,hmro⟩:=Qh.mro
 have hmade:=Qh.made
 have hsub:=Qh.sub
 generalize eled:(!w.params.followText "set-order") = led at h
 refine wpAny_call (codeAny_of_tree ?_)
 show wpAny _ _ (callAny (.type "set") _) _ _ _
 refine Om ⟨Code.quiet_builtin _ (by decide +kernel),Qf F.entry_type_call ?_⟩
 rw [Around.under_plain (weight_type_call_type "set" [.ref l] []) rfl]
 have h1:=Qh.notType
 have h2:=Qh.canCreate
 have hct:=F.typeCall_set_1 (.ref l)
 repeat (any_goals (first | assumption | wp_step))
 refine QU (F1 (.ref l) (E:=E) (Q₁:=fun obj s₁=>obj = .ref s.heap.objs.size /\ s₁ = { s with heap:=s.heap.push { cls:=.type "set",dict:=none,data:=.set #[] 0 (.fresh 0 0 led) } }) ⟨rfl,by rw [eled]⟩) fun r s₁ hr=>?_
 cases r with
 | error e=>exact hr
 | ok fl=>
  cases fl with
  | ret obj=>
   obtain ⟨rfl,rfl⟩:=hr
   have hS:(s.heap.push { cls:=.type "set",dict:=none,data:=.set #[] 0 (.fresh 0 0 led) }).get? s.heap.objs.size = some { cls:=.type "set",dict:=none,data:=.set #[] 0 (.fresh 0 0 led) }:=OO _ rfl
   have hT:Shared.TypeIs { s with heap:=s.heap.push { cls:=.type "set",dict:=none,data:=.set #[] 0 (.fresh 0 0 led) } } (.ref s.heap.objs.size) "set" := ⟨_,hS,rfl⟩
   have hli:=Qh.init.lookup
   have hbi:=Qh.init.bind (.ref s.heap.objs.size)
   repeat (any_goals (first | assumption | wp_step))
   refine QU (R5 (R:=wants (fun r s₂=>r = .none /\ ∃ h' tk,s₂ = { s with heap:=h',toks:=tk } /\ SetI prog w h' s.heap.objs.size led (M.eD ns) /\ (∀ b o,s.heap.get? b = some o -> h'.get? b = some o)) E) Qh.init.plain F.entry_set_init (check_set_init_1 hT ?_)) fun r₂ s₂ hr₂=>?_
   ·obtain ⟨ol,hol,hcl,nl,hdl⟩:=hl
    obtain ⟨ocls,odict,odata,oslots⟩:=ol
    simp only at hcl hdl
    subst hcl;subst hdl
    have hol':(s.heap.push { cls:=.type "set",dict:=none,data:=.set #[] 0 (.fresh 0 0 led) }).get? l = some { cls:=.type "list",dict:=odict,data:=.seq items nl,slots:=oslots }:=OA _ hol
    have hsls:=F.sub_list_set
    have hslf:=F.sub_list_frozenset
    have hne:(Value.type "list" == Value.type "dict") = false:=by decide
    have hl1:(s.heap.push { cls:=.type "set",dict:=none,data:=.set #[] 0 (.fresh 0 0 led) }).IsList l items:=⟨_,hol',rfl,nl,rfl⟩
    unfold Builtin.«set.__init__» noKeywords Builtin.Frozenset.updateFrom
    generalize hPI:pyIter = PI
    wp_walk
    subst hPI
    refine wpAny_pyIter_list hl1 ?_
    refine Oh (wpAny_runValue ?_)
    have hlS:l < s.heap.objs.size:=Oz hol
    have hh3:A.in1.in1.in1.handled = none:=by simp [hh]
    have hneI:l ≠ (s.heap.push { cls:=.type "set",dict:=none,data:=.set #[] 0 (.fresh 0 0 led) }).objs.size:=by
     rw [QY];exact OE (QB hlS)
    have hSf:s.heap.objs.size ∉ [(s.heap.push { cls:=.type "set",dict:=none,data:=.set #[] 0 (.fresh 0 0 led) }).objs.size,l]:=by
     rw [QY];simp only [Oy,Ot,Q7,or_false,not_or]
     exact ⟨OE (QF _),P5 hlS⟩
    refine DW (led:=led) (Walks.list hh3 _ l hneI items) s.heap.objs.size hSf ns hns hn (fun i v hv=>IntsAre.int_at hi i v (by rw [Pp];exact hv)) (items.size - 0) 0 _ (by lia) (O9 _)
     ⟨⟨_,OO _ rfl,rfl,rfl⟩,(hl1.push _)⟩ ?hS0 ?hR
    case hS0=>
     rw [List.take_zero]
     exact (FZ (h:=s.heap) (led:=led)).kept fun o e=>OA _ e
    case hR=>
     intro h' tk' hk' hS'
     show wpAny _ _ _ _ _ _
     refine Om ?_
     show wpAny _ _ (ret Value.none) _ _ _
     refine Om ⟨rfl,h',tk',rfl,hS',fun b o e=>hk' b o (OE (Oz e)) (fun z=>?_) (OA _ (OA _ e))⟩
     rw [Ot.mp z,QY] at e
     exact absurd (Oz e) (Nat.not_lt.mpr (Nat.le_succ _))
   ·cases r₂ with
    | error e=>exact hr₂
    | ok fl₂=>
     cases fl₂ with
     | ret r=>
      obtain ⟨rfl,h',tk,rfl,hS',hk'⟩:=hr₂
      repeat (any_goals (first | assumption | wp_step))
      exact h _ _ hS' hk'
     | _=>exact hr₂.elim
  | _=>exact hr.elim
end
theorem B7 {α:Type} (next:Nat -> Nat):∀ (fuel k:Nat) (left:List α) (out:Array α),left.length = fuel -> (pickOrder.go next fuel k left out).toList.Perm (out.toList ++ left)
 | 0,k,left,out,h=>by
  have:left = []:=Rj h
  subst this
  rw [OZ]
  exact .refl _
 | fuel + 1,k,left,out,h=>by
  unfold pickOrder.go
  have hm:next k % left.length < left.length:=Nat.mod_lt _ (by lia)
  rw [PF hm]
  dsimp only
  refine (B7 next fuel (k + 1) _ _ (by rw [List.length_eraseIdx,Oj hm];lia)).trans ?_
  rw [Qa,OV]
  refine RV _ ?_
  show (left[next k % left.length] :: left.eraseIdx (next k % left.length)).Perm left
  rw [List.eraseIdx_eq_take_drop_succ]
  refine List.perm_middle.symm.trans (.of_eq ?_)
  rw [<- Q0 hm,Ry]
theorem vG {α:Type} (next:Nat -> Nat) (xs:Array α):(pickOrder next xs).toList.Perm xs.toList:=by
 have:=B7 next xs.size 0 xs.toList #[] (O0 ..)
 exact this
theorem slot_next:Slot "set_iterator" "__next__" "set_iterator.__next__" := .of (owner := "set_iterator") (n := "__next__") (by rw [Qp,Qq];kernel_rfl) (by decide +kernel) (by decide +kernel) (by decide +kernel) (by first | exact .inl (by decide +kernel) | exact .inr (by decide +kernel)) (by rw [QL];kernel_rfl)
theorem rZ:entryFor table "set_iterator.__next__" = some Builtin.«set_iterator.__next__»:=entryFor_of_tree (by kernel_rfl)
theorem uN (a:Value):argsOk "set_iterator.__next__" ⟨[a],[]⟩:=by unfold argsOk;kernel_rfl
theorem vU:Slot "set" "__iter__" "set.__iter__" := .of (owner := "set") (n := "__iter__") (by rw [Qp,Qq];kernel_rfl) (by decide +kernel) (by decide +kernel) (by decide +kernel) (by first | exact .inl (by decide +kernel) | exact .inr (by decide +kernel)) (by rw [QL];kernel_rfl)
theorem Ar:entryFor table "set.__iter__" = some Builtin.«frozenset.__iter__»:=entryFor_alias (id' := "frozenset.__iter__") (by kernel_rfl) (by first | rfl | decide +kernel | (unfold String.splitOn;simp +decide [String.splitOnAux])) (by decide +kernel) (by kernel_rfl)
theorem CF (a:Value):argsOk "set.__iter__" ⟨[a],[]⟩:=by unfold argsOk;kernel_rfl
noncomputable def lz (w:World) (S:Addr) (ep:Nat) (es:Array (Int × Value)):Array (Int × Value):=if w.params.followText "set-order" = true then pickOrder (w.params.setOrder S ep) es else es
def IsSetIt (w:World) (h:Heap) (I S:Addr) (t:SetTable) (n ep i:Nat):Prop:=∃ o slot,h.get? I = some o /\ o.cls = .type "set_iterator" /\ o.data = .fields #[rawInt ((slot:Nat):Int),rawInt ((i:Nat):Int),.ref S,rawInt ((n:Nat):Int),rawInt ((ep:Nat):Int)] /\ (w.params.followText "set-order" = false -> below t.place slot = i)
section
variable {prog:Program} {w:World} {A:Around} {E:Value -> Shared -> Prop} {s:Shared} {I S:Addr} {oS:Obj} {es:Array (Int × Value)} {ep:Nat} {t:SetTable} {i:Nat}
theorem IsSetIt.typeIs {n:Nat} (x:IsSetIt w s.heap I S t n ep i):s.TypeIs (.ref I) "set_iterator" := let ⟨o,_,ho,hc,_⟩:=x;⟨o,ho,hc⟩
theorem HZ {Q:Array (Int × Value) -> Shared -> Prop} (hb:w.params.followText "set-order" = true) (ho:s.heap.get? S = some oS) (hd:oS.data = .set es ep t) (hf:t.fits es.size = true) (h:Q (lz w S ep es) s):wpAny (model prog w) A (setWalk S) Q E s:=by
 unfold setWalk
 refine Oh (RL ho hd hf ?_)
 dsimp only
 unfold setsByText
 refine Oh (Oh (Rk (Om ?_)))
 show wpAny _ _ (if w.params.followText "set-order" = true then _ else _) _ _ _
 rw [Oj hb]
 refine Oh (Rk (Om ?_))
 unfold lz at h
 rw [Oj hb] at h
 exact h
theorem BX {slot:Nat} {Q:Option (Value × Nat) -> Shared -> Prop} (ho:s.heap.get? S = some oS) (hd:oS.data = .set es ep t) (hf:t.fits es.size = true) (hr:Ris t.place) (hl:t.led = !w.params.followText "set-order") (hp:t.plain = true) (hs:w.params.followText "set-order" = false -> below t.place slot = i)
  (h1:∀ e slot',(lz w S ep es)[i]? = some e -> (w.params.followText "set-order" = false -> below t.place slot' = i + 1) -> Q (some (e.2,slot')) s) (h2:(lz w S ep es)[i]? = none -> Q none s):wpAny (model prog w) A (setNext S slot i ep) Q E s:=by
 unfold setNext
 refine Oh (RL ho hd hf ?_)
 dsimp only
 unfold setsByText
 refine Oh (Oh (Rk (Om ?_)))
 show wpAny _ _ (if w.params.followText "set-order" = true then _ else _) _ _ _
 by_cases hb:w.params.followText "set-order" = true
 ·rw [Oj hb,Oi (by simp)]
  refine Oh (HZ hb ho hd hf (Om ?_))
  cases q:(lz w S ep es)[i]? with
  | none=>exact h2 q
  | some e=>exact h1 e slot q fun z=>by rw [hb] at z;cases z
 ·have hb':w.params.followText "set-order" = false:=by simpa using hb
  rw [Oi hb]
  have eo:lz w S ep es = es:=by unfold lz;rw [Oi hb]
  rw [eo] at h1 h2
  rw [hb'] at hl
  show wpAny _ _ (if (!t.plain && decide (es.size > 1)) = true then _ else _) _ _ _
  rw [Oi (by rw [hp];simp)]
  show wpAny _ _ ((if (!t.led && !es.isEmpty) = true then _ else _) >>= _) _ _ _
  rw [Oi (by rw [hl];simp)]
  refine Oh (Om (Om ?_))
  rw [hs hb']
  have hz:t.place.size = es.size:=by
   unfold SetTable.fits at hf
   simp only [Pu,P8] at hf
   exact hf.1
  cases q:es[i]? with
  | none=>exact h2 q
  | some e=>
   have hi:=(QP.mp q).1
   have q2:t.place[i]? = some (t.place[i]'(by lia)):=Ps (by lia)
   rw [q2]
   exact h1 e _ q fun _=>Ab hr q2
end
theorem vV:Slot "set_iterator" "__iter__" "set_iterator.__iter__" := .of (owner := "set_iterator") (n := "__iter__") (by rw [Qp,Qq];kernel_rfl) (by decide +kernel) (by decide +kernel) (by decide +kernel) (by first | exact .inl (by decide +kernel) | exact .inr (by decide +kernel)) (by rw [QL];kernel_rfl)
theorem CG (a:Value):argsOk "set_iterator.__iter__" ⟨[a],[]⟩:=by unfold argsOk;kernel_rfl
theorem As:entryFor table "set_iterator.__iter__" = some Builtin.«dict_keyiterator.__iter__»:=entryFor_alias (id' := "dict_keyiterator.__iter__") (by kernel_rfl) (by first | rfl | decide +kernel | (unfold String.splitOn;simp +decide [String.splitOnAux])) (by decide +kernel) (by kernel_rfl)
theorem Hh:typeLookup (.type "set") "__len__" = pure (some (.builtin "set.__len__")):=by rw [Qp,Qq];kernel_rfl
theorem HV:isSubtype (.type "set") (.type "set") = pure true:=by rw [QL];kernel_rfl
structure WSet (w:World) (h:Heap) (S:Addr) (es:Array (Int × Value)) (ep:Nat) (t:SetTable):Prop where
 at':∃ o,h.get? S = some o /\ o.ExactSet /\ o.data = .set es ep t
 fits:t.fits es.size = true
 ris:Ris t.place
 led:t.led = !w.params.followText "set-order"
 plain:t.plain = true
section
variable {prog:Program} {w:World} {A:Around} {E:Value -> Shared -> Prop} {s:Shared} {I S:Addr} {es:Array (Int × Value)} {ep:Nat} {t:SetTable} {i:Nat}
theorem WSet.kept {h h':Heap} (x:WSet w h S es ep t) (k:∀ o,h.get? S = some o -> h'.get? S = some o):WSet w h' S es ep t:=by
 obtain ⟨⟨o,ho,r⟩,f,a,b,c⟩:=x
 exact ⟨⟨o,k o ho,r⟩,f,a,b,c⟩
theorem sV:(lz w S ep es).size = es.size:=by
 unfold lz
 split
 ·rw [<- O0,(vG _ es).length_eq,O0]
 ·rfl
theorem F0 {Q:Option Value -> Shared -> Prop} (hit:IsSetIt w s.heap I S t es.size ep i) (hS:WSet w s.heap S es ep t) (hi:i < es.size)
  (hQ:∀ e h',(lz w S ep es)[i]? = some e -> IsSetIt w h' I S t es.size ep (i + 1) -> (∀ b,b ≠ I -> h'.get? b = s.heap.get? b) -> Q (some e.2) { s with heap:=h' }):wpAny (model prog w) A (pyNext (.ref I)) Q E s:=by
 obtain ⟨o,slot,ho,hc,hd,hb⟩:=id hit
 obtain ⟨⟨oS,hoS,hex,hdS⟩,hf,hr,hl,hp⟩:=hS
 unfold pyNext
 refine Oh (QZ (Qy (name:=Str.ofString "__next__") hit.typeIs slot_next (Pt slot_next hit.typeIs rZ ?_ (uN _))))
 unfold Builtin.«set_iterator.__next__»
 refine Oh (Qd (a:=(Value.ref I,[])) rfl ?_)
 refine Oh (QS ho hd ?_)
 show wpAny _ _ (setEntries S >>= _) _ _ s
 refine Oh (wpAny_setEntries_of hoS hdS hf ?_)
 rw [Oi (by simp [rawInt])]
 show wpAny _ _ (setNext S ((slot:Nat):Int).toNat ((i:Nat):Int).toNat ((ep:Nat):Int).toNat >>= _) _ _ s
 rw [PV,PV,PV]
 refine Oh (BX hoS hdS hf hr hl hp hb (fun e slot' q hb'=>?_) fun q=>?_)
 ·dsimp only
  refine Oh (Ri ho hd (by simp) ?_)
  have ho1:=Pd (h:=s.heap) (Obj.mapFields (·.setIfInBounds 0 (rawInt slot'))) ho (Rb (Qe hd _))
  have hd1:=Qe hd (·.setIfInBounds 0 (rawInt slot'))
  refine Oh (Ri (s:={ s with heap:=s.heap.update I (Obj.mapFields (·.setIfInBounds 0 (rawInt slot'))) }) ho1 hd1 (by simp) ?_)
  refine Om ⟨e.2,rfl,Om (hQ e _ q ?_ fun b hb2=>?_)⟩
  ·exact ⟨_,slot',Pd _ ho1 (Rb (Qe hd1 _)),(RC ..).trans ((RC ..).trans hc),by rw [Qe hd1];simp [rawInt],hb'⟩
  ·show ((s.heap.update I _).update I _).get? b = _
   rw [Px _ _ _ _ hb2,Px _ _ _ _ hb2]
 ·rw [Array.getElem?_eq_none_iff,sV] at q
  lia
theorem HN {Q:Option Value -> Shared -> Prop} (hh:A.handled = none) (hit:IsSetIt w s.heap I S t es.size ep es.size) (hS:WSet w s.heap S es ep t)
  (hQ:∀ h',Heap.ExtBut I s.heap h' -> Q none { s with heap:=h' }):wpAny (model prog w) A (pyNext (.ref I)) Q E s:=by
 obtain ⟨o,slot,ho,hc,hd,hb⟩:=id hit
 obtain ⟨⟨oS,hoS,hex,hdS⟩,hf,hr,hl,hp⟩:=hS
 unfold pyNext
 refine Oh (QZ (Qy (name:=Str.ofString "__next__") hit.typeIs slot_next (Pt slot_next hit.typeIs rZ ?_ (uN _))))
 unfold Builtin.«set_iterator.__next__»
 refine Oh (Qd (a:=(Value.ref I,[])) rfl ?_)
 refine Oh (QS ho hd ?_)
 show wpAny _ _ (setEntries S >>= _) _ _ s
 refine Oh (wpAny_setEntries_of hoS hdS hf ?_)
 rw [Oi (by simp [rawInt])]
 show wpAny _ _ (setNext S ((slot:Nat):Int).toNat ((es.size:Nat):Int).toNat ((ep:Nat):Int).toNat >>= _) _ _ s
 rw [PV,PV,PV]
 refine Oh (BX hoS hdS hf hr hl hp hb (fun e slot' q hb'=>?_) fun q=>?_)
 ·have:=(QP.mp q).1
  rw [sV] at this
  lia
 ·dsimp only
  refine Oh (Ri ho hd (by simp) ?_)
  show wpAny _ _ (newExc (.type "StopIteration") [] >>= _) _ _ _
  refine Oh ?_
  simp only [newExc,newTuple]
  refine Oh (Pc ?_ (by size_fits))
  refine Oh (m:=firstArgMember _ _) (Qd (a:=Value.none) (by first | rfl | (simp only [firstArgMember];rfl)) ?_)
  refine Pc ?_ (by size_fits)
  simp only [raiseNew]
  refine Oh (wpAny_handled ?_)
  first | rw [show A.in1.handled = none from hh] | rw [hh]
  refine Oh (Om (QM ?_))
  refine Oh (QN (T := "StopIteration") (b:=true) ⟨_,OO _ rfl,rfl⟩ isSubtype_stop ?_)
  exact Om (hQ _ (((Rg ..).extBut.push _).push _))
theorem Gs (hh:A.handled = none) (hne:S ≠ I) (es:Array (Int × Value)) (ep:Nat) (t:SetTable) :
  Walks prog w A I [I,S] [I] es.size (fun i v=>∃ e,(lz w S ep es)[i]? = some e /\ v = e.2) (fun i h=>IsSetIt w h I S t es.size ep i /\ WSet w h S es ep t) where
 sub:=fun b hb=>by simp at hb;simp [hb]
 frame:=fun i h h' st hk=>by
  obtain ⟨⟨o,slot,ho,r⟩,st2⟩:=st
  exact ⟨⟨o,slot,hk I (by simp) o ho,r⟩,st2.kept fun o e=>hk S (by simp) o e⟩
 item:=fun i s Q E hi st hQ=>F0 st.1 st.2 hi fun e h' q it' oth=>by
  have:=hQ e.2 h' s.toks ⟨e,q,rfl⟩ ⟨it',st.2.kept fun o z=>by rw [oth S hne];exact z⟩ (fun b o hb z=>by rw [oth b fun y=>hb (by simp [y])];exact z)
  exact this
 done:=fun s Q E st hQ=>HN hh st.1 st.2 fun h' x=>hQ h' s.toks fun b o hb z=>x b o (fun y=>hb (by simp [y])) z
 self:=fun i s Q E st h=>by
  refine wpAny_pyIter_slot st.1.typeIs vV (Pt vV st.1.typeIs As ?_ (CG _))
  show wpAny _ _ (ret (.ref I)) _ _ s
  exact Om ⟨_,rfl, "set_iterator",_,st.1.typeIs,slot_next.lookup,h⟩
theorem EK {Q:Value -> Shared -> Prop} (hS:WSet w s.heap S es ep t)
  (hQ:Q (.ref s.heap.objs.size) { s with heap:=s.heap.push { cls:=.type "set_iterator",data:=.fields #[rawInt 0,rawInt 0,.ref S,rawInt es.size,rawInt ep] } }):wpAny (model prog w) A (pyIter (.ref S)) Q E s:=by
 obtain ⟨⟨oS,hoS,hex,hdS⟩,hf,hr,hl,hp⟩:=hS
 have hT:s.TypeIs (.ref S) "set" := ⟨oS,hoS,hex.1⟩
 refine wpAny_pyIter_slot hT vU (Pt vU hT Ar ?_ (CF _))
 unfold Builtin.«frozenset.__iter__»
 refine Oh (Qd (a:=S) rfl ?_)
 refine Oh (m:=Builtin.Frozenset.sizeOf S) ?_
 unfold Builtin.Frozenset.sizeOf
 refine Oh (wpAny_setEntries_of hoS hdS hf (Om ?_))
 refine Oh ?_
 unfold setDrawn
 refine Oh (RL hoS hdS hf ?_)
 dsimp only
 unfold setsByText
 refine Oh (Oh (Rk (Om (Om ?_))))
 show wpAny _ _ (if (!w.params.followText "set-order" && (!t.plain && decide (es.size > 1))) = true then _ else _) _ _ _
 rw [Oi (by rw [hp];simp)]
 refine Oh (Om ?_)
 refine Oh (wpAny_setEpoch_of hoS hdS hf ?_)
 refine Oh (Pc (Om ⟨_,rfl, "set_iterator",_,⟨_,OO _ rfl,rfl⟩,slot_next.lookup,hQ⟩))
end
section
variable {prog:Program} {w:World} {A:Around} {E:Value -> Shared -> Prop} {s:Shared} {S:Addr} {es:Array (Int × Value)} {ep:Nat} {t:SetTable}
theorem xV {Q:List Value -> Shared -> Prop} (hh:A.handled = none) (hS:WSet w s.heap S es ep t) (hn:es.size <= 300)
  (hQ:∀ h' tk (vs:List Value),vs.length = es.size -> (∀ (i:Nat) v,vs[i]? = some v -> ∃ e,(lz w S ep es)[i]? = some e /\ v = e.2) -> (∀ b o,s.heap.get? b = some o -> h'.get? b = some o) -> s.heap.objs.size <= h'.objs.size -> Q vs { s with heap:=h',toks:=tk }):wpAny (model prog w) A (collect (.ref S)) Q E s:=by
 obtain ⟨oS,hoS,hex,hdS⟩:=hS.at'
 have hSl:S < s.heap.objs.size:=Oz hoS
 unfold collect
 refine Oh (wpAny_runValue (Qf PySem.F.entry_proto_collect ?_))
 rw [Qr PySem.F.plain_proto_collect _]
 show wpAny _ A.in1 (newList [] >>= fun l=>again (.builtin "list.__iadd__" ⟨[l,.ref S],[]⟩)) _ _ s
 refine Oh (Pc ?_)
 refine Om ⟨Qs PySem.F.plain_list_iadd _,Qf PySem.F.entry_list_iadd ?_⟩
 rw [Qr PySem.F.plain_list_iadd _]
 have hL:(s.heap.push { cls:=.type "list",data:=.seq ([]:List Value).toArray }).get? s.heap.objs.size = some { cls:=.type "list",data:=.seq ([]:List Value).toArray }:=OO _ rfl
 have hS1:WSet w (s.heap.push { cls:=.type "list",data:=.seq ([]:List Value).toArray }) S es ep t:=hS.kept fun o e=>OA _ e
 have h1:Builtin.List.listSameRef (.ref s.heap.objs.size) (.ref S) = false:=by simp [Builtin.List.listSameRef];exact P5 hSl
 show wpAny _ A.in1 (Builtin.List.listExtendWith (.ref s.heap.objs.size) (.ref S) (.ref s.heap.objs.size)) _ _ _
 unfold Builtin.List.listExtendWith
 refine Oh (PN (T := "set") ⟨oS,OA _ hoS,hex.1⟩ ?_)
 rw [Oi (by rw [h1];decide)]
 refine Oh (EK (s:={ s with heap:=s.heap.push { cls:=.type "list",data:=.seq ([]:List Value).toArray } }) hS1 ?_)
 refine Oh (O8 ?_)
 unfold Builtin.List.listLengthHint
 have hT2:Shared.TypeIs { s with heap:=(s.heap.push { cls:=.type "list",data:=.seq ([]:List Value).toArray }).push { cls:=.type "set_iterator",data:=.fields #[rawInt 0,rawInt 0,.ref S,rawInt es.size,rawInt ep] } } (.ref S) "set" := ⟨oS,OA _ (OA _ hoS),hex.1⟩
 refine Oh (wpAny_specialOf hT2 Hh ?_)
 (generalize hid:("set.__len__" : String) = id0;wp_delta;rw [show splitId id0 = some ("set", "__len__") from by subst hid;decide +kernel];subst hid)
 refine Oh (QN (b:=true) hT2 HV ?_)
 rw [Oi (by decide)]
 dsimp only
 rw [Oj (by decide +kernel)]
 refine Oh (PN hT2 ?_)
 dsimp only
 refine Om ?_
 rw [Oj (by decide +kernel)]
 refine Oh (Pn ?_)
 have eI:(s.heap.push { cls:=.type "list",data:=.seq ([]:List Value).toArray }).objs.size = s.heap.objs.size + 1:=QY ..
 have hL2:((s.heap.push { cls:=.type "list",data:=.seq ([]:List Value).toArray }).push { cls:=.type "set_iterator",data:=.fields #[rawInt 0,rawInt 0,.ref S,rawInt es.size,rawInt ep] }).get? s.heap.objs.size = some { cls:=.type "list",data:=.seq ([]:List Value).toArray }:=OA _ hL
 refine Oh (m:=Builtin.List.listTouch (.ref s.heap.objs.size)) ?_
 show wpAny _ _ (updateSeq s.heap.objs.size (·.push .none) >>= fun _=>updateSeq s.heap.objs.size (·.pop)) _ _ _
 refine Oh (Rm hL2 rfl ?_)
 have hL3:=Pd (Obj.mapSeq (·.push Value.none)) hL2 rfl
 refine Rm hL3 rfl ?_
 have hL4:=Pd (Obj.mapSeq (·.pop)) hL3 rfl
 have hoth:∀ b o,b ≠ s.heap.objs.size -> ((s.heap.push { cls:=.type "list",data:=.seq ([]:List Value).toArray }).push { cls:=.type "set_iterator",data:=.fields #[rawInt 0,rawInt 0,.ref S,rawInt es.size,rawInt ep] }).get? b = some o ->
   ((((s.heap.push { cls:=.type "list",data:=.seq ([]:List Value).toArray }).push { cls:=.type "set_iterator",data:=.fields #[rawInt 0,rawInt 0,.ref S,rawInt es.size,rawInt ep] }).update s.heap.objs.size (Obj.mapSeq (·.push Value.none))).update s.heap.objs.size (Obj.mapSeq (·.pop))).get? b = some o:=fun b o hb e=>by
  rw [Px _ _ _ _ hb,Px _ _ _ _ hb]
  exact e
 have hI:s.heap.objs.size + 1 ≠ s.heap.objs.size:=Nat.succ_ne_self _
 have hit:IsSetIt w ((((s.heap.push { cls:=.type "list",data:=.seq ([]:List Value).toArray }).push { cls:=.type "set_iterator",data:=.fields #[rawInt 0,rawInt 0,.ref S,rawInt es.size,rawInt ep] }).update s.heap.objs.size (Obj.mapSeq (·.push Value.none))).update s.heap.objs.size (Obj.mapSeq (·.pop))) (s.heap.objs.size + 1) S t es.size ep 0:=
  ⟨_,0,hoth _ _ hI (by rw [<- eI];exact OO _ rfl),rfl,rfl,fun _=>Ac hS.ris⟩
 have hS4:=hS1.kept (h':=((((s.heap.push { cls:=.type "list",data:=.seq ([]:List Value).toArray }).push { cls:=.type "set_iterator",data:=.fields #[rawInt 0,rawInt 0,.ref S,rawInt es.size,rawInt ep] }).update s.heap.objs.size (Obj.mapSeq (·.push Value.none))).update s.heap.objs.size (Obj.mapSeq (·.pop)))) fun o e=>hoth S o (OE hSl) (OA _ e)
 rw [eI]
 have hne:S ≠ s.heap.objs.size + 1:=OE (QB hSl)
 have hSf:s.heap.objs.size ∉ [s.heap.objs.size + 1,S]:=by
  simp only [Oy,Q7,or_false,not_or]
  exact ⟨OE (QF _),P5 hSl⟩
 refine Om ⟨Qs PySem.F.plain_extend_loop _,codeAny_extend_loopS (Gs (A:=A.in1) (prog:=prog) (w:=w) hh hne es ep t).toS (by rw [OJ];lia) _ hSf _ es.size 0 _ _ _ (Nat.sub_zero _) (O9 _) ⟨hit,hS4⟩ hL4 (ItemsOf.nil _) fun s' acc c hm hL' hacc=>?_⟩
 show wpAny _ A (load s.heap.objs.size >>= _) _ _ s'
 refine Oh (wpAny_load hL' ?_)
 have es':s' = { s with heap:=s'.heap,toks:=s'.toks }:=by
  obtain ⟨h',g',d',tk',os'⟩:=s'
  have e1:=hm.gens
  have e2:=hm.drawn
  have e3:=hm.os
  dsimp only at e1 e2 e3
  rw [e1,e2,e3]
 rw [es']
 refine Om (hQ s'.heap s'.toks acc.toList (by rw [O0];exact hacc.1) (fun i v q=>hacc.2 i v (by rw [<- Pp];exact q)) (fun b o e=>?_) (O4 (Oz hL')))
 have hb:=Oz e
 refine hm.heap b o (fun z=>?_) (hoth b o (OE hb) (OA _ (OA _ e)))
 rcases Oy.mp z with z | z
 ·exact absurd z (OE hb)
 ·rw [Ot] at z
  rw [z] at hb
  exact absurd hb (Nat.not_lt.mpr (Nat.le_succ _))
theorem Bj {ks:List Int} {Q:Value -> Shared -> Prop} (hh:A.handled = none) (hS:SetI prog w s.heap S (!w.params.followText "set-order") ks) (hn:ks.length <= 300)
  (h:∀ h' tk l c (out:Array Value) (ms:List Int),s.heap.objs.size <= l -> h'.get? l = some (seqObj "list" out c) -> IntsAre out.toList ms -> ms.Perm ks -> ms.Pairwise (· <= ·) -> (∀ b o,s.heap.get? b = some o -> h'.get? b = some o) -> Q (.ref l) { s with heap:=h',toks:=tk }) :
  wpAny (model prog w) A (call (.builtin "sorted") [.ref S]) Q E s:=by
 obtain ⟨o,es,ep,t,ho,hex,hd,ok,room,ris,pl,le,hel,ms,hi,hp⟩:=hS
 have hsz:es.size = ks.length:=by
  have:=hi.length
  rw [Os,O0] at this
  rw [this,hp.length_eq]
 have hW:WSet w s.heap S es ep t:=⟨⟨o,ho,hex,hd⟩,ok.fits (by lia),ris,le,pl⟩
 refine Calls.call_function_entry kind_sorted plain_sorted entry_sorted (args_sorted1 (.ref S)) ?_
 unfold Builtin.«sorted»
 refine Oh (m:=checkCount "sorted" 1 1 _) (Om (Oh (xV hh hW (by lia) fun h1 tk1 vs hl hv old1 hge=>?_)))
 have evs:vs = (lz w S ep es).toList.map (·.2):=by
  apply QH
  intro i
  rw [OU,Pp (xs:=lz w S ep es)]
  cases q:vs[i]? with
  | none=>
   rw [QJ,hl] at q
   rw [RK (by rw [sV];exact q)]
   rfl
  | some v=>
   obtain ⟨e,e1,e2⟩:=hv i v q
   rw [e1,e2]
   rfl
 have po:(lz w S ep es).toList.Perm es.toList:=by
  unfold lz
  split
  ·exact vG _ es
  ·exact .refl _
 obtain ⟨ks1,hi1,hp1⟩:=oD (us:=vs) (by rw [evs];exact po.map (·.2)) hi
 have hz:vs.length <= sizeLine:=by rw [hl,OJ];lia
 refine Oh (wpAny_newList ?_ hz)
 have at1:(h1.push (seqObj "list" vs.toArray 0)).get? h1.objs.size = some (seqObj "list" vs.toArray 0):=OO _ rfl
 refine Oh (O8 (Pt slot_list_sort ⟨_,at1,rfl⟩ entry_list_sort (Srt.yB (κ:=oneType') (le:=fun i j=>ks1.getD i 0 <= ks1.getD j 0) (Srt.yU fun i=>ks1.getD i 0) at1 hz (fun h' kp=>Srt.sw hi1) fun p hp2 ha=>⟨_,rfl,Om ⟨_,rfl,?_⟩⟩) (args_list_sort _)))
 obtain ⟨c,at2⟩:=sortedHeap_at (out:=Srt.gE vs p) at1
 have e:=Srt.sk hi1
 have hb:∀ i ∈ p.toList,i < vs.length:=fun i hi=>by simpa using (QC.mp hp2).mem_iff.mp hi
 rw [e] at hp2 ha
 obtain ⟨p1,p2⟩:=Srt.xh (vs:=ks1) (d:=0) hp2 ha
 refine h _ tk1 h1.objs.size c (Srt.gE vs p) _ hge at2 (by simpa [Srt.gE] using Srt.fG hi1 p.toList hb) (p1.trans (hp1.trans hp)) (p2 _ fun i j _ _ h=>h) fun b o e=>?_
 have hlt:=Oz (old1 b o e)
 rw [sortedHeap_old (OE hlt) (by rw [size_push'];exact QB hlt)]
 exact OA _ (old1 b o e)
end
end ST
namespace L2
open PySem
noncomputable def zH (K:W.Frag) (ta:TE):TE:=fun σ H Q=>ta σ H fun x H1=>∃ p,∃ ns:List Int,x = .ref p /\ SqL K H1 p (ns.map V.int) /\ ns.length <= 300 /\ ∀ (ms:List Int) l,ms.Perm (M.eD ns) -> ms.Pairwise (· <= ·) -> H1 l = none -> Q (.ref l) (upd H1 l (.lst (ms.map V.int)))
noncomputable def ssQ (K:W.Frag) (Q:VK):List V -> Hp -> Prop:=fun vs H1=>match vs with | [x]=>∃ p,∃ ns:List Int,x = .ref p /\ SqL K H1 p (ns.map V.int) /\ ns.length <= 300 /\ ∀ (ms:List Int) l,ms.Perm (M.eD ns) -> ms.Pairwise (· <= ·) -> H1 l = none -> Q (.ref l) (upd H1 l (.lst (ms.map V.int))) | _=>False
section
variable {X:Cx}
theorem sX {a:Expr} {ta:TE} {pl pr pos pos':Pos} (hl:X.mg "sorted" = none) (hs:X.mg "set" = none) (ha:PE X a ta) (gl:Gl X "sorted" := by rfl) (gs:Gl X "set" := by rfl) (hc:X.calm = true:=by rfl)
  (he:starEach [.Call (.Name "set" pr) [a] [] pos'] X.env = (false,eval (.Call (.Name "set" pr) [a] [] pos') X.env) :: starEach [] X.env:=by rfl) (he1:starEach [a] X.env = (false,eval a X.env) :: starEach [] X.env:=by rfl)
  (hp0:(backTo pos (starEach [] X.env)).any (·.1) = false:=by rfl) (hp1:(backTo pos' (starEach [] X.env)).any (·.1) = false:=by rfl) :
  PE X (.Call (.Name "sorted" pl) [.Call (.Name "set" pr) [a] [] pos'] [] pos) (zH X.K ta):=by
 intro pins s σ H Q I h
 have h':eK ta nP σ H (ssQ X.K Q):=h
 refine QV (mG I gl hl kX (PyProof.Rows.callWith_builtin1 ?_ he hp0))
 rw [he]
 show wpAny (model X.prog X.w) X.A (spliced ((false,eval (.Call (.Name "set" pr) [a] [] pos') X.env) :: backTo pos (starEach [] X.env))) _ _ s
 refine Calls.spliced_cons (QV (mG I gs hs Je (Rq (thn (ab ha ai he1 pos' pins s σ H _ I h') fun us s1 h1=>?_) he1 hp1)))
 obtain ⟨vs,H1,I1,r1,q⟩:=h1
 match vs,r1,q with
 | [x],.cons rx .nil,⟨p,ns,e,hS,hlen,q⟩=>
  subst e
  cases rx
  obtain ⟨its,rv,lp,hz⟩:=I1.list hS
  have hi:PyProof.Rows.IntsAre its.toArray.toList ns:=by simpa using yq rv
  have hn:its.toArray.size = ns.length:=by
   have:=rv.length
   rw [Os] at this
   simpa using this.symm
  refine ST.rK (I.ok.hd hc) lp.isList hn.symm (by rw [hn];exact hlen) hi fun h2 tk hS2 old=>Calls.spliced_nil ?_
  refine ST.Bj (s:={ s1 with heap:=h2,toks:=tk }) (I.ok.hd hc) hS2 (OD (ST.wF ns) hlen) fun h3 tk3 l c out ms hl3 at3 ho pm pw old3=>?_
  have hnl:s1.heap.objs.size <= l:=by
   obtain ⟨o2,_,_,_,ho2,_⟩:=hS2
   exact OD (O4 (Oz ho2)) hl3
  refine ⟨.ref l,upd H1 l (.lst (ms.map V.int)),I1.laid (a:=l) (o:=.lst (ms.map V.int)) (h':=h3) (t':=tk3) (fun b o e=>old3 b o (old b o e)) hnl ?_,rfl,q ms l pm pw (I1.hok.fresh hnl)⟩
  exact ⟨by rw [Os,pm.length_eq,OJ];have:=ST.wF ns;lia,out.toList,c,oE ho,by simpa using at3⟩
end
end L2
namespace M
open PySem L2
section
variable {K:W.Frag}
noncomputable def gP (a:XE):XA:=fun ρ=>(a ρ).bind fun d=>match d with | .lst l=>(aK l).bind fun ns=>if ns.length <= 300 then some ((dw (eD ns)).map D.int) else none | _=>none
theorem vQ {ta:TE} {a:XE} (h:SPk K ta a):SF K (zH K ta) (gP a):=fun ρ σ S H Q e r x k=>by
 unfold gP at x
 cases q:a ρ with
 | none=>rw [q] at x;cases x
 | some d=>
  rw [q] at x
  dsimp only [Option.bind] at x
  cases d <;> try (cases x;done)
  rename_i l
  dsimp only at x
  cases qi:aK l with
  | none=>rw [qi] at x;cases x
  | some ns=>
   rw [qi] at x
   dsimp only at x
   split at x
   ·rename_i hc
    cases x
    refine h ρ σ S H _ _ r q fun v S1 H1 z1 d1=>?_
    obtain ⟨p,xs,rfl,h1,h2⟩:=d1.lst z1.sub
    obtain ⟨e1,e2⟩:=eN h2 qi
    subst e1 e2
    refine ⟨p,ns,rfl,.inl h1,hc,fun ms b pm pw hb=>?_⟩
    rw [tL pm pw]
    have hH:H b = none:=by
     cases qh:H b with
     | none=>rfl
     | some o=>
      have:=z1.same r.sub b o qh
      rw [hb] at this
      cases this
    have hS:S1 b = none:=by
     cases qh:S1 b with
     | none=>rfl
     | some o=>
      have:=z1.sub b o qh
      rw [hb] at this
      cases this
    have z2:=Ext.own z1.sub hb (S:=S1) (H:=H1) (o:=.lst ((dw (eD ns)).map V.int))
    refine k b _ S1 _ (z1.trans z2) hH hS aD ?_
    have key:∀ ns:List Int,Dens K S1 (ns.map D.int) (ns.map V.int):=by
     intro ns
     induction ns with
     | nil=>exact .nil
     | cons n ns ih=>exact .cons (den_int.mpr rfl) ih
    exact key _
   ·cases x
end
end M
namespace DY
open PySem
theorem EV:typeLookup (.type "dict") "__len__" = pure (some (.builtin "dict.__len__")):=by rw [Qp,Qq];kernel_rfl
theorem Gb:isSubtype (.type "dict") (.type "dict") = pure true:=by rw [QL];kernel_rfl
section
variable {prog:Program} {w:World} {A:Around} {E:Value -> Shared -> Prop} {s:Shared} {d I:Addr} {es:Array DictEntry} {ep:Nat}
theorem DAt.kept {h h':Heap} (x:DAt h d es ep) (k:∀ o,h.get? d = some o -> h'.get? d = some o):DAt h' d es ep:=let ⟨o,ho,r⟩:=x;⟨o,k o ho,r⟩
theorem Gr (hh:A.handled = none) (hne:d ≠ I) (es:Array DictEntry) (ep:Nat) :
  Walks prog w A I [I,d] [I] es.size (fun i v=>∃ e,es[i]? = some e /\ v = e.key) (fun i h=>h.IsKeyIter I d i es.size ep /\ DAt h d es ep) where
 sub:=fun b hb=>by simp at hb;simp [hb]
 frame:=fun i h h' st hk=>⟨st.1.at fun o e=>hk I (by simp) o e,st.2.kept fun o e=>hk d (by simp) o e⟩
 item:=fun i s Q E hi st hQ=>yH st.1 st.2 hi fun h' it' sb=>hQ es[i].key h' s.toks ⟨es[i],Ps hi,rfl⟩ ⟨it',st.2.kept fun o z=>by rw [sb.2 d hne];exact z⟩ (fun b o hb z=>by rw [sb.2 b fun y=>hb (by simp [y])];exact z)
 done:=fun s Q E st hQ=>yG hh st.1 st.2 (Op _) fun h' x=>hQ h' s.toks fun b o hb z=>x b o (fun y=>hb (by simp [y])) z
 self:=fun i s Q E st h=>wpAny_pyIter_keyiter st.1 h
end
section
variable {prog:Program} {w:World} {A:Around} {s:Shared} {R:Result -> Shared -> Prop} {d:Addr} {es:Array DictEntry} {ep:Nat}
theorem G0 (hh:A.handled = none) (hd:(d == sysModules) = false) (hm:DAt s.heap d es ep) (S:Addr) (res:Value) (c₀:Nat) (hSd:S ≠ d) (hS:s.heap.get? S = some { cls:=.type "list",data:=.seq #[] c₀ }) (hn:es.size <= sizeLine)
  (hR:∀ h' tk acc c,(∀ b o,b ≠ S -> s.heap.get? b = some o -> h'.get? b = some o) -> h'.get? S = some { cls:=.type "list",dict:=none,data:=.seq acc c,slots:=#[] } -> ItemsOf (fun i v=>∃ e,es[i]? = some e /\ v = e.key) acc es.size -> R (.ok (.ret res)) { s with heap:=h',toks:=tk }) :
  wpAny (model prog w) A.in1 (Builtin.List.listExtendWith (.ref S) (.ref d) res) (fun fin s'=>match fin with | .done f=>R (.ok f) s' | .again c'=>c'.quiet = true /\ codeAny (model prog w) A c' R s') (fun e s'=>R (.error e) s') s:=by
 obtain ⟨o,ho,hex,hdat⟩:=id hm
 have hT:s.TypeIs (.ref d) "dict" := ⟨o,ho,hex.1⟩
 have h1:Builtin.List.listSameRef (.ref S) (.ref d) = false:=by simp [Builtin.List.listSameRef,hSd]
 unfold Builtin.List.listExtendWith
 refine Oh (PN hT ?_)
 rw [Oi (by rw [h1];decide)]
 refine Oh (vk hd hm ?_)
 refine Oh (O8 ?_)
 unfold Builtin.List.listLengthHint
 have hT2:Shared.TypeIs { s with heap:=s.heap.push { cls:=.type "dict_keyiterator",data:=.fields #[.ref d,.int 0 0,.int es.size 0,.int ep 0] } } (.ref d) "dict" := ⟨o,OA _ ho,hex.1⟩
 refine Oh (wpAny_specialOf hT2 EV ?_)
 (generalize hid:("dict.__len__" : String) = id0;wp_delta;rw [show splitId id0 = some ("dict", "__len__") from by subst hid;decide +kernel];subst hid)
 refine Oh (QN (b:=true) hT2 Gb ?_)
 rw [Oi (by decide)]
 dsimp only
 rw [Oj (by decide +kernel)]
 refine Oh (PN hT2 ?_)
 dsimp only
 refine Om ?_
 rw [Oj (by decide +kernel)]
 refine Oh (Pn ?_)
 have hSl:S < s.heap.objs.size:=Oz hS
 have hdl:d < s.heap.objs.size:=Oz ho
 have hL2:(s.heap.push { cls:=.type "dict_keyiterator",data:=.fields #[.ref d,.int 0 0,.int es.size 0,.int ep 0] }).get? S = some { cls:=.type "list",data:=.seq #[] c₀ }:=OA _ hS
 refine Oh (m:=Builtin.List.listTouch (.ref S)) ?_
 show wpAny _ _ (updateSeq S (·.push .none) >>= fun _=>updateSeq S (·.pop)) _ _ _
 refine Oh (Rm hL2 rfl ?_)
 have hL3:=Pd (Obj.mapSeq (·.push Value.none)) hL2 rfl
 refine Rm hL3 rfl ?_
 have hL4:=Pd (Obj.mapSeq (·.pop)) hL3 rfl
 have hoth:∀ b o,b ≠ S -> (s.heap.push { cls:=.type "dict_keyiterator",data:=.fields #[.ref d,.int 0 0,.int es.size 0,.int ep 0] }).get? b = some o ->
   (((s.heap.push { cls:=.type "dict_keyiterator",data:=.fields #[.ref d,.int 0 0,.int es.size 0,.int ep 0] }).update S (Obj.mapSeq (·.push Value.none))).update S (Obj.mapSeq (·.pop))).get? b = some o:=fun b o hb e=>by
  rw [Px _ _ _ _ hb,Px _ _ _ _ hb]
  exact e
 have hI:s.heap.objs.size ≠ S:=P5 hSl
 have hit:Heap.IsKeyIter (((s.heap.push { cls:=.type "dict_keyiterator",data:=.fields #[.ref d,.int 0 0,.int es.size 0,.int ep 0] }).update S (Obj.mapSeq (·.push Value.none))).update S (Obj.mapSeq (·.pop))) s.heap.objs.size d 0 es.size ep:=
  ⟨_,hoth _ _ hI (OO _ rfl),rfl,rfl⟩
 have hm4:DAt (((s.heap.push { cls:=.type "dict_keyiterator",data:=.fields #[.ref d,.int 0 0,.int es.size 0,.int ep 0] }).update S (Obj.mapSeq (·.push Value.none))).update S (Obj.mapSeq (·.pop))) d es ep:=hm.kept fun o e=>hoth d o (OQ hSd) (OA _ e)
 have hSf:S ∉ [s.heap.objs.size,d]:=by
  simp only [Oy,Q7,or_false,not_or]
  exact ⟨OE hSl,hSd⟩
 refine Om ⟨Qs F.plain_extend_loop _,codeAny_extend_loopS (Gr (A:=A.in1) (prog:=prog) (w:=w) hh (OE hdl) es ep).toS hn _ hSf _ es.size 0 _ _ _ (Nat.sub_zero _) (O9 _) ⟨hit,hm4⟩ hL4 (ItemsOf.nil _) fun s' acc c hmv hL' hacc=>?_⟩
 have es':s' = { s with heap:=s'.heap,toks:=s'.toks }:=by
  obtain ⟨h',g',d',tk',os'⟩:=s'
  have e1:=hmv.gens
  have e2:=hmv.drawn
  have e3:=hmv.os
  dsimp only at e1 e2 e3
  rw [e1,e2,e3]
 rw [es']
 refine hR s'.heap s'.toks acc c (fun b o hb e=>?_) hL' hacc
 have hlt:=Oz e
 refine hmv.heap b o (fun z=>?_) (hoth b o hb (OA _ e))
 rcases Oy.mp z with z | z
 ·exact hb z
 ·rw [Ot] at z
  exact absurd hlt (by rw [z];exact Qk _)
theorem EG (hh:A.handled = none) (hd:(d == sysModules) = false) (hm:DAt s.heap d es ep) (S:Addr) (hSd:S ≠ d) (hS:s.heap.get? S = some { cls:=.type "list",data:=.seq #[] }) (hn:es.size <= sizeLine)
  (hR:∀ h' tk acc c,(∀ b o,b ≠ S -> s.heap.get? b = some o -> h'.get? b = some o) -> h'.get? S = some { cls:=.type "list",dict:=none,data:=.seq acc c,slots:=#[] } -> ItemsOf (fun i v=>∃ e,es[i]? = some e /\ v = e.key) acc es.size -> R (.ok (.ret .none)) { s with heap:=h',toks:=tk }) :
  wpAny (model prog w) A.in1 (Builtin.«list.__init__» ⟨[.ref S,.ref d],[]⟩) (fun fin s'=>match fin with | .done f=>R (.ok f) s' | .again c'=>c'.quiet = true /\ codeAny (model prog w) A c' R s') (fun e s'=>R (.error e) s') s:=by
 have oth:∀ b o,b ≠ S -> s.heap.get? b = some o -> (s.heap.update S (Obj.mapSeq (fun _=>(#[]:Array Value)))).get? b = some o:=fun b o hb e=>by rw [Rv _ _ (OQ hb),e]
 have at2:=Pd (Obj.mapSeq (fun _=>(#[]:Array Value))) hS rfl
 show wpAny (model prog w) A.in1 (do let old ← Builtin.List.listItems (.ref S);Builtin.List.listUpdate (.ref S) (fun _=>#[]);letGo old.toList.reverse;Builtin.List.listExtendWith (.ref S) (.ref d) .none) _ _ s
 refine Oh ?_;unfold Builtin.List.listItems;refine Oh (wpAny_seqItems hS rfl (Om ?_))
 show wpAny (model prog w) A.in1 (updateSeq S (fun _=>#[]) >>= fun _=>letGo (#[]:Array Value).toList.reverse >>= fun _=>Builtin.List.listExtendWith (.ref S) (.ref d) .none) _ _ s
 refine Oh (Rm hS rfl (Oh (wpAny_letGo ?_)))
 refine G0 (s:={ s with heap:=s.heap.update S (Obj.mapSeq (fun _=>(#[]:Array Value))) }) hh hd (hm.kept fun o e=>oth d o (OQ hSd) e) S .none _ hSd at2 hn fun h' tk acc c hk hS' hacc=>?_
 exact hR h' tk acc c (fun b o hb e=>hk b o hb (oth b o hb e)) hS' hacc
end
section
variable {prog:Program} {w:World} {A:Around} {E:Value -> Shared -> Prop} {s:Shared} {d:Addr} {es:Array DictEntry} {ep:Nat}
theorem t5 {Q:Value -> Shared -> Prop} (hh:A.handled = none) (hd:(d == sysModules) = false) (hm:DAt s.heap d es ep) (hn:es.size <= sizeLine)
  (hQ:∀ h' tk acc c,(∀ b o,s.heap.get? b = some o -> h'.get? b = some o) -> h'.get? s.heap.objs.size = some { cls:=.type "list",dict:=none,data:=.seq acc c,slots:=#[] } -> ItemsOf (fun i v=>∃ e,es[i]? = some e /\ v = e.key) acc es.size -> Q (.ref s.heap.objs.size) { s with heap:=h',toks:=tk }) :
  wpAny (model prog w) A (call (.type "list") [.ref d]) Q E s:=by
 have hdl:d < s.heap.objs.size:=let ⟨_,ho,_⟩:=hm;Oz ho
 refine callType_codes (Q₁:=fun obj s₁=>obj = .ref s.heap.objs.size /\ s₁ = { s with heap:=s.heap.push { cls:=.type "list",data:=.seq #[] } }) F.called_list (F.typeCall_list_1 (.ref d)) F.entry_list_init (code_list_new _ ⟨rfl,rfl⟩) (fun obj s₁ h₁=>?_)
 obtain ⟨rfl,rfl⟩:=h₁
 have at1:(s.heap.push { cls:=.type "list",data:=.seq #[] }).get? s.heap.objs.size = some { cls:=.type "list",data:=.seq #[] }:=OO _ rfl
 refine ⟨⟨_,at1,rfl⟩,F.args_list_init_2 _ _,EG (A:=A.in1) (s:={ s with heap:=s.heap.push { cls:=.type "list",data:=.seq #[] } }) hh hd (hm.kept fun o e=>OA _ e) _ (P5 hdl) at1 hn fun h' tk acc c hk hS' hacc=>⟨rfl,hQ h' tk acc c (fun b o e=>hk b o (OE (Oz e)) (OA _ e)) hS' hacc⟩⟩
end
end DY
namespace L2
open PySem PySem.Spec PyProof.Rows
noncomputable def Fz:List V -> Hp -> VK -> Prop:=fun xs H Q=>∃ a kvs,xs = [V.ref a] /\ Rd H a (.dT kvs) /\ ∀ l (bs:List Addr),bs.length = kvs.length -> (∀ (i:Nat) b k v,bs[i]? = some b -> kvs[i]? = some (k,v) -> H b = some (.tup (k.map kV))) -> H l = none -> Q (.ref l) (upd H l (.lst (bs.map V.ref)))
section
variable {X:Cx}
theorem vM:∀ (bs:List Addr),Vals (bs.map V.ref) (bs.map Value.ref)
 | []=>.nil
 | _ :: bs=>.cons rfl (vM bs)
theorem Ae (hc:X.calm = true):CallR X (.type "list") Fz:=by
 intro pins s σ H xs us Q I r h
 obtain ⟨a,kvs,rfl,ha,q⟩:=h
 obtain ⟨u,rfl,ru⟩:=r.one
 cases ru
 obtain ⟨z,hd,ys,rel,o,es,ep,h1,h2,h3,h4,h5⟩:=BL I.hok ha
 have hl:es.size = kvs.length:=by
  have:=OG List.length h4
  rw [Os,O0] at this
  rw [this,PL rel]
 have hly:ys.length = kvs.length:=(PL rel).symm
 refine DY.t5 (I.ok.hd hc) hd ⟨o,h1,h2,h3⟩ (by rw [hl];exact z) fun h' tk acc c old at1 hit=>?_
 have hn:=I.hok.fresh (Op s.heap.objs.size)
 have ea:acc.toList = (ys.map (·.2.1)).map Value.ref:=by
  apply QH
  intro i
  rw [Pp,OU,OU]
  cases qy:ys[i]? with
  | none=>
   rw [RK (by rw [hit.1,hl,<- hly];exact QJ.mp qy)]
   rfl
  | some y=>
   have hi:i < acc.size:=by rw [hit.1,hl,<- hly];exact (O5.mp qy).1
   obtain ⟨e,e1,e2⟩:=hit.2 i _ (Ps hi)
   rw [Ps hi,e2]
   have hx:=entry_at h4 i
   rw [e1,qy] at hx
   cases hx
   rfl
 refine ⟨.ref s.heap.objs.size,upd H s.heap.objs.size (.lst ((ys.map (·.2.1)).map V.ref)),I.laid (a:=s.heap.objs.size) (t':=tk) (fun b o e=>old b o e) (Op _) ?_,rfl,q _ (ys.map (·.2.1)) (by rw [Os];exact hly) (fun i b k v e1 e2=>?_) hn⟩
 ·refine ⟨by rw [Os,Os,hly];exact z,acc.toList,c,?_,by simpa [seqObj] using at1⟩
  rw [ea]
  exact vM _
 ·rw [OU] at e1
  cases qy:ys[i]? with
  | none=>rw [qy] at e1;cases e1
  | some y=>
   rw [qy] at e1
   cases e1
   obtain ⟨p,qp,r1,r2,r3⟩:=oY rel qy
   rw [e2] at qp
   cases qp
   exact r2
end
end L2
namespace M
open PySem L2
section
variable {K:W.Frag} {S H:Hp}
theorem vn:∀ {ks:List (List Int)} {bs:List Addr},bs.length = ks.length -> (∀ (i:Nat) b k,bs[i]? = some b -> ks[i]? = some k -> S b = some (.tup (k.map V.int))) -> Dens K S (ks.map nQ) (bs.map V.ref)
 | [],bs,hl,_=>by
  have:bs = []:=Rj hl
  subst this
  exact .nil
 | k :: ks,[],hl,_=>by cases hl
 | k :: ks,b :: bs,hl,h=>by
  refine .cons (den_tup.mpr ⟨b,_,rfl,TpA.of (h 0 b k rfl rfl),?_⟩) (vn (by simpa using hl) fun i b k e1 e2=>h (i + 1) b k (by simpa using e1) (by simpa using e2))
  have key:∀ ns:List Int,Dens K S (ns.map D.int) (ns.map V.int):=by
   intro ns
   induction ns with
   | nil=>exact .nil
   | cons n ns ih=>exact .cons (den_int.mpr rfl) ih
  exact key k
theorem Kt {bs:List Addr} {H':Hp} (s:Same S H) (z:Ext S H S H') (h:∀ b ∈ bs,∃ ks:List Int,H b = some (.tup (ks.map V.int))):Ext S H (pZ S H bs) H' where
 sh:=fun b o e=>by
  by_cases hb:b ∈ bs
  ·rw [k6 hb];exact s b o e
  ·rw [ei hb];exact e
 sub:=fun b o e=>by
  by_cases hb:b ∈ bs
  ·rw [k6 hb] at e;exact z.same s b o e
  ·rw [ei hb] at e;exact z.sub b o e
 alw:=fun b o e n=>by
  refine ⟨(z.alw b o e n).1,?_⟩
  by_cases hb:b ∈ bs
  ·obtain ⟨ks,ek⟩:=h b hb
   rw [e] at ek
   cases ek
   exact .inr ⟨ks,rfl⟩
  ·rw [ei hb];exact .inl n
noncomputable def kR (i:Nat):XA:=fun ρ=>(fv ρ i).map fun ks=>ks.map nQ
theorem HH (i:Nat):SF K (tCB Fz (eK (jI i) nP)) (kR i):=fun ρ σ S H Q g r x c=>by
 unfold kR at x
 cases qi:fv ρ i with
 | none=>rw [qi] at x;cases x
 | some ks=>
  rw [qi] at x
  cases x
  obtain ⟨a,e1,ha⟩:=An r qi
  refine ⟨.ref a,e1,a,_,rfl,ha,fun l bs hl hb hn=>?_⟩
  rw [rR] at hl
  have hk:∀ (i:Nat) b k,bs[i]? = some b -> ks[i]? = some k -> H b = some (.tup (k.map V.int)):=fun i b k e2 e3=>by
   have:=hb i b (k.map Sum.inl) (V.bl true) e2 (by unfold br;rw [OU,e3];rfl)
   rw [OM] at this
   exact this
  have hIT:∀ b ∈ bs,∃ ks:List Int,H b = some (.tup (ks.map V.int)):=fun b hb2=>by
   obtain ⟨j,hj,e⟩:=List.getElem_of_mem hb2
   exact ⟨ks[j]'(by lia),hk j b _ (by rw [PF hj,e]) (PF (by lia))⟩
  have hS:pZ S H bs l = none:=by
   rw [ei fun z=>by obtain ⟨ks',e⟩:=hIT l z;rw [hn] at e;cases e]
   exact r.sub.free hn
  refine c l _ (pZ S H bs) _ (Kt r.sub (Ext.own r.sub hn) hIT) hn hS aD (vn hl fun i b k e2 e3=>?_)
  rw [k6 (QW e2)]
  exact hk i b k e2 e3
end
section
variable {K:W.Frag} {S S' H H':Hp}
end
section
variable {K:W.Frag} {S S' H H':Hp}
@[simp] noncomputable def pP (e:XE) (j:Nat):XS:=fun ρ=>match ρ[j]? with
 | some (.ow (.lst l))=>(e ρ).bind fun d=>some (.ro (.tup [.sh d,.lst l]))
 | _=>none
theorem FU {te:TE} {e:XE} (j:Nat) (h:SE K te e):SS K (DR (HW (eK te (eK (jI j) nP)))) (pP e j):=fun A Λ ρ σ S H E o r x k=>by
 unfold pP at x
 split at x
 ·rename_i l q
  cases qe:e ρ with
  | none=>rw [qe] at x;cases x
  | some d=>
   rw [qe] at x
   cases x
   refine h ρ σ S H _ d r.toRl qe fun v S1 H1 z1 d1=>?_
   obtain ⟨Φ,f⟩:=r.ext z1
   obtain ⟨vj,e1,ow,nd,n⟩:=f.ow j _ q
   obtain ⟨a,xs,g,rfl,efp,hx,hw⟩:=own_lst.mp ow
   refine ⟨.ref a,e1,?_,fun p hp=>?_⟩
   ·exact OD (show 2 <= 1000 by decide) (by rw [OJ];decide)
   ·obtain ⟨k1,k2⟩:=o9 (o:=.tup [v,.ref a]) hp ow.there
    have nit:¬ IT (.tup [v,.ref a]):=fun hpt0=>by
     obtain ⟨ks,e⟩:=hpt0
     cases ks with
     | nil=>cases e
     | cons _ ks=>
      cases ks with
      | nil=>cases e
      | cons _ _=>cases e
    have z2:Ext S1 H1 S1 (upd H1 p (.tup [v,.ref a])):=Ext.own f.sub hp
    have f2:=f.ext z2
    refine k (.ref p) (p :: Φ j) S1 _ z1.sh z2.sub f2.asub f2.adis (own_tup.mpr ⟨p,[v,.ref a],Φ j,rfl,rfl,⟨aD,nit⟩,?_⟩) (OL.mpr ⟨k2,nd⟩) fun b hb=>?_
    ·have o1:Own K S1 (upd H1 p (.tup [v,.ref a])) (.sh d) v []:=own_sh.mpr ⟨rfl,d1⟩
     have o2:=ow.mono (Same.refl _) k1
     have:=Owns.cons o1 (Owns.cons o2 Owns.nil)
     simpa using this
    ·rcases Oy.mp hb with rfl | hb
     ·exact ⟨f.sub.free hp,f.asub.free hp⟩
     ·exact n b hb
 ·cases x
@[simp] noncomputable def LX (m:List D -> Option O) (e:D) (a:XA):Env -> Option O:=fun ρ=>(a ρ).bind fun ds=>m (ds ++ [e])
end
section
variable {K:W.Frag} {S H:Hp}
@[simp] noncomputable def N7 (i:Nat) (k:Int):XE:=fun ρ=>match ρ[i]? with
 | some (.ow (.tup os))=>match atI os k with
  | some (.sh d)=>some d
  | some (.lst l)=>(shs l).map D.lst
  | _=>none
 | _=>none
@[simp] noncomputable def N6 (i:Nat) (k:Int):XE:=fun ρ=>match ρ[i]? with
 | some (.ow (.tup os))=>match atI os k with
  | some (.sh d)=>some d
  | _=>none
 | _=>none
noncomputable def KH:List D -> Bool
 | []=>true
 | .tup l :: r=>(aK l).isSome && KH r
 | _ :: _=>false
@[simp] noncomputable def MN (m:List D -> Option O) (a:XA):XE:=fun ρ=>((a ρ).bind m).bind fun o=>match o with
 | .lst os=>(shs os).bind fun l=>if KH l then some (.lst l) else none
 | _=>none
end
section
variable {K:W.Frag} {S H:Hp}
@[simp] noncomputable def zO (j i:Nat) (m:HM) (a:XA):XS:=fun ρ=>match ρ[j]? with
 | some (.ow (.lst l))=>(shs l).bind fun ls=>(ρ[i]?).bind fun s=>(ksO s).bind fun ks=>(a ρ).bind fun ds=>(CZ m ks ds).bind fun r=>match r with
  | (.lst l',ks')=>(shs l').bind fun ds'=>if ls.length + ds'.length <= LIM then some (.nx ((ρ.set i (reD ks' s)).set j (.ow (.lst ((ls ++ ds').map .sh))))) else none
  | _=>none
 | _=>none
theorem JS {n:Nat} {m:HM} {E0:XK} {ta:TA} {a:XA} {i j:Nat} (h:SA K ta a) (hn:∀ ρ ds,a ρ = some ds -> ds.length = n):SS K (zE (tOp (Fy K) (jI j) (zF (spH K (n + 1) m) [] E0 (eK (jI i) ta))) (kx j)) (zO j i m a):=fun A Λ ρ σ S H E out r y k=>by
 unfold zO at y
 split at y
 ·rename_i l q0
  obtain ⟨ls,ql,y⟩:=bind_some y
  obtain ⟨s,qs,y⟩:=bind_some y
  obtain ⟨ks,hk,y⟩:=bind_some y
  obtain ⟨ds,qa,y⟩:=bind_some y
  obtain ⟨⟨o,ks'⟩,qm,y⟩:=bind_some y
  split at y
  ·rename_i l' ks2 e1
   cases e1
   obtain ⟨ds',qd,y⟩:=bind_some y
   split at y
   ·rename_i hl
    cases y
    have e:=oW qd
    subst e
    have e:=oW ql
    subst e
    have hji:j ≠ i:=fun z=>by
     subst z
     rw [q0] at qs
     cases qs
     cases hk
    obtain ⟨Φ,f⟩:=r
    obtain ⟨p,ep,hp,sp,_,_,_⟩:=f.dicO qs hk
    obtain ⟨v0,ev0,ow0,_⟩:=f.ow j _ q0
    refine ⟨v0,ev0,.ref p,ep,h ρ σ S H _ ds ⟨A,Λ,Φ,f⟩ qa fun us S1 H1 z1 d1=>?_⟩
    obtain ⟨p',ep',hp1,sp1,_,_,up1⟩:=(f.ext z1).dicO qs hk
    rw [ep] at ep'
    cases ep'
    rw [OZ]
    refine ⟨by rw [Ow,<- d1.length,hn ρ ds qa],S1,p,ks,ds,us,_,_,rfl,z1.sub,hp1,sp1,d1,B0 qm p,fun v fp S2 H2 z2 ow nd n=>?_⟩
    have f2:=(up1 ks').ext z2
    have q0':(ρ.set i (reD ks' s))[j]? = some (.ow (.lst (ls.map .sh))):=by rw [Pg (OQ hji)];exact q0
    obtain ⟨v1,ev1,ow1,_,_⟩:=f2.ow j _ q0'
    rw [ev0] at ev1
    cases ev1
    obtain ⟨a0,xs,f0,rfl,_,hx,hw⟩:=own_lst.mp ow1
    obtain ⟨b,zs,f3,rfl,rfl,hb,hz⟩:=own_lst.mp ow
    have dz:=(eU hz).1
    have dx:=(eU hw).1
    refine .inr (.inl ⟨a0,b,xs,zs,rfl,rfl,.inl hx,.inl hb,by rw [<- dx.length,<- dz.length];exact oK hl,fun q hq=>?_⟩)
    have z3:=Ext.own (o:=.lst (xs ++ zs)) f2.sub hq
    have f4:=f2.ext z3
    have o1:Own K S2 (upd H2 q (.lst (xs ++ zs))) (.lst ((ls ++ ds').map .sh)) (.ref q) [q]:=own_lst.mpr ⟨q,_,[],rfl,rfl,aD,lf (dx.append dz)⟩
    refine k _ S2 _ ⟨_,f4.put (H':=upd H2 q (.lst (xs ++ zs))) j f4.sub f4.asub o1 (OL.mpr ⟨by simp,Ra⟩) (fun c hc=>by rw [Ot.mp hc];exact ⟨f2.sub.free hq,f2.asub.free hq⟩) fun j' o' hj e1 c hc=>⟨rfl,fun hf=>?_⟩⟩ (z1.sh.trans z2.sh)
    rw [Ot.mp hf] at hc
    obtain ⟨w,_,k2,_,_⟩:=f2.ow j' o' e1
    exact k2.there q hc hq
   ·cases y
  ·cases y
 ·cases y
end
end M
namespace Rw
noncomputable abbrev R:=List (Int × Int)
def Mem (r:R) (x:Int):Prop:=∃ p ∈ r,p.1 <= x /\ x <= p.2
def Ok (r:R):Prop:=∀ p ∈ r,p.1 <= p.2
def eh (r:R):Prop:=Ok r /\ r.Pairwise fun p q=>p.2 + 2 <= q.1
theorem cW (x:Int):¬ Mem [] x:=by rintro ⟨p,h,_⟩;cases h
theorem mem_cons (p:Int × Int) (r:R) (x:Int):Mem (p :: r) x ↔ (p.1 <= x /\ x <= p.2) \/ Mem r x:=by
 constructor
 ·rintro ⟨q,h,e⟩
  rcases Oy.mp h with rfl | h
  ·exact .inl e
  ·exact .inr ⟨q,h,e⟩
 ·rintro (e | ⟨q,h,e⟩)
  ·exact ⟨p,Oq,e⟩
  ·exact ⟨q,Ou _ h,e⟩
theorem mem_append (r t:R) (x:Int):Mem (r ++ t) x ↔ Mem r x \/ Mem t x:=by
 constructor
 ·rintro ⟨q,h,e⟩
  rcases OC.mp h with h | h
  ·exact .inl ⟨q,h,e⟩
  ·exact .inr ⟨q,h,e⟩
 ·rintro (⟨q,h,e⟩ | ⟨q,h,e⟩)
  ·exact ⟨q,OH _ h,e⟩
  ·exact ⟨q,OB _ h,e⟩
theorem EY {r t:R} (h:r.Perm t) (x:Int):Mem r x ↔ Mem t x:=
 ⟨fun ⟨q,m,e⟩=>⟨q,h.mem_iff.mp m,e⟩,fun ⟨q,m,e⟩=>⟨q,h.mem_iff.mpr m,e⟩⟩
theorem mem_filter (r:R) (x:Int):Mem (r.filter fun p=>decide (p.1 <= p.2)) x ↔ Mem r x:=by
 constructor
 ·rintro ⟨q,m,e⟩
  exact ⟨q,(O3.mp m).1,e⟩
 ·rintro ⟨q,m,e⟩
  exact ⟨q,O3.mpr ⟨m,by simp;lia⟩,e⟩
theorem kZ:eh []:=⟨fun _ h=>(by cases h),.nil⟩
theorem canon_cons {p:Int × Int} {r:R}:eh (p :: r) ↔ p.1 <= p.2 /\ (∀ q ∈ r,p.2 + 2 <= q.1) /\ eh r:=by
 constructor
 ·rintro ⟨h1,h2⟩
  have h3:=PH.mp h2
  exact ⟨h1 p Oq,h3.1,fun q hq=>h1 q (Ou _ hq),h3.2⟩
 ·rintro ⟨h1,h2,h3,h4⟩
  refine ⟨fun q hq=>?_,PH.mpr ⟨h2,h4⟩⟩
  rcases Oy.mp hq with rfl | hq
  ·exact h1
  ·exact h3 q hq
theorem ft {p:Int × Int} {r:R} (c:eh (p :: r)) {x:Int} (h:Mem r x):p.2 + 2 <= x:=by
 obtain ⟨q,m,e,_⟩:=h
 have:=(canon_cons.mp c).2.1 q m
 lia
theorem uU {p:Int × Int} {r:R} (c:eh (p :: r)) {x:Int} (h:Mem (p :: r) x):p.1 <= x:=by
 rcases (mem_cons p r x).mp h with h | h
 ·exact h.1
 ·have:=ft c h
  have:=(canon_cons.mp c).1
  lia
theorem Go:∀ {r t:R},eh r -> eh t -> (∀ x,Mem r x ↔ Mem t x) -> r = t
 | [],[],_,_,_=>rfl
 | [],q :: t,_,ct,h=>by
  have:=(h q.1).mpr ((mem_cons ..).mpr (.inl ⟨O1 _,(canon_cons.mp ct).1⟩))
  exact (cW _ this).elim
 | p :: r,[],cr,_,h=>by
  have:=(h p.1).mp ((mem_cons ..).mpr (.inl ⟨O1 _,(canon_cons.mp cr).1⟩))
  exact (cW _ this).elim
 | p :: r,q :: t,cr,ct,h=>by
  have hp:=(canon_cons.mp cr).1
  have hq:=(canon_cons.mp ct).1
  have a1:q.1 <= p.1:=uU ct ((h p.1).mp ((mem_cons ..).mpr (.inl ⟨O1 _,hp⟩)))
  have a2:p.1 <= q.1:=uU cr ((h q.1).mpr ((mem_cons ..).mpr (.inl ⟨O1 _,hq⟩)))
  have e1:p.1 = q.1:=by lia
  have n1:¬ Mem (p :: r) (p.2 + 1):=fun m=>by
   rcases (mem_cons ..).mp m with m | m
   ·lia
   ·have:=ft cr m;lia
  have n2:¬ Mem (q :: t) (q.2 + 1):=fun m=>by
   rcases (mem_cons ..).mp m with m | m
   ·lia
   ·have:=ft ct m;lia
  have e2:p.2 = q.2:=by
   by_cases l1:p.2 < q.2
   ·exact (n1 ((h _).mpr ((mem_cons ..).mpr (.inl ⟨by lia,by lia⟩)))).elim
   ·by_cases l2:q.2 < p.2
    ·exact (n2 ((h _).mp ((mem_cons ..).mpr (.inl ⟨by lia,by lia⟩)))).elim
    ·lia
  have e:p = q:=by
   obtain ⟨a,b⟩:=p
   obtain ⟨c,d⟩:=q
   simp only at e1 e2
   rw [e1,e2]
  subst e
  have ih:r = t:=Go (canon_cons.mp cr).2.2 (canon_cons.mp ct).2.2 fun x=>by
   constructor
   ·intro m
    rcases (mem_cons ..).mp ((h x).mp ((mem_cons ..).mpr (.inr m))) with k | k
    ·have:=ft cr m;lia
    ·exact k
   ·intro m
    rcases (mem_cons ..).mp ((h x).mpr ((mem_cons ..).mpr (.inr m))) with k | k
    ·have:=ft ct m;lia
    ·exact k
  rw [ih]
noncomputable def step (acc:R) (p:Int × Int):R:=
 match acc.getLast? with
 | none=>[p]
 | some q=>if p.1 <= q.2 + 1 then acc.dropLast ++ [(q.1,if p.2 > q.2 then p.2 else q.2)] else acc ++ [p]
noncomputable def nA (l:R):R:=l.foldl step []
theorem F9 (p:Int × Int):step [] p = [p]:=rfl
theorem o7 (t:R) (q p:Int × Int):step (t ++ [q]) p = if p.1 <= q.2 + 1 then t ++ [(q.1,if p.2 > q.2 then p.2 else q.2)] else t ++ [q] ++ [p]:=by
 unfold step
 simp
theorem canon_snoc {t:R} {q:Int × Int}:eh (t ++ [q]) ↔ eh t /\ q.1 <= q.2 /\ ∀ p ∈ t,p.2 + 2 <= q.1:=by
 constructor
 ·rintro ⟨h1,h2⟩
  have h3:=OX.mp h2
  exact ⟨⟨fun p hp=>h1 p (OH _ hp),h3.1⟩,h1 q (OB _ Oq),fun p hp=>h3.2.2 p hp q Oq⟩
 ·rintro ⟨⟨h1,h2⟩,h3,h4⟩
  refine ⟨fun p hp=>?_,OX.mpr ⟨h2,.cons (fun _ h=>(by cases h)) .nil,fun p hp x hx=>?_⟩⟩
  ·rcases OC.mp hp with hp | hp
   ·exact h1 p hp
   ·rw [Ot.mp hp];exact h3
  ·rw [Ot.mp hx];exact h4 p hp
theorem HS {acc:R} {p:Int × Int} (c:eh acc) (hp:p.1 <= p.2) (lo:∀ q ∈ acc,q.1 <= p.1) :
  eh (step acc p) /\ (∀ x,Mem (step acc p) x ↔ Mem acc x \/ (p.1 <= x /\ x <= p.2)) /\ (∀ q ∈ step acc p,q.1 <= p.1):=by
 rcases Qi acc with rfl | ⟨t,q,rfl⟩
 ·rw [F9]
  refine ⟨canon_cons.mpr ⟨hp,fun _ h=>(by cases h),kZ⟩,fun x=>?_,fun q hq=>?_⟩
  ·rw [mem_cons]
   constructor
   ·rintro (h | h)
    ·exact .inr h
    ·exact .inl h
   ·rintro (h | h)
    ·exact .inr h
    ·exact .inl h
  ·rw [Ot.mp hq];exact O1 _
 ·rw [Qj] at *
  obtain ⟨ct,hq,ht⟩:=canon_snoc.mp c
  have lq:q.1 <= p.1:=lo q (OB _ Oq)
  rw [o7]
  by_cases h:p.1 <= q.2 + 1
  ·rw [Oj h]
   have m:∀ z,(if p.2 > q.2 then p.2 else q.2) = z -> q.2 <= z /\ p.2 <= z /\ (z = p.2 \/ z = q.2):=fun z e=>by
    split at e <;> lia
   obtain ⟨m1,m2,m3⟩:=m _ rfl
   generalize (if p.2 > q.2 then p.2 else q.2) = z at *
   refine ⟨canon_snoc.mpr ⟨ct,by dsimp only;lia,ht⟩,fun x=>?_,fun s hs=>?_⟩
   ·rw [mem_append,mem_append,mem_cons,mem_cons]
    dsimp only
    constructor
    ·rintro (k | k | k)
     ·exact .inl (.inl k)
     ·by_cases hx:x <= q.2
      ·exact .inl (.inr (.inl ⟨k.1,hx⟩))
      ·right;lia
     ·exact (cW _ k).elim
    ·rintro ((k | k | k) | k)
     ·exact .inl k
     ·right;left;lia
     ·exact (cW _ k).elim
     ·right;left;lia
   ·rcases OC.mp hs with hs | hs
    ·exact lo s (OH _ hs)
    ·rw [Ot.mp hs];exact lq
  ·rw [Oi h]
   refine ⟨canon_snoc.mpr ⟨c,hp,fun s hs=>?_⟩,fun x=>?_,fun s hs=>?_⟩
   ·rcases OC.mp hs with hs | hs
    ·have:=ht s hs;lia
    ·rw [Ot.mp hs];lia
   ·rw [mem_append,mem_cons]
    constructor
    ·rintro (k | k | k)
     ·exact .inl k
     ·exact .inr k
     ·exact (cW _ k).elim
    ·rintro (k | k)
     ·exact .inl k
     ·exact .inr (.inl k)
   ·rcases OC.mp hs with hs | hs
    ·exact lo s hs
    ·rw [Ot.mp hs];exact O1 _
theorem BN:∀ (l:R) (acc:R),eh acc -> Ok l -> l.Pairwise (fun p q=>p.1 <= q.1) -> (∀ q ∈ acc,∀ p ∈ l,q.1 <= p.1) ->
  eh (l.foldl step acc) /\ ∀ x,Mem (l.foldl step acc) x ↔ Mem acc x \/ Mem l x
 | [],acc,c,_,_,_=>⟨c,fun x=>⟨fun h=>.inl h,fun h=>h.elim id fun k=>(cW _ k).elim⟩⟩
 | p :: l,acc,c,o,w,lo=>by
  obtain ⟨w1,w2⟩:=PH.mp w
  obtain ⟨c1,m1,l1⟩:=HS c (o p Oq) fun q hq=>lo q hq p Oq
  obtain ⟨c2,m2⟩:=BN l (step acc p) c1 (fun q hq=>o q (Ou _ hq)) w2 fun q hq s hs=>by
   have:=l1 q hq
   have:=w1 s hs
   lia
  refine ⟨c2,fun x=>?_⟩
  show Mem (l.foldl step (step acc p)) x ↔ _
  rw [m2,m1,mem_cons,or_assoc]
def Ib (ps r:R):Prop:=eh r /\ ∀ x,Mem r x ↔ Mem ps x
theorem E3 {l ps:R} (o:Ok l) (w:l.Pairwise fun p q=>p.1 <= q.1) (h:∀ x,Mem l x ↔ Mem ps x):Ib ps (nA l):=by
 obtain ⟨c,m⟩:=BN l [] kZ o w fun _ h=>(by cases h)
 exact ⟨c,fun x=>by
  show Mem (l.foldl step []) x ↔ _
  rw [m x,<- h x]
  exact ⟨fun k=>k.elim (fun z=>(cW _ z).elim) id,.inr⟩⟩
end Rw
namespace Rw
noncomputable def JC:List Int -> R
 | a :: b :: t=>(a,b - 1) :: JC t
 | _=>[]
noncomputable def pz (r:R):Int:=(r.map fun p=>p.2 - p.1 + 1).sum
noncomputable def Mc (P:Int -> Prop) (L:Int):Nat -> Int
 | 0=>0
 | n + 1=>Mc P L n + (by classical exact if P (L + n) then 1 else 0)
end Rw
namespace P
open PySem L2 M
noncomputable def i0:XS:=bd (xIf (xB (xOp dLt (ah 1) (xCB jd (ad (ah 0) aq)))) (kS (xOp dIx (ah 0) (ah 1))) jY) (kS (xC (.int 0)))
noncomputable def g6:List D -> Option O:=fnO 2 i0
noncomputable def aQ:List D -> Option D:=fun ds=>(g6 ds).map O.d
noncomputable def dW:XS:=xIf (xy (xB (xOp (dEq false) (xOp dIx (ah 5) (ah 7)) (xC (.int 0)))) (xB (xOp dGt (xOp bQ (xOp dIx (ah 5) (xOp bQ (ah 7) (xC (.int 1)))) (xOp dIx (ah 5) (xOp m5 (xOp bQ (ah 7) (xC (.int 2))) (xC (.int 8))))) (xC (.int 0))))) (fS (xOp bQ (ah 6) (xC (.int 1))) (ag 6)) jY
noncomputable def kU:XS:=bd (fS (xL (jL (ad (a7 (ad (xC (.int 0)) (ad (xUn iu (xC (.int 1))) aq))) (ad (a7 (ad (xUn iu (xC (.int 1))) (ad (xUn iu (xC (.int 1))) aq))) (ad (a7 (ad (xUn iu (xC (.int 1))) (ad (xC (.int 0)) aq))) (ad (a7 (ad (xUn iu (xC (.int 1))) (ad (xC (.int 1)) aq))) (ad (a7 (ad (xC (.int 0)) (ad (xC (.int 1)) aq))) (ad (a7 (ad (xC (.int 1)) (ad (xC (.int 1)) aq))) (ad (a7 (ad (xC (.int 1)) (ad (xC (.int 0)) aq))) (ad (a7 (ad (xC (.int 1)) (ad (xUn iu (xC (.int 1))) aq))) aq)))))))))) (ag 4)) (bd (fS (xL (bF [none,none,some 0,some 1,some 2] (xIt (ah 4)) (aU (ao (ag 0) (ao (ag 1) aX))) eE (xCB xN (ad (lB false (a7 (ad (xOp bQ (ah 3) (ah 0)) (ad (xOp bQ (ah 4) (ah 1)) aq))) 2) aq)))) (ag 5)) (bd (xIf (xy (pd (ah 3)) (xB (xOp dLt (xCB t3 (ad (ah 5) aq)) (xC (.int 2))))) (kS (xC (.bl false))) jY) (bd (fS (xC (.int 0)) (ag 6)) (bd (f8 (xIt (xL (jL (ad (xC (.int 0)) (ad (xC (.int 2)) (ad (xC (.int 4)) (ad (xC (.int 6)) aq))))))) (ag 7) (dW)) (kS (xOp (dEq false) (ah 6) (xC (.int 1))))))))
noncomputable def mK:List D -> Option O:=fnO 8 kU
noncomputable def eS:List D -> Option D:=fun ds=>(mK ds).map O.d
noncomputable def cK:XS:=xIf (xy (xB (xOp dGt (xCB jd (ad (ah 3) aq)) (xC (.int 0)))) (xB (xOp (dEq false) (xOp bQ (xOp dIx (xOp dIx (ah 3) (xUn iu (xC (.int 1)))) (xC (.int 1))) (xC (.int 1))) (ah 4)))) (Cv 3 xPv (xUn iu (xC (.int 1))) (a7 (ad (xOp dIx (xOp dIx (ah 3) (xUn iu (xC (.int 1)))) (xC (.int 0))) (ad (aw 4) aq)))) (jX 3 xPv (xSh (a7 (ad (aw 4) (ad (aw 4) aq)))))
noncomputable def fV:XS:=bd (iT (jL aq) 3) (bd (f8 (xIt (xL (gP (xL (bF [none,some 2] (xIt (ah 0)) (ag 0) (xB (xOp (dEq false) (xOp dIx (ah 0) (xC (.int 1))) (ah 1))) (xOp dIx (ah 0) (xC (.int 0)))))))) (ag 4) (cK)) (jX 1 xPv (xSh (a7 (ad (aw 2) (ad (xCB kh (ad (ah 3) aq)) aq))))))
noncomputable def i4:XS:=bd (iT (jL aq) 1) (bd (f8 (xIt (xL (gP (xL (bF [none] (xIt (ah 0)) (ag 0) eE (xOp dIx (ah 0) (xC (.int 1)))))))) (ag 2) (fV)) (kS (xCB kh (ad (ah 1) aq))))
noncomputable def pF:List D -> Option O:=fnO 5 i4
noncomputable def c8:List D -> Option D:=fun ds=>(pF ds).map O.d
noncomputable def gh:XS:=kS (xCB jd (ad (xL (bF [none,none,none,some 0] (xIt (xC (.mtp [.mtp [.int (0),.int (-1),.int (1)],.mtp [.int (-1),.int (-1),.int (2)],.mtp [.int (-1),.int (0),.int (4)],.mtp [.int (-1),.int (1),.int (8)],.mtp [.int (0),.int (1),.int (16)],.mtp [.int (1),.int (1),.int (32)],.mtp [.int (1),.int (0),.int (64)],.mtp [.int (1),.int (-1),.int (128)]]))) (aU (ao (ag 0) (ao (ag 1) (ao (ag 2) aX)))) (xB (xOp (dEq true) (xOp (xZ) (ah 3) (ah 2)) (xC (.int 0)))) (aw 2))) aq))
noncomputable def fN:List D -> Option O:=fnO 1 gh
noncomputable def bL:List D -> Option D:=fun ds=>(fN ds).map O.d
noncomputable def i6:XS:=GC (xLT (bF [none,none,some 0,some 1,some 2] (mR 0) (aU (ao (ag 0) (ao (ag 1) aX))) (xB (lB true (a7 (ad (xOp bQ (ah 0) (ah 3)) (ad (xOp bQ (ah 1) (ah 4)) aq))) 2)) (a7 (ad (aw 0) (ad (aw 1) aq)))))
noncomputable def ik:List D -> Option O:=fnO 3 i6
noncomputable def bj:List D -> Option D:=fun ds=>(ik ds).map O.d
noncomputable def kc:XS:=kS (xCB t3 (ad (xL (bF [none,none] (xIt (ah 0)) (aU (ao (ag 0) (ao (ag 1) aX))) eE (xOp bQ (xOp x4 (ah 1) (ah 0)) (xC (.int 1))))) aq))
noncomputable def jz:List D -> Option O:=fnO 1 kc
noncomputable def cJ:List D -> Option D:=fun ds=>(jz ds).map O.d
noncomputable def eL:XS:=xIf (xy (pd (ah 1)) (xB (xOp dLe (ah 2) (xOp bQ (xOp dIx (xOp dIx (ah 1) (xUn iu (xC (.int 1)))) (xC (.int 1))) (xC (.int 1)))))) (Cv 1 xPv (xUn iu (xC (.int 1))) (a7 (ad (xOp dIx (xOp dIx (ah 1) (xUn iu (xC (.int 1)))) (xC (.int 0))) (ad (xCB BA (ad (xOp dIx (xOp dIx (ah 1) (xUn iu (xC (.int 1)))) (xC (.int 1))) (ad (ah 3) aq))) aq)))) (jX 1 xPv (xSh (a7 (ad (aw 2) (ad (aw 3) aq)))))
noncomputable def rm:XS:=bd (iT (jL aq) 1) (bd (f8 (xIt (xL (Bo fW (ad (xL (bF [none,none] (xIt (ah 0)) (aU (ao (ag 0) (ao (ag 1) aX))) (xB (xOp dLe (ah 0) (ah 1))) (a7 (ad (aw 0) (ad (aw 1) aq))))) aq)))) (aU (ao (ag 2) (ao (ag 3) aX))) (eL)) (kS (xCB kh (ad (ah 1) aq))))
noncomputable def oT:List D -> Option O:=fnO 4 rm
noncomputable def fH:List D -> Option D:=fun ds=>(oT ds).map O.d
noncomputable def eM:XS:=Cu 1 xPv (xL (bF [none,none,some 2] (xIt (ah 3)) (aU (ao (ag 0) (ao (ag 1) aX))) eE (a7 (ad (aw 2) (ad (aw 0) (ad (aw 1) aq))))))
noncomputable def gi:XS:=bd (iT (jL aq) 1) (bd (f8 (xIt (aw 0)) (aU (ao (ag 2) (ao (ag 3) aX))) (eM)) (zS 1))
noncomputable def dJ:List D -> Option O:=fnO 4 gi
noncomputable def bM:List D -> Option D:=fun ds=>(dJ ds).map O.d
noncomputable def wg:XS:=bd (fS (xOp bQ (ah 0) (xOp jl (xC (.int 256)) (ah 0))) (ag 1)) (kS (xCB jd (ad (xL (bF [none,some 0,some 1] (xIt (xC (.mtp [.int (1),.int (4),.int (16),.int (64)]))) (ag 0) (xy (xB (xOp (dEq false) (xOp (xZ) (ah 1) (ah 0)) (xC (.int 0)))) (xB (xOp (dEq true) (xOp (xZ) (ah 2) (xOp bQ (xOp jl (xC (.int 2)) (ah 0)) (xOp jl (xC (.int 4)) (ah 0)))) (xC (.int 0))))) (aw 0))) aq)))
noncomputable def sO:List D -> Option O:=fnO 2 wg
noncomputable def jx:List D -> Option D:=fun ds=>(sO ds).map O.d
noncomputable def kT:XS:=xIf (pd (nU 0 (bC eS (ad (aw 0) (ad (aw 7) (ad (aw 6) (ad (aw 3) aq))))))) (bd (zQ 0 (a7 (ad (aw 7) (ad (aw 6) aq)))) (jX 5 xPv (xSh (a7 (ad (aw 7) (ad (aw 6) aq)))))) jY
noncomputable def qN:XS:=bd (fS (xL (Bo fW (ad (xL (ir 0 (bF [none,none,some 0,some 1,some 2] (mR 0) (aU (ao (ag 0) (ao (ag 1) aX))) (xB (lB true (a7 (ad (xOp bQ (ah 0) (ah 3)) (ad (xOp bQ (ah 1) (ah 4)) aq))) 2)) (a7 (ad (aw 1) (ad (aw 0) aq)))))) aq))) (ag 4)) (bd (iT (jL aq) 5) (bd (f8 (xIt (aw 4)) (aU (ao (ag 6) (ao (ag 7) aX))) (kT)) (zR 5)))
noncomputable def kE:HM:=fnH 8 qN
noncomputable def gb:XS:=bd (fS (xOp m5 (ah 6) (ah 3)) (ag 7)) (bd (fS (xOp ua (ah 6) (ah 3)) (ag 8)) (xIf (xOr (xB (xOp (dEq false) (ah 5) (xC (.int 0)))) (xy (xB (xOp (dEq false) (ah 5) (xC (.int 1)))) (xOr (xB (xOp (dIn false) (ah 7) (a7 (ad (xC (.int 0)) (ad (xOp x4 (ah 3) (xC (.int 1))) aq))))) (xB (xOp (dIn false) (ah 8) (a7 (ad (xC (.int 0)) (ad (xOp x4 (ah 4) (xC (.int 1))) aq)))))))) (jX 2 xPv (xSh (a7 (ad (aw 7) (ad (aw 8) aq))))) jY))
noncomputable def l4:XS:=jX 2 xPv (xSh (a7 (ad (xOp bQ (xOp m5 (ah 10) (xC (.int 7))) (ah 6)) (ad (xOp m5 (xOp ua (ah 10) (xC (.int 7))) (xC (.int 7))) aq))))
noncomputable def l5:XS:=bd (fS (xOp ua (xOp m5 (xOp jl (ah 9) (xC (.int 48271))) (xC (.int 2147483647))) (xC (.int 37))) (ag 10)) (f8 (zT (ad (xOp bQ (xC (.int 1)) (xOp m5 (xOp ua (ah 10) (xC (.int 49))) (xC (.int 2)))) aq)) (ag 6) (l4))
noncomputable def kb:XS:=bd (fS (bC aQ (ad (aw 0) (ad (xC (.int 0)) aq))) (ag 1)) (bd (iT (jL aq) 2) (bd (fS (xOp bQ (xC (.int 2)) (xOp m5 (xOp ua (ah 1) (xC (.int 6))) (xC (.int 3)))) (ag 3)) (bd (fS (xOp bQ (xC (.int 2)) (xOp m5 (xOp ua (ah 1) (xC (.int 18))) (xC (.int 3)))) (ag 4)) (bd (fS (xOp m5 (ah 1) (xC (.int 3))) (ag 5)) (bd (f8 (zT (ad (xOp jl (ah 3) (ah 4)) aq)) (ag 6) (gb)) (bd (f8 (xIt (xSl (ah 0) (wb (xC (.int 1))) (wb (xC (.int 10))))) (ag 9) (l5)) (zS 2)))))))
noncomputable def vx:List D -> Option O:=fnO 11 kb
noncomputable def iG:List D -> Option D:=fun ds=>(vx ds).map O.d
noncomputable def hZ:XS:=kS (xCB t3 (ad (xL (bF [none,none] (xIt (ah 0)) (aU (ao (ag 0) (ao (ag 1) aX))) eE (bC cJ (ad (aw 1) aq)))) aq))
noncomputable def gB:List D -> Option O:=fnO 1 hZ
noncomputable def ci:List D -> Option D:=fun ds=>(gB ds).map O.d
noncomputable def wf:XS:=bd (fS (xCB t3 (ad (xL (bF [none,none,none,some 0,some 1,some 2] (xIt (xC (.mtp [.mtp [.int (0),.int (-1),.int (1)],.mtp [.int (-1),.int (-1),.int (2)],.mtp [.int (-1),.int (0),.int (4)],.mtp [.int (-1),.int (1),.int (8)],.mtp [.int (0),.int (1),.int (16)],.mtp [.int (1),.int (1),.int (32)],.mtp [.int (1),.int (0),.int (64)],.mtp [.int (1),.int (-1),.int (128)]]))) (aU (ao (ag 0) (ao (ag 1) (ao (ag 2) aX)))) (xB (lB false (a7 (ad (xOp bQ (ah 4) (ah 0)) (ad (xOp bQ (ah 5) (ah 1)) aq))) 3)) (aw 2))) aq)) (ag 4)) (kS (zP (xOp (dEq false) (bC jx (ad (aw 4) aq)) (xC (.int 1))) (Ki (GA (ah 3)) (xOp dGe (bC bL (ad (aw 4) aq)) (xC (.int 2))))))
noncomputable def qS:List D -> Option O:=fnO 5 wf
noncomputable def jv:List D -> Option D:=fun ds=>(qS ds).map O.d
noncomputable def cA:XS:=bd (xIf (xOr (Gz (pd (Cw 1))) (xB (xOp (dEq true) (xFl (xOp dIx (xOp dIx (Cw 1) (xUn iu (xC (.int 1)))) (xC (.int 0)))) (ah 2)))) (jX 1 xPv (GE (xz (xSh (aw 2)) (xz (Gw Gy) Gy)))) jY) (jX 1 (xPi (xPi xPv (xUn iu (xC (.int 1)))) (xC (.int 1))) (xSh (a7 (ad (aw 3) (ad (aw 4) aq)))))
noncomputable def i7:XS:=bd (iT (jL aq) 1) (bd (f8 (xIt (xL (Bo fW (ad (xL (bF [none,none,none] (xIt (ah 0)) (aU (ao (ag 0) (ao (ag 1) (ao (ag 2) aX)))) (xB (xOp dLe (ah 1) (ah 2))) (a7 (ad (aw 0) (ad (aw 1) (ad (aw 2) aq)))))) aq)))) (aU (ao (ag 2) (ao (ag 3) (ao (ag 4) aX)))) (cA)) (LH 1 (kS (xCB kh (ad (xL (bF [none,none] (xIt (aw 1)) (aU (ao (ag 0) (ao (ag 1) aX))) eE (a7 (ad (aw 0) (ad (bC fH (ad (aw 1) aq)) aq))))) aq)))))
noncomputable def il:List D -> Option O:=fnO 5 i7
noncomputable def b9:List D -> Option D:=fun ds=>(il ds).map O.d
noncomputable def l6:XS:=GB 2 (aw 3)
noncomputable def qY:XS:=zO 4 2 kE (ad (aw 7) (ad (aw 8) (ad (aw 1) aq)))
noncomputable def gc:XS:=bd (fS (xCB jd (ad (ah 4) aq)) (ag 6)) (bd (f8 (xIt (xL (jL (ad (a7 (ad (xC (.int 0)) (ad (xUn iu (xC (.int 1))) aq))) (ad (a7 (ad (xUn iu (xC (.int 1))) (ad (xC (.int 0)) aq))) (ad (a7 (ad (xC (.int 0)) (ad (xC (.int 1)) aq))) (ad (a7 (ad (xC (.int 1)) (ad (xC (.int 0)) aq))) aq))))))) (aU (ao (ag 7) (ao (ag 8) aX))) (qY)) (xIf (xB (xOp (dEq false) (xCB jd (ad (ah 4) aq)) (ah 6))) (pP (xL (kR 2)) 4) jY))
noncomputable def mV:XS:=bd (wa Gv 2) (bd (f8 (xIt (aw 0)) (ag 3) (l6)) (bd (iT (jL aq) 4) (bd (f8 (zT (ad (xOp bQ (xC (.int 1)) (xCB jd (ad (ah 0) aq))) aq)) (ag 5) (gc)) (kS (xC .non)))))
noncomputable def oQ:List D -> Option O:=fnO 9 mV
noncomputable def gz:List D -> Option D:=fun ds=>(oQ ds).map O.d
noncomputable def iV:XS:=Cu 1 xPv (xL (bF [none,some 2] (GD (ad (ah 3) (ad (xOp bQ (ah 4) (xC (.int 1))) aq))) (ag 0) eE (a7 (ad (aw 0) (ad (aw 1) aq)))))
noncomputable def l9:XS:=bd (xIf (xB (xOp dGt (bC ci (ad (aw 0) aq)) (xC (.int (1000))))) (Gx) jY) (bd (iT (jL aq) 1) (bd (f8 (xIt (bC bM (ad (aw 0) aq))) (aU (ao (ag 2) (ao (ag 3) (ao (ag 4) aX)))) (iV)) (zS 1)))
noncomputable def g7:List D -> Option O:=fnO 5 l9
noncomputable def cg:List D -> Option D:=fun ds=>(g7 ds).map O.d
noncomputable def hV:XS:=xIf (pd (nU 0 (bC jv (ad (aw 0) (ad (xOp dIx (ah 4) (xC (.int 0))) (ad (xOp dIx (ah 4) (xC (.int 1))) (ad (aw 2) aq))))))) (bd (zQ 0 (aw 4)) (jX 3 xPv (xSh (aw 4)))) jY
noncomputable def ke:XS:=bd (iT (jL aq) 3) (bd (f8 (xIt (aw 1)) (ag 4) (hV)) (zR 3))
noncomputable def ez:HM:=fnH 5 ke
noncomputable def j5:XS:=tV 2 0 ez (ad (nU 0 (bC bj (ad (aw 0) (ad (aw 3) (ad (aw 4) aq))))) (ad (aw 1) aq))
noncomputable def i8:XS:=bd (iT (jL aq) 2) (bd (f8 (xIt (xC (.mtp [.mtp [.int (0),.int (-1)],.mtp [.int (-1),.int (0)],.mtp [.int (0),.int (1)],.mtp [.int (1),.int (0)]]))) (aU (ao (ag 3) (ao (ag 4) aX))) (j5)) (zR 2))
noncomputable def fe:HM:=fnH 5 i8
noncomputable def cZ:XT:=xB (xOp dGt (xCB jd (ad (ah 3) aq)) (ah 4))
noncomputable def fm:XS:=bd (fS (xCB jd (ad (ah 3) aq)) (ag 4)) (tV 3 2 fe (ad (aw 1) aq))
noncomputable def kW:XS:=bd (wa (xA (bF [none] (xIt (bC cg (ad (aw 0) aq))) (ag 0) eE (a7 (ad (aw 0) (ad (xC (.bl true)) aq))))) 2) (bd (iT (jL aq) 3) (bd (fS (xUn iu (xC (.int 1))) (ag 4)) (bd (gQ (cZ) (fm)) (pP (bC b9 (ad (xL (ir 2 (bF [none,none] (mR 2) (aU (ao (ag 0) (ao (ag 1) aX))) eE (a7 (ad (aw 1) (ad (aw 0) (ad (aw 0) aq))))))) aq)) 3))))
noncomputable def gC:List D -> Option O:=fnO 5 kW
noncomputable def eT:List D -> Option D:=fun ds=>(gC ds).map O.d
noncomputable def Bv:XS:=bd (fS (xOp (dEq false) (xOp m5 (xOp ua (bC aQ (ad (aw 0) (ad (xC (.int 2)) aq))) (xC (.int 5))) (xC (.int 2))) (xC (.int 0))) (ag 1)) (bd (fS (xOp jl (xOp m5 (xOp ua (bC aQ (ad (aw 0) (ad (xC (.int 0)) aq))) (xC (.int 3))) (xC (.int 2))) (xOp m5 (bC aQ (ad (aw 0) (ad (xC (.int 1)) aq))) (xOp GT (xC (.int 10)) (xC (.int 50))))) (ag 2)) (bd (fS (xL (bF [none,none,some 2] (xIt (bC iG (ad (aw 0) aq))) (aU (ao (ag 0) (ao (ag 1) aX))) eE (a7 (ad (xOp bQ (ah 0) (ah 2)) (ad (xOp x4 (ah 1) (ah 2)) aq))))) (ag 3)) (bd (fS (bC gz (ad (aw 3) (ad (aw 1) aq))) (ag 4)) (bd (fS (bC eT (ad (bC c8 (ad (aw 3) aq)) (ad (aw 1) aq))) (ag 5)) (bd (xIf (xOr (Gz (pd (xCB wt (ad (ah 5) (ad (xC (.ty "tuple")) aq))))) (xOr (xB (xOp (dEq true) (xCB jd (ad (ah 5) aq)) (xC (.int 2)))) (Gz (pd (xCB wt (ad (xOp dIx (ah 5) (xC (.int 1))) (ad (xC (.ty "list")) aq))))))) (kS (xC (.bl false))) jY) (kS (zP (xOp (Jg true) (ah 4) (xC .non)) (zP (xOp (dEq false) (xOp dIx (ah 5) (xC (.int 1))) (xOp dIx (ah 4) (xC (.int 1)))) (xOp (dEq false) (xOp dIx (ah 5) (xC (.int 0))) (bC c8 (ad (xOp dIx (ah 4) (xC (.int 0))) aq)))))))))))
noncomputable def E4:List D -> Option O:=fnO 6 Bv
noncomputable def KK:List D -> Option D:=fun ds=>(E4 ds).map O.d
noncomputable abbrev fM (K:W.Frag):Sp:=iq K 2 g6
noncomputable def pG (K:W.Frag):{ t:TS // SS K t i0 }:=⟨_,aN (qK (bS (SE.p (aH K8 (aj 1) ((gR lF (a5 (aj 0) bE)).p)))) (gI (aH fK (aj 0) (aj 1))) ip) (gI (s_c rfl))⟩
theorem zd {K:W.Frag} {vs:List V} {H:Hp} {Q:VK} {E:XK} (h:fM K vs H Q E):(pG K).1 { nx:=fun _ H'=>Q .non H',rt:=Q } (bg ["_law_script", "_law_k"] vs) H:=d8 (pG K).2 rfl h
noncomputable abbrev jG (K:W.Frag):Sp:=iq K 4 mK
noncomputable def sZ (K:W.Frag):{ t:TS // SS K t kU }:=⟨_,aN (du ((gH (af (bn (af (s_c rfl) (af (j4 eJ ((s_c rfl).p)) au))) (af (bn (af (j4 eJ ((s_c rfl).p)) (af (j4 eJ ((s_c rfl).p)) au))) (af (bn (af (j4 eJ ((s_c rfl).p)) (af (s_c rfl) au))) (af (bn (af (j4 eJ ((s_c rfl).p)) (af (s_c rfl) au))) (af (bn (af (s_c rfl) (af (s_c rfl) au))) (af (bn (af (s_c rfl) (af (s_c rfl) au))) (af (bn (af (s_c rfl) (af (s_c rfl) au))) (af (bn (af (s_c rfl) (af (j4 eJ ((s_c rfl).p)) au))) au))))))))).e) (ar 4)) (aN (du ((dU (eu (aj 4)) (fE (aJ (ar 0) (aJ (ar 1) dZ)) (aF (aF cE))) lV (gR Kv (a5 ((IC (i:=2) (bn (af (aH cX (aj 3) (aj 0)) (af (aH cX (aj 4) (aj 1)) au)))).p) bE))).e) (ar 5)) (aN (qK (vP (o6 (aj 3)) (bS (SE.p (aH K8 ((gR BB (a5 (aj 5) bE)).p) ((s_c rfl).p))))) (gI (s_c rfl)) ip) (aN (du (s_c rfl) (ar 6)) (aN (fU (iy ((gH (af (s_c rfl) (af (s_c rfl) (af (s_c rfl) (af (s_c rfl) au))))).e)) (ar 7) (qK (vP (bS (SE.p (aH (lA false) ((aH fK (aj 5) (aj 7)).p) ((s_c rfl).p)))) (bS (SE.p (aH Hz ((aH cX ((aH fK (aj 5) ((aH cX (aj 7) ((s_c rfl).p)).p)).p) ((aH fK (aj 5) ((aH jU ((aH cX (aj 7) ((s_c rfl).p)).p) ((s_c rfl).p)).p)).p)).p) ((s_c rfl).p))))) (du (aH cX (aj 6) ((s_c rfl).p)) (ar 6)) ip)) (gI (aH (lA false) (aj 6) ((s_c rfl).p)))))))⟩
theorem A5 {K:W.Frag} {vs:List V} {H:Hp} {Q:VK} {E:XK} (h:jG K vs H Q E):(sZ K).1 { nx:=fun _ H'=>Q .non H',rt:=Q } (bg ["_law_there", "_law_x", "_law_y", "_law_ends", "_law_steps", "_law_bits", "_law_total", "_law_k"] vs) H:=d8 (sZ K).2 rfl h
noncomputable abbrev hJ (K:W.Frag):Sp:=iq K 1 pF
noncomputable def pH (K:W.Frag):{ t:TS // SS K t i4 }:=⟨_,aN (fR (gH au)) (aN (fU (iy ((vQ (((dU (eu (aj 0)) (ar 0) lV (aH fK (aj 0) ((s_c rfl).p))).e).p)).e)) (ar 2) (aN (fR (gH au)) (aN (fU (iy ((vQ (((dU (eu (aj 0)) (ar 0) (bS (SE.p (aH (lA false) ((aH fK (aj 0) ((s_c rfl).p)).p) (aj 1)))) (aH fK (aj 0) ((s_c rfl).p))).e).p)).e)) (ar 4) (qK (vP (bS (SE.p (aH Hz ((gR lF (a5 (aj 3) bE)).p) ((s_c rfl).p)))) (bS (SE.p (aH (lA false) ((aH cX ((aH fK ((aH fK (aj 3) ((j4 eJ ((s_c rfl).p)).p)).p) ((s_c rfl).p)).p) ((s_c rfl).p)).p) (aj 4))))) (FV (bn (af (aH fK ((aH fK (aj 3) ((j4 eJ ((s_c rfl).p)).p)).p) ((s_c rfl).p)) (af (aG 4) au))) (iJ 3) ((j4 eJ ((s_c rfl).p)).p)) (jE (iJ 3) ((bn (af (aG 4) (af (aG 4) au))).t)))) (jE (iJ 1) ((bn (af (aG 2) (af (gR qO (a5 (aj 3) bE)) au))).t))))) (gI (gR qO (a5 (aj 1) bE))))⟩
theorem ze {K:W.Frag} {vs:List V} {H:Hp} {Q:VK} {E:XK} (h:hJ K vs H Q E):(pH K).1 { nx:=fun _ H'=>Q .non H',rt:=Q } (bg ["_law_spots_here", "_law_rows", "_law_y", "_law_row", "_law_x"] vs) H:=d8 (pH K).2 rfl h
noncomputable abbrev dL (K:W.Frag):Sp:=iq K 1 fN
noncomputable def jR (K:W.Frag):{ t:TS // SS K t gh }:=⟨_,gI (gR lF (a5 (((dU (eu ((s_g).p)) (fE (aJ (ar 0) (aJ (ar 1) (aJ (ar 2) dZ))) (aF (aF (aF cE)))) (bS (SE.p (aH (lA true) ((aH FB (aj 3) (aj 2)).p) ((s_c rfl).p)))) (aG 2)).e).p) bE))⟩
theorem qI {K:W.Frag} {vs:List V} {H:Hp} {Q:VK} {E:XK} (h:dL K vs H Q E):(jR K).1 { nx:=fun _ H'=>Q .non H',rt:=Q } (bg ["number"] vs) H:=d8 (jR K).2 rfl h
noncomputable abbrev fi (K:W.Frag):Sp:=iq K 3 ik
noncomputable def lQ (K:W.Frag):{ t:TS // SS K t i6 }:=⟨_,JX (SF.t (xp (EF 0) (Ax (aJ (ar 0) (aJ (ar 1) dZ)) (aF (aF cE))) (JY (zo (i:=2) (bn (af (aH cX (aj 0) (aj 3)) (af (aH cX (aj 1) (aj 4)) au))))) (bn (af (aG 0) (af (aG 1) au)))))⟩
theorem uD {K:W.Frag} {vs:List V} {H:Hp} {Q:VK} {E:XK} (h:fi K vs H Q E):(lQ K).1 { nx:=fun _ H'=>Q .non H',rt:=Q } (bg ["kept", "dx", "dy"] vs) H:=d8 (lQ K).2 rfl h
noncomputable abbrev fZ (K:W.Frag):Sp:=iq K 1 jz
noncomputable def nF (K:W.Frag):{ t:TS // SS K t kc }:=⟨_,gI (gR BB (a5 (((dU (eu (aj 0)) (fE (aJ (ar 0) (aJ (ar 1) dZ)) (aF (aF cE))) lV (aH cX ((aH Ce (aj 1) (aj 0)).p) ((s_c rfl).p))).e).p) bE))⟩
theorem xm {K:W.Frag} {vs:List V} {H:Hp} {Q:VK} {E:XK} (h:fZ K vs H Q E):(nF K).1 { nx:=fun _ H'=>Q .non H',rt:=Q } (bg ["row"] vs) H:=d8 (nF K).2 rfl h
noncomputable abbrev ll (K:W.Frag):Sp:=iq K 1 oT
noncomputable def vJ (K:W.Frag):{ t:TS // SS K t rm }:=⟨_,aN (fR (gH au)) (aN (fU (iy ((FN rH (a5 (((dU (eu (aj 0)) (fE (aJ (ar 0) (aJ (ar 1) dZ)) (aF (aF cE))) (bS (SE.p (aH JK (aj 0) (aj 1)))) (bn (af (aG 0) (af (aG 1) au)))).e).p) bE)).e)) (fE (aJ (ar 2) (aJ (ar 3) dZ)) (aF (aF cE))) (qK (vP (o6 (aj 1)) (bS (SE.p (aH JK (aj 2) ((aH cX ((aH fK ((aH fK (aj 1) ((j4 eJ ((s_c rfl).p)).p)).p) ((s_c rfl).p)).p) ((s_c rfl).p)).p))))) (FV (bn (af (aH fK ((aH fK (aj 1) ((j4 eJ ((s_c rfl).p)).p)).p) ((s_c rfl).p)) (af (gR I9 (a5 ((aH fK ((aH fK (aj 1) ((j4 eJ ((s_c rfl).p)).p)).p) ((s_c rfl).p)).p) (a5 (aj 3) bE))) au))) (iJ 1) ((j4 eJ ((s_c rfl).p)).p)) (jE (iJ 1) ((bn (af (aG 2) (af (aG 3) au))).t)))) (gI (gR qO (a5 (aj 1) bE))))⟩
theorem DE {K:W.Frag} {vs:List V} {H:Hp} {Q:VK} {E:XK} (h:ll K vs H Q E):(vJ K).1 { nx:=fun _ H'=>Q .non H',rt:=Q } (bg ["pairs", "stretches", "a", "b"] vs) H:=d8 (vJ K).2 rfl h
noncomputable abbrev dM (K:W.Frag):Sp:=iq K 1 dJ
noncomputable def jS (K:W.Frag):{ t:TS // SS K t gi }:=⟨_,aN (fR (gH au)) (aN (fU (iy (aG 0)) (fE (aJ (ar 2) (aJ (ar 3) dZ)) (aF (aF cE))) (FP (iJ 1) ((dU (eu (aj 3)) (fE (aJ (ar 0) (aJ (ar 1) dZ)) (aF (aF cE))) lV (bn (af (aG 2) (af (aG 0) (af (aG 1) au))))).e))) (Bd 1))⟩
theorem qJ {K:W.Frag} {vs:List V} {H:Hp} {Q:VK} {E:XK} (h:dM K vs H Q E):(jS K).1 { nx:=fun _ H'=>Q .non H',rt:=Q } (bg ["picture", "stretches", "y", "row"] vs) H:=d8 (jS K).2 rfl h
noncomputable abbrev nL (K:W.Frag):Sp:=iq K 1 sO
noncomputable def y6 (K:W.Frag):{ t:TS // SS K t wg }:=⟨_,aN (du (aH cX (aj 0) ((aH vL ((s_c rfl).p) (aj 0)).p)) (ar 1)) (gI (gR lF (a5 (((dU (eu ((s_g).p)) (ar 0) (vP (bS (SE.p (aH (lA false) ((aH FB (aj 1) (aj 0)).p) ((s_c rfl).p)))) (bS (SE.p (aH (lA true) ((aH FB (aj 2) ((aH cX ((aH vL ((s_c rfl).p) (aj 0)).p) ((aH vL ((s_c rfl).p) (aj 0)).p)).p)).p) ((s_c rfl).p))))) (aG 0)).e).p) bE)))⟩
theorem FE {K:W.Frag} {vs:List V} {H:Hp} {Q:VK} {E:XK} (h:nL K vs H Q E):(y6 K).1 { nx:=fun _ H'=>Q .non H',rt:=Q } (bg ["number", "twice"] vs) H:=d8 (y6 K).2 rfl h
noncomputable abbrev nK (K:W.Frag):Sp:=spH K 4 kE
noncomputable def y3 (K:W.Frag):{ t:TS // SS K t qN }:=⟨_,aN (du ((FN rH (a5 (((Ci 0 (xp (EF 0) (Ax (aJ (ar 0) (aJ (ar 1) dZ)) (aF (aF cE))) (JY (zo (i:=2) (bn (af (aH cX (aj 0) (aj 3)) (af (aH cX (aj 1) (aj 4)) au))))) (bn (af (aG 1) (af (aG 0) au))))).e).p) bE)).e) (ar 4)) (aN (fR (gH au)) (aN (fU (iy (aG 4)) (fE (aJ (ar 6) (aJ (ar 7) dZ)) (aF (aF cE))) (qK (o6 ((Bb 0 (cG (E:=E0) (af (aG 0) (af (aG 7) (af (aG 6) (af (aG 3) au)))) (aC (aC (aC (aC (fun _ _ h=>bi h))))))).p)) (aN (FT (i:=0) (bn (af (aG 7) (af (aG 6) au)))) (jE (iJ 5) ((bn (af (aG 7) (af (aG 6) au))).t))) ip)) (Bc 5)))⟩
theorem FD {K:W.Frag} {vs:List V} {H:Hp} {Q:VK} {E:XK} (h:nK K vs H Q E):(y3 K).1 { nx:=fun _ H'=>Q .non H',rt:=Q } (bg ["_law_there", "_law_dx", "_law_dy", "_law_ends", "_law_free", "_law_taken_here", "_law_y", "_law_x"] vs) H:=A6 (y3 K).2 rfl h
noncomputable abbrev lh (K:W.Frag):Sp:=iq K 1 vx
noncomputable def vH (K:W.Frag):{ t:TS // SS K t kb }:=⟨_,aN (du (cG (E:=E0) (af (aG 0) (af (s_c rfl) au)) (aC (aC (fun _ _ h=>bi h)))) (ar 1)) (aN (fR (gH au)) (aN (du (aH cX ((s_c rfl).p) ((aH jU ((aH pJ (aj 1) ((s_c rfl).p)).p) ((s_c rfl).p)).p)) (ar 3)) (aN (du (aH cX ((s_c rfl).p) ((aH jU ((aH pJ (aj 1) ((s_c rfl).p)).p) ((s_c rfl).p)).p)) (ar 4)) (aN (du (aH jU (aj 1) ((s_c rfl).p)) (ar 5)) (aN (fU (Ay ((aH vL (aj 3) (aj 4)).p)) (ar 6) (aN (du (aH jU (aj 6) (aj 3)) (ar 7)) (aN (du (aH pJ (aj 6) (aj 3)) (ar 8)) (qK (FR (bS (SE.p (aH (lA false) (aj 5) ((s_c rfl).p)))) (vP (bS (SE.p (aH (lA false) (aj 5) ((s_c rfl).p)))) (FR (bS (SE.p (aH (K7 false) (aj 7) ((bn (af (s_c rfl) (af (aH Ce (aj 3) ((s_c rfl).p)) au))).p)))) (bS (SE.p (aH (K7 false) (aj 8) ((bn (af (s_c rfl) (af (aH Ce (aj 4) ((s_c rfl).p)) au))).p))))))) (jE (iJ 2) ((bn (af (aG 7) (af (aG 8) au))).t)) ip)))) (aN (fU (iy (Mi (aj 0) (FS ((s_c rfl).p)) (FS ((s_c rfl).p)))) (ar 9) (aN (du (aH pJ ((aH jU ((aH vL (aj 9) ((s_c rfl).p)).p) ((s_c rfl).p)).p) ((s_c rfl).p)) (ar 10)) (fU (Ay ((aH cX ((s_c rfl).p) ((aH jU ((aH pJ (aj 10) ((s_c rfl).p)).p) ((s_c rfl).p)).p)).p)) (ar 6) (jE (iJ 2) ((bn (af (aH cX ((aH jU (aj 10) ((s_c rfl).p)).p) (aj 6)) (af (aH jU ((aH pJ (aj 10) ((s_c rfl).p)).p) ((s_c rfl).p)) au))).t))))) (Bd 2)))))))⟩
theorem DC {K:W.Frag} {vs:List V} {H:Hp} {Q:VK} {E:XK} (h:lh K vs H Q E):(vH K).1 { nx:=fun _ H'=>Q .non H',rt:=Q } (bg ["_law_script", "_law_first", "_law_spots_here", "_law_wide", "_law_high", "_law_kind", "_law_k", "_law_x", "_law_y", "_law_cell", "_law_mixed"] vs) H:=d8 (vH K).2 rfl h
noncomputable abbrev eB (K:W.Frag):Sp:=iq K 1 gB
noncomputable def kH (K:W.Frag):{ t:TS // SS K t hZ }:=⟨_,gI (gR BB (a5 (((dU (eu (aj 0)) (fE (aJ (ar 0) (aJ (ar 1) dZ)) (aF (aF cE))) lV (cG (E:=E0) (af (aG 1) au) (aC (fun _ _ h=>bi h)))).e).p) bE))⟩
theorem tw {K:W.Frag} {vs:List V} {H:Hp} {Q:VK} {E:XK} (h:eB K vs H Q E):(kH K).1 { nx:=fun _ H'=>Q .non H',rt:=Q } (bg ["picture"] vs) H:=d8 (kH K).2 rfl h
noncomputable abbrev qX (K:W.Frag):Sp:=iq K 4 qS
noncomputable def B8 (K:W.Frag):{ t:TS // SS K t wf }:=⟨_,aN (du (gR BB (a5 (((dU (eu ((s_g).p)) (fE (aJ (ar 0) (aJ (ar 1) (aJ (ar 2) dZ))) (aF (aF (aF cE)))) (JY (IC (i:=3) (bn (af (aH cX (aj 4) (aj 0)) (af (aH cX (aj 5) (aj 1)) au))))) (aG 2)).e).p) bE)) (ar 4)) (gI (A9 ((aH (lA false) ((cG (E:=E0) (af (aG 4) au) (aC (fun _ _ h=>bi h))).p) ((s_c rfl).p)).p) (Lg ((JV (aj 3)).p) (aH Mf ((cG (E:=E0) (af (aG 4) au) (aC (fun _ _ h=>bi h))).p) ((s_c rfl).p)))))⟩
theorem HA {K:W.Frag} {vs:List V} {H:Hp} {Q:VK} {E:XK} (h:qX K vs H Q E):(B8 K).1 { nx:=fun _ H'=>Q .non H',rt:=Q } (bg ["kept", "x", "y", "ends", "number"] vs) H:=d8 (B8 K).2 rfl h
noncomputable abbrev fj (K:W.Frag):Sp:=iq K 1 il
noncomputable def lR (K:W.Frag):{ t:TS // SS K t i7 }:=⟨_,aN (fR (gH au)) (aN (fU (iy ((FN rH (a5 (((dU (eu (aj 0)) (fE (aJ (ar 0) (aJ (ar 1) (aJ (ar 2) dZ))) (aF (aF (aF cE)))) (bS (SE.p (aH JK (aj 1) (aj 2)))) (bn (af (aG 0) (af (aG 1) (af (aG 2) au))))).e).p) bE)).e)) (fE (aJ (ar 2) (aJ (ar 3) (aJ (ar 4) dZ))) (aF (aF (aF cE)))) (aN (qK (FR (FQ (JZ (FW 1))) (bS (SE.p (aH (lA true) ((SQ.fl (IE fK (IE fK (FW 1) (((j4 eJ ((s_c rfl).p)).p).q)) (((s_c rfl).p).q))).p) (aj 2))))) (jE (iJ 1) (J2 (Ck ((aG 2).t) (Ck (JU F7) F7)))) ip) (jE (KN (KN (iJ 1) ((j4 eJ ((s_c rfl).p)).p)) ((s_c rfl).p)) ((bn (af (aG 3) (af (aG 4) au))).t)))) (Lf 1 (gI (gR qO (a5 (((dU (eu ((aG 1).p)) (fE (aJ (ar 0) (aJ (ar 1) dZ)) (aF (aF cE))) lV (bn (af (aG 0) (af (cG (E:=E0) (af (aG 1) au) (aC (fun _ _ h=>bi h))) au)))).e).p) bE)))))⟩
theorem uE {K:W.Frag} {vs:List V} {H:Hp} {Q:VK} {E:XK} (h:fj K vs H Q E):(lR K).1 { nx:=fun _ H'=>Q .non H',rt:=Q } (bg ["stretches", "pairs_by_row", "y", "a", "b"] vs) H:=d8 (lR K).2 rfl h
noncomputable abbrev lj (K:W.Frag):Sp:=iq K 2 oQ
noncomputable def vI (K:W.Frag):{ t:TS // SS K t mV }:=⟨_,aN (Ba JT) (aN (fU (iy (aG 0)) (ar 3) (JW (i:=2) (aG 3))) (aN (fR (gH au)) (aN (fU (Ay ((aH cX ((s_c rfl).p) ((gR lF (a5 (aj 0) bE)).p)).p)) (ar 5) (aN (du (gR lF (a5 (aj 4) bE)) (ar 6)) (aN (fU (iy ((gH (af (bn (af (s_c rfl) (af (j4 eJ ((s_c rfl).p)) au))) (af (bn (af (j4 eJ ((s_c rfl).p)) (af (s_c rfl) au))) (af (bn (af (s_c rfl) (af (s_c rfl) au))) (af (bn (af (s_c rfl) (af (s_c rfl) au))) au))))).e)) (fE (aJ (ar 7) (aJ (ar 8) dZ)) (aF (aF cE))) (JS (E0:=E0) (i:=2) (j:=4) (af (aG 7) (af (aG 8) (af (aG 1) au))) (aC (aC (aC (fun _ _ h=>bi h)))))) (qK (bS (SE.p (aH (lA false) ((gR lF (a5 (aj 4) bE)).p) (aj 6)))) (FU 4 ((HH 2).e)) ip)))) (gI (s_c rfl)))))⟩
theorem DD {K:W.Frag} {vs:List V} {H:Hp} {Q:VK} {E:XK} (h:lj K vs H Q E):(vI K).1 { nx:=fun _ H'=>Q .non H',rt:=Q } (bg ["_law_spots_here", "_law_ends", "_law_there", "_law_spot", "_law_taken_here", "_law_k", "_law_many", "_law_dx", "_law_dy"] vs) H:=d8 (vI K).2 rfl h
noncomputable abbrev hU (K:W.Frag):Sp:=iq K 1 g7
noncomputable def pI (K:W.Frag):{ t:TS // SS K t l9 }:=⟨_,aN (qK (bS (SE.p (aH Hz ((cG (E:=E0) (af (aG 0) au) (aC (fun _ _ h=>bi h))).p) ((s_c rfl).p)))) (HJ (t:=Ge)) ip) (aN (fR (gH au)) (aN (fU (iy (cG (E:=E0) (af (aG 0) au) (aC (fun _ _ h=>bi h)))) (fE (aJ (ar 2) (aJ (ar 3) (aJ (ar 4) dZ))) (aF (aF (aF cE)))) (FP (iJ 1) ((dU (SI.p (Jp (aj 3) ((aH cX (aj 4) ((s_c rfl).p)).p))) (ar 0) lV (bn (af (aG 0) (af (aG 1) au)))).e))) (Bd 1)))⟩
theorem zf {K:W.Frag} {vs:List V} {H:Hp} {Q:VK} {E:XK} (h:hU K vs H Q E):(pI K).1 { nx:=fun _ H'=>Q .non H',rt:=Q } (bg ["picture", "cells", "y", "a", "b"] vs) H:=d8 (pI K).2 rfl h
noncomputable abbrev f7 (K:W.Frag):Sp:=spH K 3 ez
noncomputable def nG (K:W.Frag):{ t:TS // SS K t ke }:=⟨_,aN (fR (gH au)) (aN (fU (iy (aG 1)) (ar 4) (qK (o6 ((Bb 0 (cG (E:=E0) (af (aG 0) (af (aH fK (aj 4) ((s_c rfl).p)) (af (aH fK (aj 4) ((s_c rfl).p)) (af (aG 2) au)))) (aC (aC (aC (aC (fun _ _ h=>bi h))))))).p)) (aN (FT (i:=0) (aG 4)) (jE (iJ 3) ((aG 4).t))) ip)) (Bc 3))⟩
theorem xn {K:W.Frag} {vs:List V} {H:Hp} {Q:VK} {E:XK} (h:f7 K vs H Q E):(nG K).1 { nx:=fun _ H'=>Q .non H',rt:=Q } (bg ["kept", "free", "ends", "taken", "cell"] vs) H:=A6 (nG K).2 rfl h
noncomputable abbrev fk (K:W.Frag):Sp:=spH K 2 fe
noncomputable def lS (K:W.Frag):{ t:TS // SS K t i8 }:=⟨_,aN (fR (gH au)) (aN (fU (iy (s_g)) (fE (aJ (ar 3) (aJ (ar 4) dZ)) (aF (aF cE))) (FO (E0:=E0) (i:=0) (j:=2) (af (Bb 0 (cG (E:=E0) (af (aG 0) (af (aG 3) (af (aG 4) au))) (aC (aC (aC (fun _ _ h=>bi h)))))) (af (aG 1) au)) (aC (aC (fun _ _ h=>bi h))))) (Bc 2))⟩
theorem uF {K:W.Frag} {vs:List V} {H:Hp} {Q:VK} {E:XK} (h:fk K vs H Q E):(lS K).1 { nx:=fun _ H'=>Q .non H',rt:=Q } (bg ["kept", "ends", "taken", "dx", "dy"] vs) H:=A6 (lS K).2 rfl h
noncomputable abbrev jH (K:W.Frag):Sp:=iq K 2 gC
noncomputable def tf (K:W.Frag):{ t:TS // SS K t kW }:=⟨_,aN (Ba (HG (dU (eu ((cG (E:=E0) (af (aG 0) au) (aC (fun _ _ h=>bi h))).p)) (ar 0) lV (bn (af (aG 0) (af (s_c rfl) au)))))) (aN (fR (gH au)) (aN (du (j4 eJ ((s_c rfl).p)) (ar 4)) (aN (HK (bS (SE.p (aH Hz ((gR lF (a5 (aj 3) bE)).p) (aj 4)))) (aN (du (gR lF (a5 (aj 3) bE)) (ar 4)) (FO (E0:=E0) (i:=2) (j:=3) (af (aG 1) au) (aC (fun _ _ h=>bi h))))) (FU 3 (cG (E:=E0) (af ((Ci 2 (xp (EF 2) (Ax (aJ (ar 0) (aJ (ar 1) dZ)) (aF (aF cE))) lV (bn (af (aG 1) (af (aG 0) (af (aG 0) au)))))).e) au) (aC (fun _ _ h=>bi h)))))))⟩
theorem A7 {K:W.Frag} {vs:List V} {H:Hp} {Q:VK} {E:XK} (h:jH K vs H Q E):(tf K).1 { nx:=fun _ H'=>Q .non H',rt:=Q } (bg ["picture", "ends", "kept", "taken", "taken_before"] vs) H:=d8 (tf K).2 rfl h
noncomputable abbrev tN (K:W.Frag):Sp:=iq K 1 E4
noncomputable def Fn (K:W.Frag):{ t:TS // SS K t Bv }:=⟨_,aN (du (aH (lA false) ((aH jU ((aH pJ ((cG (E:=E0) (af (aG 0) (af (s_c rfl) au)) (aC (aC (fun _ _ h=>bi h)))).p) ((s_c rfl).p)).p) ((s_c rfl).p)).p) ((s_c rfl).p)) (ar 1)) (aN (du (aH vL ((aH jU ((aH pJ ((cG (E:=E0) (af (aG 0) (af (s_c rfl) au)) (aC (aC (fun _ _ h=>bi h)))).p) ((s_c rfl).p)).p) ((s_c rfl).p)).p) ((aH jU ((cG (E:=E0) (af (aG 0) (af (s_c rfl) au)) (aC (aC (fun _ _ h=>bi h)))).p) ((aH K9 ((s_c rfl).p) ((s_c rfl).p)).p)).p)) (ar 2)) (aN (du ((dU (eu ((cG (E:=E0) (af (aG 0) au) (aC (fun _ _ h=>bi h))).p)) (fE (aJ (ar 0) (aJ (ar 1) dZ)) (aF (aF cE))) lV (bn (af (aH cX (aj 0) (aj 2)) (af (aH Ce (aj 1) (aj 2)) au)))).e) (ar 3)) (aN (du (cG (E:=E0) (af (aG 3) (af (aG 1) au)) (aC (aC (fun _ _ h=>bi h)))) (ar 4)) (aN (du (cG (E:=E0) (af (cG (E:=E0) (af (aG 3) au) (aC (fun _ _ h=>bi h))) (af (aG 1) au)) (aC (aC (fun _ _ h=>bi h)))) (ar 5)) (aN (qK (FR (FQ (o6 ((gR Ic (a5 (aj 5) (a5 (SE.p (s_c rfl)) bE))).p))) (FR (bS (SE.p (aH (lA true) ((gR lF (a5 (aj 5) bE)).p) ((s_c rfl).p)))) (FQ (o6 ((gR Ic (a5 ((aH fK (aj 5) ((s_c rfl).p)).p) (a5 (SE.p (s_c rfl)) bE))).p))))) (gI (s_c rfl)) ip) (gI (A9 ((aH JL (aj 4) ((s_c rfl).p)).p) (A9 ((aH (lA false) ((aH fK (aj 5) ((s_c rfl).p)).p) ((aH fK (aj 4) ((s_c rfl).p)).p)).p) (aH (lA false) ((aH fK (aj 5) ((s_c rfl).p)).p) ((cG (E:=E0) (af (aH fK (aj 4) ((s_c rfl).p)) au) (aC (fun _ _ h=>bi h))).p))))))))))⟩
theorem JM {K:W.Frag} {vs:List V} {H:Hp} {Q:VK} {E:XK} (h:tN K vs H Q E):(Fn K).1 { nx:=fun _ H'=>Q .non H',rt:=Q } (bg ["_law_script", "_law_ends", "_law_far", "_law_spots_here", "_law_due", "_law_found"] vs) H:=d8 (Fn K).2 rfl h
end P
namespace P
open PySem L2 M Rw
noncomputable def su (p:Int × Int):List Int:=[p.1,p.2]
theorem yx:∀ r:R,keys (r.map prD) = some (r.map su)
 | []=>rfl
 | p :: r=>by
  rw [Ox,keys,yx r]
  rfl
theorem EI:∀ {r:R},r ≠ [] -> aK (r.map prD) = none
 | [],h=>absurd rfl h
 | p :: r,_=>rfl
noncomputable def BZ:List Int -> Int × Int
 | [a,b]=>(a,b)
 | _=>(0,0)
noncomputable def kM (ps:R):R:=(gK (ps.map su)).map BZ
theorem mP (ps:R):(kM ps).map su = gK (ps.map su):=by
 unfold kM
 rw [OM]
 have h:∀ k ∈ gK (ps.map su),(su ∘ BZ) k = k:=fun k hk=>by
  have:=(gL _).mem_iff.mp hk
  obtain ⟨p,_,rfl⟩:=OI.mp this
  rfl
 rw [RE h,List.map_id']
theorem gM (ps:R):(kM ps).Perm ps:=by
 have h:=(gL (ps.map su)).map BZ
 rw [OM] at h
 have e:(BZ ∘ su) = id:=rfl
 rw [e,List.map_id] at h
 exact h
theorem F5 (ps:R):(kM ps).Pairwise fun p q=>p.1 <= q.1:=by
 have h:=nJ (ps.map su)
 rw [<- mP,Pw] at h
 refine h.imp fun {p q} e=>?_
 have e':(if q.1 = p.1 then HT.cu [q.2] [p.2] else decide (q.1 < p.1)) = false:=e
 by_cases hq:q.1 = p.1
 ·lia
 ·rw [Oi hq] at e'
  have:=Pq e'
  lia
theorem ph (ps:R) (h:ps.length < 30000):fW [wU ps] = some ((kM ps).map prD):=by
 show (if (ps.map prD).length < 30000 then _ else _) = _
 rw [Oj (by rw [Os];exact h)]
 by_cases e:ps = []
 ·subst e
  have e0:kM [] = []:=Qo.mp (by rw [(gM []).length_eq];rfl)
  have e1:dw [] = []:=Qo.mp (by rw [(eZ []).length_eq];rfl)
  show some ((dw []).map D.int) = _
  rw [e0,e1]
  rfl
 ·rw [EI e]
  dsimp only
  rw [yx]
  have:(kM ps).map prD = (gK (ps.map su)).map nQ:=by
   rw [<- mP,OM]
   rfl
  rw [this]
  rfl
noncomputable def ue (p:Int × Int):Bool:=decide (p.1 <= p.2)
noncomputable def vN (ps:R):R:=nA (kM (ps.filter ue))
theorem gY (ps:R):Ib ps (vN ps):=by
 refine E3 ?_ (F5 _) fun x=>?_
 ·intro p hp
  have:=(gM _).mem_iff.mp hp
  simpa [ue] using (O3.mp this).2
 ·rw [EY (gM _)]
  exact mem_filter ps x
theorem F8 (acc:R) (p:Int × Int):(step acc p).length <= acc.length + 1:=by
 rcases Qi acc with rfl | ⟨t,q,rfl⟩
 ·simp [Rw.step]
 ·rw [Qj,o7]
  split <;> simp
theorem vw:∀ (l acc:R),(l.foldl step acc).length <= acc.length + l.length
 | [],acc=>by simp
 | p :: l,acc=>by
  have h1:=vw l (step acc p)
  have h2:=F8 acc p
  rw [OP,Ow]
  lia
theorem aO {n:Nat} (h:n <= 100000):n <= LIM:=OD h (by rw [eP];decide)
theorem fY {n:Nat} (h:n <= 100000):n < LIM:=Pf h (by rw [eP];decide)
theorem Gk (a b:Int):D.tup [.int a,.int b] = prD (a,b):=rfl
theorem u5:∀ ps:R,ps.filterMap (fun p=>if p.1 <= p.2 then some (prD p) else none) = (ps.filter ue).map prD
 | []=>rfl
 | p :: t=>by
  rw [OW,Pz,u5 t]
  by_cases h:p.1 <= p.2
  ·simp [ue,h]
  ·simp [ue,h]
theorem CJ (ps:R):bR (aU (ao (ag 0) (ao (ag 1) aX))) (xB (xOp dLe (ah 0) (ah 1))) (a7 (ad (aw 0) (ad (aw 1) aq))) [.un,.un] (ps.map prD) = some ((ps.filter ue).map prD):=by
 rw [dE prD (fun p=>if p.1 <= p.2 then some (prD p) else none) ps,u5]
 intro p _
 by_cases h:p.1 <= p.2 <;> simp [fO,h]
theorem AL (pre:R) (p:Int × Int):nA (pre ++ [p]) = step (nA pre) p:=by
 unfold nA
 rw [Qt]
 rfl
theorem E2 (pre:R):(nA pre).length <= pre.length:=by
 have:=vw pre []
 unfold nA
 simpa using this
theorem mx (a b:Int):(if b > a then b else a) = max a b:=by split <;> lia
theorem EH (n:Nat):fF 0 n = (List.range n).map fun k:Nat=>D.int (k:Int):=by
 apply QH
 intro i
 cases q:(fF 0 n)[i]? with
 | none=>
  have:=QJ.mp q
  rw [oB] at this
  rw [List.getElem?_eq_none (by rw [Os,RF];exact this)]
 | some d=>
  obtain ⟨h1,rfl⟩:=oA n 0 i d q
  rw [OU,List.getElem?_range h1]
  simp
theorem GS {α β:Type} (f:α -> β) (xs:List α) (lo hi:Option Int):jk (xs.map f) lo hi = (jk xs lo hi).map f:=by
 unfold jk
 rw [Os,<- List.map_drop,<- List.map_take]
theorem GR {α:Type} (xs:List α) (lo hi:Option Int):(jk xs lo hi).length <= HT.sIx xs.length xs.length hi - HT.sIx xs.length 0 lo:=by
 unfold jk
 rw [P6]
 lia
theorem aI {m n:XS} {ρ ρ':M.Env} (h:m ρ = some (.nx ρ')):bd m n ρ = n ρ':=by unfold bd;rw [h]
theorem Ii {n:Nat} {x:XS} {ds:List D} {d:D} (h:x (ds.map .sh ++ List.replicate (n - ds.length) .un) = some (.rt d)):(fnO n x ds).map O.d = some d:=by unfold fnO;rw [h];simp
theorem Ch {n d:Nat} {v:Int} (h:0 <= v):HT.sIx n d (some v) = min v.toNat n:=by
 show (if v < 0 then _ else _) = _
 rw [Oi (by lia)]
theorem zn (s0:Sl) (acc:R) (a b:Int) (h:acc.length <= 30000):eL [s0,owl (acc.map prD),.sh (.int a),.sh (.int b)] = some (.nx [s0,owl ((step acc (a,b)).map prD),.sh (.int a),.sh (.int b)]):=by
 rcases Qi acc with rfl | ⟨t,q,rfl⟩
 ·simp [eL,Rw.step,prD]
 ·rw [Qj] at *
  rw [o7]
  have hl:t.length + 1 <= 30000:=by simpa using h
  have hlim:t.length + 1 < LIM:=fY (by lia)
  have at1:atI (t.map prD ++ [prD q]) (-1) = some (prD q):=rD _ _
  by_cases hc:a <= q.2 + 1
  ·simp [eL,at1,hc,EL,Gk]
  ·simp [eL,at1,hc,hlim,Gk]
theorem yC (ps:R) (h:ps.length < 30000):fH [wU ps] = some (HE (vN ps)):=by
 have hf:=Q8 ue ps
 have hs:=(gM (ps.filter ue)).length_eq
 have key:∃ ρ',dt (aU (ao (ag 2) (ao (ag 3) aX))) eL ((kM (ps.filter ue)).map prD) [.sh (wU ps),.ow (.lst []),.un,.un] = some (.nx ρ') /\ ∃ va vb,ρ' = [.sh (wU ps),owl ((vN ps).map prD),va,vb]:=by
  refine bI prD (fun pre ρ=>∃ va vb,ρ = [.sh (wU ps),owl ((nA pre).map prD),va,vb]) _ _ ⟨_,_,rfl⟩ ?_
  rintro pre p post _ e ⟨va,vb,rfl⟩
  have hp:pre.length <= 30000:=by
   have:=OG List.length e
   rw [Ov] at this
   lia
  refine ⟨_,_,rfl,.inl (zn _ (nA pre) p.1 p.2 (by have:=E2 pre;lia)),.sh (.int p.1),.sh (.int p.2),by rw [AL]⟩
 obtain ⟨ρ',k1,va,vb,rfl⟩:=key
 have hc:=CJ ps
 have hb:=ph (ps.filter ue) (by lia)
 have hl:ps.length <= LIM:=aO (by lia)
 simp [fH,oT,fnO,rm,hl,hc,hb,k1]
noncomputable abbrev Tri:=Int × Int × Int
noncomputable abbrev ee (t:Tri):D:=.tup [.int t.1,.int t.2.1,.int t.2.2]
noncomputable abbrev Pic:=List (Int × R)
noncomputable abbrev pyD (q:Int × R):D:=.tup [.int q.1,HE q.2]
noncomputable abbrev fJ (p:Pic):D:=.tup (p.map pyD)
def jZ (ts:List Tri) (x y:Int):Prop:=∃ t ∈ ts,t.1 = y /\ t.2.1 <= x /\ x <= t.2.2
def l8 (p:Pic) (x y:Int):Prop:=∃ q ∈ p,q.1 = y /\ Mem q.2 x
def dN (p:Pic):Prop:=(∀ q ∈ p,eh q.2 /\ q.2 ≠ []) /\ p.Pairwise fun a b=>a.1 < b.1
theorem iK (x y:Int):¬ l8 [] x y:=by rintro ⟨_,h,_⟩;cases h
theorem bA (q:Int × R) (p:Pic) (x y:Int):l8 (q :: p) x y ↔ (q.1 = y /\ Mem q.2 x) \/ l8 p x y:=by
 constructor
 ·rintro ⟨s,h,e⟩
  rcases Oy.mp h with rfl | h
  ·exact .inl e
  ·exact .inr ⟨s,h,e⟩
 ·rintro (e | ⟨s,h,e⟩)
  ·exact ⟨q,Oq,e⟩
  ·exact ⟨s,Ou _ h,e⟩
theorem kJ (p q:Pic) (x y:Int):l8 (p ++ q) x y ↔ l8 p x y \/ l8 q x y:=by
 constructor
 ·rintro ⟨s,h,e⟩
  rcases OC.mp h with h | h
  ·exact .inl ⟨s,h,e⟩
  ·exact .inr ⟨s,h,e⟩
 ·rintro (⟨s,h,e⟩ | ⟨s,h,e⟩)
  ·exact ⟨s,OH _ h,e⟩
  ·exact ⟨s,OB _ h,e⟩
theorem DS (t:Tri) (ts:List Tri) (x y:Int):jZ (t :: ts) x y ↔ (t.1 = y /\ t.2.1 <= x /\ x <= t.2.2) \/ jZ ts x y:=by
 constructor
 ·rintro ⟨s,h,e⟩
  rcases Oy.mp h with rfl | h
  ·exact .inl e
  ·exact .inr ⟨s,h,e⟩
 ·rintro (e | ⟨s,h,e⟩)
  ·exact ⟨t,Oq,e⟩
  ·exact ⟨s,Ou _ h,e⟩
theorem zJ (a b:List Tri) (x y:Int):jZ (a ++ b) x y ↔ jZ a x y \/ jZ b x y:=by
 constructor
 ·rintro ⟨s,h,e⟩
  rcases OC.mp h with h | h
  ·exact .inl ⟨s,h,e⟩
  ·exact .inr ⟨s,h,e⟩
 ·rintro (⟨s,h,e⟩ | ⟨s,h,e⟩)
  ·exact ⟨s,OH _ h,e⟩
  ·exact ⟨s,OB _ h,e⟩
theorem DT {a b:List Tri} (h:a.Perm b) (x y:Int):jZ a x y ↔ jZ b x y:=
 ⟨fun ⟨q,m,e⟩=>⟨q,h.mem_iff.mp m,e⟩,fun ⟨q,m,e⟩=>⟨q,h.mem_iff.mpr m,e⟩⟩
theorem pcanon_cons {q:Int × R} {p:Pic}:dN (q :: p) ↔ (eh q.2 /\ q.2 ≠ []) /\ (∀ s ∈ p,q.1 < s.1) /\ dN p:=by
 constructor
 ·rintro ⟨h1,h2⟩
  have h3:=PH.mp h2
  exact ⟨h1 q Oq,h3.1,fun s hs=>h1 s (Ou _ hs),h3.2⟩
 ·rintro ⟨h1,h2,h3,h4⟩
  refine ⟨fun s hs=>?_,PH.mpr ⟨h2,h4⟩⟩
  rcases Oy.mp hs with rfl | hs
  ·exact h1
  ·exact h3 s hs
theorem gT {r:R} (c:eh r) (h:r ≠ []):∃ x,Mem r x:=by
 cases r with
 | nil=>exact absurd rfl h
 | cons p r=>exact ⟨p.1,(mem_cons ..).mpr (.inl ⟨O1 _,(canon_cons.mp c).1⟩)⟩
theorem Cb:∀ {p q:Pic},dN p -> dN q -> (∀ x y,l8 p x y ↔ l8 q x y) -> p = q
 | [],[],_,_,_=>rfl
 | [],b :: q,_,cq,h=>by
  obtain ⟨⟨c1,c2⟩,_⟩:=pcanon_cons.mp cq
  obtain ⟨x,hx⟩:=gT c1 c2
  exact (iK _ _ ((h x b.1).mpr ((bA ..).mpr (.inl ⟨rfl,hx⟩)))).elim
 | a :: p,[],cp,_,h=>by
  obtain ⟨⟨c1,c2⟩,_⟩:=pcanon_cons.mp cp
  obtain ⟨x,hx⟩:=gT c1 c2
  exact (iK _ _ ((h x a.1).mp ((bA ..).mpr (.inl ⟨rfl,hx⟩)))).elim
 | a :: p,b :: q,cp,cq,h=>by
  obtain ⟨⟨ca,na⟩,la,cp'⟩:=pcanon_cons.mp cp
  obtain ⟨⟨cb,nb⟩,lb,cq'⟩:=pcanon_cons.mp cq
  obtain ⟨xa,ha⟩:=gT ca na
  obtain ⟨xb,hb⟩:=gT cb nb
  have ey:a.1 = b.1:=by
   have h1:b.1 <= a.1:=by
    rcases (bA ..).mp ((h xa a.1).mp ((bA ..).mpr (.inl ⟨rfl,ha⟩))) with ⟨e,_⟩ | ⟨s,hs,e,_⟩
    ·lia
    ·have:=lb s hs;lia
   have h2:a.1 <= b.1:=by
    rcases (bA ..).mp ((h xb b.1).mpr ((bA ..).mpr (.inl ⟨rfl,hb⟩))) with ⟨e,_⟩ | ⟨s,hs,e,_⟩
    ·lia
    ·have:=la s hs;lia
   lia
  have er:a.2 = b.2:=Go ca cb fun x=>by
   have hx:=h x a.1
   rw [bA,bA] at hx
   have n1:¬ l8 p x a.1:=by rintro ⟨s,hs,e,_⟩;have:=la s hs;lia
   have n2:¬ l8 q x a.1:=by rintro ⟨s,hs,e,_⟩;have:=lb s hs;lia
   constructor
   ·intro hm
    rcases hx.mp (.inl ⟨rfl,hm⟩) with z | z
    ·exact z.2
    ·exact absurd z n2
   ·intro hm
    rcases hx.mpr (.inl ⟨ey.symm,hm⟩) with z | z
    ·exact z.2
    ·exact absurd z n1
  have eab:a = b:=by
   obtain ⟨a1,a2⟩:=a
   obtain ⟨b1,b2⟩:=b
   simp only at ey er
   rw [ey,er]
  subst eab
  have ih:p = q:=Cb cp' cq' fun x y=>by
   have hx:=h x y
   rw [bA,bA] at hx
   constructor
   ·intro hm
    rcases hx.mp (.inr hm) with z | z
    ·obtain ⟨s,hs,e,_⟩:=hm;have:=la s hs;lia
    ·exact z
   ·intro hm
    rcases hx.mpr (.inr hm) with z | z
    ·obtain ⟨s,hs,e,_⟩:=hm;have:=lb s hs;lia
    ·exact z
  rw [ih]
noncomputable def uj (t:Tri):List Int:=[t.1,t.2.1,t.2.2]
noncomputable def w5:List Int -> Tri
 | [a,b,c]=>(a,b,c)
 | _=>(0,0,0)
theorem vo:∀ r:List Tri,keys (r.map ee) = some (r.map uj)
 | []=>rfl
 | p :: r=>by rw [Ox,keys,vo r];rfl
theorem C2:∀ {r:List Tri},r ≠ [] -> aK (r.map ee) = none
 | [],h=>absurd rfl h
 | _ :: _,_=>rfl
noncomputable def fL (ts:List Tri):List Tri:=(gK (ts.map uj)).map w5
theorem tM (ts:List Tri):(fL ts).map uj = gK (ts.map uj):=by
 unfold fL
 rw [OM]
 have h:∀ k ∈ gK (ts.map uj),(uj ∘ w5) k = k:=fun k hk=>by
  have:=(gL _).mem_iff.mp hk
  obtain ⟨p,_,rfl⟩:=OI.mp this
  rfl
 rw [RE h,List.map_id']
theorem gN (ts:List Tri):(fL ts).Perm ts:=by
 have h:=(gL (ts.map uj)).map w5
 rw [OM] at h
 have e:(w5 ∘ uj) = id:=rfl
 rw [e,List.map_id] at h
 exact h
theorem zB (ts:List Tri):(fL ts).Pairwise fun p q=>p.1 <= q.1:=by
 have h:=nJ (ts.map uj)
 rw [<- tM,Pw] at h
 refine h.imp fun {p q} e=>?_
 have e':(if q.1 = p.1 then HT.cu [q.2.1,q.2.2] [p.2.1,p.2.2] else decide (q.1 < p.1)) = false:=e
 by_cases hq:q.1 = p.1
 ·lia
 ·rw [Oi hq] at e'
  have:=Pq e'
  lia
theorem wu (ts:List Tri) (h:ts.length < 30000):fW [.lst (ts.map ee)] = some ((fL ts).map ee):=by
 show (if (ts.map ee).length < 30000 then _ else _) = _
 rw [Oj (by rw [Os];exact h)]
 by_cases e:ts = []
 ·subst e
  have e0:fL [] = []:=Qo.mp (by rw [(gN []).length_eq];rfl)
  have e1:dw [] = []:=Qo.mp (by rw [(eZ []).length_eq];rfl)
  show some ((dw []).map D.int) = _
  rw [e0,e1]
  rfl
 ·rw [C2 e]
  dsimp only
  rw [vo]
  have:(fL ts).map ee = (gK (ts.map uj)).map nQ:=by
   rw [<- tM,OM]
   rfl
  rw [this]
  rfl
noncomputable def dr (t:Tri):Bool:=decide (t.2.1 <= t.2.2)
theorem zK (ts:List Tri) (x y:Int):jZ (ts.filter dr) x y ↔ jZ ts x y:=by
 constructor
 ·rintro ⟨q,m,e⟩
  exact ⟨q,(O3.mp m).1,e⟩
 ·rintro ⟨q,m,e⟩
  exact ⟨q,O3.mpr ⟨m,by simp [dr];lia⟩,e⟩
theorem r9:∀ ps:List Tri,ps.filterMap (fun p=>if p.2.1 <= p.2.2 then some (ee p) else none) = (ps.filter dr).map ee
 | []=>rfl
 | p :: t=>by
  rw [OW,Pz,r9 t]
  by_cases h:p.2.1 <= p.2.2
  ·simp [dr,h]
  ·simp [dr,h]
theorem Ah (ps:List Tri):bR (aU (ao (ag 0) (ao (ag 1) (ao (ag 2) aX)))) (xB (xOp dLe (ah 1) (ah 2))) (a7 (ad (aw 0) (ad (aw 1) (ad (aw 2) aq)))) [.un,.un,.un] (ps.map ee) = some ((ps.filter dr).map ee):=by
 rw [dE ee (fun p=>if p.2.1 <= p.2.2 then some (ee p) else none) ps,r9]
 intro p _
 by_cases h:p.2.1 <= p.2.2 <;> simp [fO,h]
noncomputable def jQ (gs:Pic) (t:Tri):Pic:=match gs.getLast? with
 | none=>[(t.1,[t.2])]
 | some g=>if g.1 = t.1 then gs.dropLast ++ [(g.1,g.2 ++ [t.2])] else gs ++ [(t.1,[t.2])]
theorem CY (t:Tri):jQ [] t = [(t.1,[t.2])]:=rfl
theorem my (gs:Pic) (g:Int × R) (t:Tri):jQ (gs ++ [g]) t = if g.1 = t.1 then gs ++ [(g.1,g.2 ++ [t.2])] else gs ++ [g] ++ [(t.1,[t.2])]:=by
 unfold jQ
 simp
noncomputable def et (ts:List Tri):Pic:=ts.foldl jQ []
theorem si (pre:List Tri) (t:Tri):et (pre ++ [t]) = jQ (et pre) t:=by
 unfold et
 rw [Qt]
 rfl
structure GOk (gs:Pic) (ts:List Tri):Prop where
 ne:∀ g ∈ gs,g.2 ≠ [] /\ Ok g.2
 up:gs.Pairwise fun a b=>a.1 < b.1
 mem:∀ x y,l8 gs x y ↔ jZ ts x y
 le:∀ g ∈ gs,∃ t ∈ ts,g.1 = t.1
 len:(gs.map fun g=>g.2.length).sum = ts.length
theorem EC {gs:Pic} {ts:List Tri} {t:Tri} (o:GOk gs ts) (ht:t.2.1 <= t.2.2) (hb:∀ s ∈ ts,s.1 <= t.1):GOk (jQ gs t) (ts ++ [t]):=by
 have tm:∀ x y,jZ (ts ++ [t]) x y ↔ jZ ts x y \/ (t.1 = y /\ t.2.1 <= x /\ x <= t.2.2):=fun x y=>by
  rw [zJ,DS]
  constructor
  ·rintro (h | h | ⟨_,h,_⟩)
   ·exact .inl h
   ·exact .inr h
   ·cases h
  ·rintro (h | h)
   ·exact .inl h
   ·exact .inr (.inl h)
 have okt:Ok [t.2]:=fun p hp=>by rw [Ot.mp hp];exact ht
 rcases Qi gs with rfl | ⟨gs0,g,rfl⟩
 ·rw [CY]
  have e0:ts = []:=Qo.mp (by have:=o.len;simpa using this.symm)
  subst e0
  refine ⟨fun g hg=>?_,QD _ _,fun x y=>?_,fun g hg=>⟨t,by simp,by rw [Ot.mp hg]⟩,by simp⟩
  ·rw [Ot.mp hg];exact ⟨by simp,okt⟩
  ·rw [tm,bA,mem_cons]
   constructor
   ·rintro (⟨h1,h2 | h2⟩ | h)
    ·exact .inr ⟨h1,h2⟩
    ·exact (cW _ h2).elim
    ·exact (iK _ _ h).elim
   ·rintro (⟨_,h,_⟩ | h)
    ·cases h
    ·exact .inl ⟨h.1,.inl h.2⟩
 ·rw [Qj] at *
  have up:=OX.mp o.up
  rw [my]
  have glast:g.1 <= t.1:=by
   obtain ⟨s,hs,e⟩:=o.le g (by simp)
   have:=hb s hs
   lia
  by_cases h:g.1 = t.1
  ·rw [Oj h]
   refine ⟨fun q hq=>?_,?_,fun x y=>?_,fun q hq=>?_,?_⟩
   ·rcases OC.mp hq with hq | hq
    ·exact o.ne q (OH _ hq)
    ·rw [Ot.mp hq]
     refine ⟨by simp,fun p hp=>?_⟩
     rcases OC.mp hp with hp | hp
     ·exact (o.ne g (by simp)).2 p hp
     ·exact okt p hp
   ·refine OX.mpr ⟨up.1,QD _ _,fun a ha b hb=>?_⟩
    rw [Ot.mp hb]
    exact up.2.2 a ha g (by simp)
   ·rw [tm,<- o.mem,kJ,kJ,bA,bA]
    dsimp only
    rw [mem_append,mem_cons]
    have n0:=iK x y
    have n1:=cW x
    constructor
    ·rintro (k | ⟨k1,k2 | k2 | k2⟩ | k)
     ·exact .inl (.inl k)
     ·exact .inl (.inr (.inl ⟨k1,k2⟩))
     ·exact .inr ⟨by lia,k2⟩
     ·exact absurd k2 n1
     ·exact absurd k n0
    ·rintro ((k | ⟨k1,k2⟩ | k) | ⟨k1,k2⟩)
     ·exact .inl k
     ·exact .inr (.inl ⟨k1,.inl k2⟩)
     ·exact absurd k n0
     ·exact .inr (.inl ⟨by lia,.inr (.inl k2)⟩)
   ·rcases OC.mp hq with hq | hq
    ·obtain ⟨s,hs,e⟩:=o.le q (OH _ hq)
     exact ⟨s,OH _ hs,e⟩
    ·rw [Ot.mp hq]
     exact ⟨t,by simp,h⟩
   ·have:=o.len
    simp only [QO,List.sum_append,Ox,PP,QT,List.sum_nil,Ov,Ow,RB] at this ⊢
    lia
  ·rw [Oi h]
   refine ⟨fun q hq=>?_,?_,fun x y=>?_,fun q hq=>?_,?_⟩
   ·rcases OC.mp hq with hq | hq
    ·exact o.ne q hq
    ·rw [Ot.mp hq];exact ⟨by simp,okt⟩
   ·refine OX.mpr ⟨o.up,QD _ _,fun a ha b hb'=>?_⟩
    rw [Ot.mp hb']
    rcases OC.mp ha with ha | ha
    ·have:=up.2.2 a ha g (by simp)
     dsimp only
     lia
    ·rw [Ot.mp ha];dsimp only;lia
   ·rw [tm,<- o.mem,kJ,bA]
    dsimp only
    rw [mem_cons]
    have n0:=iK x y
    have n1:=cW x
    constructor
    ·rintro (k | ⟨k1,k2 | k2⟩ | k)
     ·exact .inl k
     ·exact .inr ⟨k1,k2⟩
     ·exact absurd k2 n1
     ·exact absurd k n0
    ·rintro (k | ⟨k1,k2⟩)
     ·exact .inl k
     ·exact .inr (.inl ⟨k1,.inl k2⟩)
   ·rcases OC.mp hq with hq | hq
    ·obtain ⟨s,hs,e⟩:=o.le q hq
     exact ⟨s,OH _ hs,e⟩
    ·rw [Ot.mp hq]
     exact ⟨t,by simp,rfl⟩
   ·have:=o.len
    simp only [QO,List.sum_append,Ox,PP,QT,List.sum_nil,Ov,Ow,RB] at this ⊢
    lia
theorem yo:∀ (post pre:List Tri),(∀ t ∈ pre ++ post,t.2.1 <= t.2.2) -> (pre ++ post).Pairwise (fun p q=>p.1 <= q.1) -> GOk (et pre) pre -> GOk (et (pre ++ post)) (pre ++ post)
 | [],pre,_,_,o=>by rw [OZ];exact o
 | t :: post,pre,h1,h2,o=>by
  have e:pre ++ t :: post = (pre ++ [t]) ++ post:=by simp
  rw [e] at h1 h2 ⊢
  refine yo post (pre ++ [t]) h1 h2 ?_
  rw [si]
  have h3:=OX.mp h2
  have h4:=OX.mp h3.1
  exact EC o (h1 t (by simp)) fun s hs=>h4.2.2 s hs t (by simp)
theorem vg {ts:List Tri} (h1:∀ t ∈ ts,t.2.1 <= t.2.2) (h2:ts.Pairwise fun p q=>p.1 <= q.1):GOk (et ts) ts:=
 yo ts [] h1 h2 ⟨fun _ h=>(by cases h),.nil,fun x y=>⟨fun h=>(iK _ _ h).elim,fun ⟨_,h,_⟩=>by cases h⟩,fun _ h=>(by cases h),rfl⟩
noncomputable def cP (ts:List Tri):Pic:=(et (fL (ts.filter dr))).map fun g=>(g.1,vN g.2)
theorem pO (ts:List Tri):GOk (et (fL (ts.filter dr))) (fL (ts.filter dr)):=vg (fun t ht=>by
 have:=(gN _).mem_iff.mp ht
 simpa [dr] using (O3.mp this).2) (zB _)
theorem FJ {ps:R} (h:ps ≠ []) (o:Ok ps):vN ps ≠ []:=fun e=>by
 cases ps with
 | nil=>exact h rfl
 | cons p ps=>
  have:=((gY (p :: ps)).2 p.1).mpr ((mem_cons ..).mpr (.inl ⟨O1 _,o p Oq⟩))
  rw [e] at this
  exact cW _ this
theorem kG (ts:List Tri):dN (cP ts) /\ ∀ x y,l8 (cP ts) x y ↔ jZ ts x y:=by
 have o:=pO ts
 refine ⟨⟨fun q hq=>?_,?_⟩,fun x y=>?_⟩
 ·obtain ⟨g,hg,rfl⟩:=OI.mp hq
  obtain ⟨h1,h2⟩:=o.ne g hg
  exact ⟨(gY g.2).1,FJ h1 h2⟩
 ·unfold cP
  rw [Pw]
  exact o.up
 ·rw [<- zK ts,<- DT (gN _),<- o.mem]
  constructor
  ·rintro ⟨q,hq,e,hm⟩
   obtain ⟨g,hg,rfl⟩:=OI.mp hq
   exact ⟨g,hg,e,((gY g.2).2 x).mp hm⟩
  ·rintro ⟨g,hg,e,hm⟩
   exact ⟨_,OI.mpr ⟨g,hg,rfl⟩,e,((gY g.2).2 x).mpr hm⟩
noncomputable def aY (p:Pic):List Tri:=p.flatMap fun q=>q.2.map fun s=>(q.1,s)
theorem fb (q:Int × R) (p:Pic):aY (q :: p) = (q.2.map fun s=>(q.1,s)) ++ aY p:=rfl
theorem Gg (p:Pic) (x y:Int):jZ (aY p) x y ↔ l8 p x y:=by
 constructor
 ·rintro ⟨t,ht,e,h⟩
  obtain ⟨q,hq,hs⟩:=Qu.mp ht
  obtain ⟨s,hs2,rfl⟩:=OI.mp hs
  exact ⟨q,hq,e,s,hs2,h⟩
 ·rintro ⟨q,hq,e,s,hs,h⟩
  exact ⟨(q.1,s),Qu.mpr ⟨q,hq,OI.mpr ⟨s,hs,rfl⟩⟩,e,h⟩
theorem sY {ts:List Tri} {p:Pic} (c:dN p) (h:∀ x y,jZ ts x y ↔ l8 p x y):cP ts = p:=
 Cb (kG ts).1 c fun x y=>((kG ts).2 x y).trans (h x y)
mutual
theorem yc:∀ (n:Nat) (d:D),okD n d = true -> eqD d d = true
 | _,.non,_=>by simp [eqD]
 | _,.bl _,_=>by simp [eqD]
 | _,.int _,_=>by simp [eqD]
 | _,.str _,_=>by simp [eqD]
 | 0,.lst _,h=>by simp [okD] at h
 | n + 1,.lst l,h=>by rw [eqD];exact eqDs_refl n l (by simpa [okD] using h)
 | 0,.tup _,h=>by simp [okD] at h
 | n + 1,.tup l,h=>by rw [eqD];exact eqDs_refl n l (by simpa [okD] using h)
 | 0,.mtp _,h=>by simp [okD] at h
 | n + 1,.mtp l,h=>by rw [eqD];exact eqDs_refl n l (by simpa [okD] using h)
 | n,.ty _,h=>by cases n <;> simp [okD] at h
 | n,.scr _,h=>by cases n <;> simp [okD] at h
 | n,.ins _ _ _,h=>by cases n <;> simp [okD] at h
 | n,.dic _,h=>by cases n <;> simp [okD] at h
theorem eqDs_refl:∀ (n:Nat) (l:List D),okDs n l = true -> eqDs l l = true
 | _,[],_=>by simp [eqDs]
 | n,d :: l,h=>by
  rw [okDs,Pu] at h
  rw [eqDs,yc n d h.1,eqDs_refl n l h.2]
  rfl
end
theorem yQ {α:Type} {n:Nat} {f:α -> D}:∀ (l:List α),(∀ a ∈ l,okD n (f a) = true) -> okDs n (l.map f) = true
 | [],_=>by simp [okDs]
 | a :: l,h=>by rw [Ox,okDs,h a Oq,yQ l fun b hb=>h b (Ou _ hb)];rfl
theorem x0 {d:D} (neg:Bool) (h:okD 50 d = true):dEq neg d d = some (.bl (!neg)):=by
 unfold dEq
 rw [Oj ⟨h,h⟩,yc 50 d h]
 cases neg <;> rfl
theorem Hq (p:Pic):okD 50 (fJ p) = true:=by
 rw [okD]
 refine yQ p fun q _=>?_
 simp only [okD,okDs]
 rw [sS 46 q.2]
 rfl
noncomputable def grO (g:Int × R):O:=.tup [.sh (.int g.1),.lst (g.2.map (O.sh ∘ prD))]
noncomputable def grD (g:Int × R):D:=.tup [.int g.1,wU g.2]
theorem KE (g:Int × R):(grO g).d = grD g:=by simp [grO,grD]
theorem Ij:∀ gs:Pic,O.ds (gs.map grO) = gs.map grD
 | []=>by simp
 | g :: gs=>by rw [Ox,Cz,KE,Ij gs];rfl
theorem CW (gs:Pic) (t:Tri):(jQ gs t).length <= gs.length + 1:=by
 rcases Qi gs with rfl | ⟨gs0,g,rfl⟩
 ·simp [jQ]
 ·rw [Qj,my]
  split <;> simp
theorem vf:∀ ts:List Tri,(et ts).length <= ts.length:=by
 intro ts
 have key:∀ (l:List Tri) (gs:Pic),(l.foldl jQ gs).length <= gs.length + l.length:=by
  intro l
  induction l with
  | nil=>intro gs;simp
  | cons t l ih=>
   intro gs
   have h1:=ih (jQ gs t)
   have h2:=CW gs t
   rw [OP,Ow]
   lia
 have:=key ts []
 unfold et
 simpa using this
theorem xi (s0:Sl) (gs:Pic) (t:Tri) (h:gs.length <= 30000) (hg:∀ g ∈ gs,g.2.length <= 30000):cA [s0,.ow (.lst (gs.map grO)),.sh (.int t.1),.sh (.int t.2.1),.sh (.int t.2.2)] = some (.nx [s0,.ow (.lst ((jQ gs t).map grO)),.sh (.int t.1),.sh (.int t.2.1),.sh (.int t.2.2)]):=by
 rcases Qi gs with rfl | ⟨gs0,g,rfl⟩
 ·simp [cA,jQ,grO]
 ·rw [Qj] at *
  rw [my]
  have hl:gs0.length + 1 <= 30000:=by simpa using h
  have hlim:gs0.length + 1 < LIM:=fY (by lia)
  have hg2:g.2.length < LIM:=fY (by have:=hg g (by simp);lia)
  by_cases hc:g.1 = t.1
  ·simp [cA,hc,hg2,grO]
  ·simp [cA,hc,hlim,grO]
theorem mH:∀ {l:List Nat} {n:Nat},n ∈ l -> n <= l.sum
 | [],_,h=>by cases h
 | m :: l,n,h=>by
  rw [QT]
  rcases Oy.mp h with rfl | h
  ·lia
  ·have:=mH h;lia
theorem qv (ts:List Tri) (h:ts.length < 30000):b9 [.lst (ts.map ee)] = some (fJ (cP ts)):=by
 have hf:=Q8 dr ts
 have hs:=(gN (ts.filter dr)).length_eq
 have og:=pO ts
 have key:∃ ρ',dt (aU (ao (ag 2) (ao (ag 3) (ao (ag 4) aX)))) cA ((fL (ts.filter dr)).map ee) [.sh (.lst (ts.map ee)),.ow (.lst []),.un,.un,.un] = some (.nx ρ') /\ ∃ va vb vc,ρ' = [.sh (.lst (ts.map ee)),.ow (.lst ((et (fL (ts.filter dr))).map grO)),va,vb,vc]:=by
  refine bI ee (fun pre ρ=>∃ va vb vc,ρ = [.sh (.lst (ts.map ee)),.ow (.lst ((et pre).map grO)),va,vb,vc]) _ _ ⟨_,_,_,rfl⟩ ?_
  rintro pre t post _ e ⟨va,vb,vc,rfl⟩
  have hp:pre.length <= 30000:=by
   have:=OG List.length e
   rw [Ov] at this
   lia
  have gl:=vf pre
  have gp:GOk (et pre) pre:=by
   refine vg (fun s hs=>?_) ?_
   ·have:=(gN _).mem_iff.mp (show s ∈ fL (ts.filter dr) by rw [e];simp [hs])
    simpa [dr] using (O3.mp this).2
   ·have:=zB (ts.filter dr)
    rw [e] at this
    exact (OX.mp this).1
  have gg:∀ g ∈ et pre,g.2.length <= 30000:=fun g hg=>by
   have h1:=gp.len
   have h2:g.2.length <= ((et pre).map fun g=>g.2.length).sum:=mH (OI.mpr ⟨g,hg,rfl⟩)
   lia
  refine ⟨_,_,rfl,.inl (xi _ (et pre) t (by lia) gg),.sh (.int t.1),.sh (.int t.2.1),.sh (.int t.2.2),by rw [si]⟩
 obtain ⟨ρ',k1,va,vb,vc,rfl⟩:=key
 have hc:=Ah ts
 have hb:=wu (ts.filter dr) (by lia)
 have hl:ts.length <= LIM:=aO (by lia)
 have gl:=vf (fL (ts.filter dr))
 have hl2:(et (fL (ts.filter dr))).length <= LIM:=aO (by lia)
 have c2:bR (aU (ao (ag 0) (ao (ag 1) aX))) eE (a7 (ad (aw 0) (ad (bC fH (ad (aw 1) aq)) aq))) [.un,.un] ((et (fL (ts.filter dr))).map grD) = some ((cP ts).map pyD):=by
  rw [cR grD (fun g=>pyD (g.1,vN g.2))]
  ·unfold cP
   rw [OM]
   rfl
  ·intro g hg
   have h1:g.2.length < 30000:=by
    have h2:g.2.length <= ((et (fL (ts.filter dr))).map fun g=>g.2.length).sum:=mH (OI.mpr ⟨g,hg,rfl⟩)
    have:=og.len
    lia
   have h3:=yC g.2 h1
   simp [fO,grD,h3]
 simp [b9,il,fnO,i7,hl,hc,hb,k1,frz,Ij,hl2,c2]
theorem nN (p q:Pic):aY (p ++ q) = aY p ++ aY q:=by unfold aY;rw [List.flatMap_append]
theorem uK {p:Pic} {q:Int × R} (h:q ∈ p):q.2.length <= (aY p).length:=by
 induction p with
 | nil=>cases h
 | cons s p ih=>
  rw [fb,Ov,Os]
  rcases Oy.mp h with rfl | h
  ·lia
  ·have:=ih h;lia
theorem mL (p:Pic) (h:(aY p).length <= 100000):dJ [fJ p] = some (.lst ((aY p).map (O.sh ∘ ee))):=by
 obtain ⟨ρ',k1,v2,v3,rfl⟩:=bI (g:=aU (ao (ag 2) (ao (ag 3) aX))) (m:=eM) pyD (fun pre ρ=>∃ v2 v3,ρ = [.sh (fJ p),.ow (.lst ((aY pre).map (O.sh ∘ ee))),v2,v3]) p [.sh (fJ p),.ow (.lst []),.un,.un] ⟨_,_,rfl⟩ (by
  rintro pre q post _ e ⟨v2,v3,rfl⟩
  have hlen:(aY pre).length + q.2.length <= 100000:=by
   rw [e,nN,fb,Ov,Ov,Os] at h
   lia
  have hl:(aY pre).length + q.2.length <= LIM:=aO hlen
  have hl2:q.2.length <= LIM:=aO (by lia)
  have hc:bR (aU (ao (ag 0) (ao (ag 1) aX))) eE (a7 (ad (aw 2) (ad (aw 0) (ad (aw 1) aq)))) [.un,.un,.sh (.int q.1)] (q.2.map prD) = some (q.2.map fun s=>ee (q.1,s)):=cR prD _ q.2 fun s _=>by simp [fO]
  refine ⟨_,[.sh (fJ p),.ow (.lst ((aY (pre ++ [q])).map (O.sh ∘ ee))),.sh (.int q.1),.sh (HE q.2)],rfl,.inl ?_,_,_,rfl⟩
  have es:aY (pre ++ [q]) = aY pre ++ q.2.map fun s=>(q.1,s):=by rw [nN,fb];simp [aY]
  rw [es]
  simp [eM,hl,hl2,hc])
 simp [dJ,fnO,gi,k1]
theorem nz (p:Pic) (h:(aY p).length <= 100000):bM [fJ p] = some (.lst ((aY p).map ee)):=by
 unfold bM
 rw [mL p h]
 simp
theorem sI (r:R) (h:r.length <= 30000):cJ [HE r] = some (.int (pz r)):=by
 have hl:r.length <= LIM:=aO (by lia)
 have hc:bR (aU (ao (ag 0) (ao (ag 1) aX))) eE (xOp bQ (xOp x4 (ah 1) (ah 0)) (xC (.int 1))) [.un,.un] (r.map prD) = some (r.map fun p=>.int (p.2 - p.1 + 1)):=cR prD _ r fun p _=>by simp [fO]
 have hi:t3 [.lst (r.map fun p=>.int (p.2 - p.1 + 1))] = some (.int (pz r)):=by
  have e:(r.map fun p=>D.int (p.2 - p.1 + 1)) = (r.map fun p=>p.2 - p.1 + 1).map D.int:=by rw [OM];rfl
  rw [e]
  show (aK _).map _ = _
  rw [fG]
  rfl
 simp [cJ,jz,fnO,kc,hl,hc,hi]
noncomputable def cnt (p:Pic):Int:=(p.map fun q=>pz q.2).sum
noncomputable def uL (ts:List Tri):Int:=(ts.map fun t=>t.2.2 - t.2.1 + 1).sum
theorem oO (p:Pic) (h:p.length <= 30000) (hr:∀ q ∈ p,q.2.length <= 30000):ci [fJ p] = some (.int (cnt p)):=by
 have hl:p.length <= LIM:=aO (by lia)
 have hc:bR (aU (ao (ag 0) (ao (ag 1) aX))) eE (bC cJ (ad (aw 1) aq)) [.un,.un] (p.map pyD) = some (p.map fun q=>.int (pz q.2)):=cR pyD _ p fun q hq=>by
  have:=sI q.2 (hr q hq)
  simp [fO,this]
 have hi:t3 [.lst (p.map fun q=>.int (pz q.2))] = some (.int (cnt p)):=by
  have e:(p.map fun q=>D.int (pz q.2)) = (p.map fun q=>pz q.2).map D.int:=by rw [OM];rfl
  rw [e]
  show (aK _).map _ = _
  rw [fG]
  rfl
 simp [ci,gB,fnO,hZ,hl,hc,hi]
theorem zD (a b:List Tri):uL (a ++ b) = uL a + uL b:=by unfold uL;rw [QO,List.sum_append]
theorem DQ (t:Tri) (b:List Tri):uL (t :: b) = t.2.2 - t.2.1 + 1 + uL b:=by unfold uL;rw [Ox,QT]
theorem wA:∀ p:Pic,cnt p = uL (aY p)
 | []=>rfl
 | q :: p=>by
  rw [fb,zD,<- wA p]
  unfold cnt
  rw [Ox,QT]
  congr 1
  unfold uL pz
  rw [OM]
  rfl
noncomputable def zs (lo:Int):Nat -> List Int
 | 0=>[]
 | n + 1=>lo :: zs (lo + 1) n
theorem yp:∀ (n:Nat) (lo:Int),fF lo n = (zs lo n).map D.int
 | 0,_=>rfl
 | n + 1,lo=>by rw [fF,zs,Ox,yp n]
theorem Br:∀ (n:Nat) (lo:Int),(zs lo n).length = n
 | 0,_=>rfl
 | n + 1,lo=>by rw [zs,Ow,Br n]
theorem mJ:∀ (n:Nat) (lo x:Int),x ∈ zs lo n ↔ lo <= x /\ x < lo + n
 | 0,lo,x=>by simp [zs]
 | n + 1,lo,x=>by
  rw [zs,Oy,mJ n]
  lia
noncomputable def dP (t:Tri):R:=(zs t.2.1 (t.2.2 + 1 - t.2.1).toNat).map fun x=>(x,t.1)
noncomputable def aS (ts:List Tri):R:=ts.flatMap dP
theorem lK (a b:List Tri):aS (a ++ b) = aS a ++ aS b:=by unfold aS;rw [List.flatMap_append]
theorem dX (t:Tri) (b:List Tri):aS (t :: b) = dP t ++ aS b:=rfl
theorem ml (t:Tri):(dP t).length = (t.2.2 + 1 - t.2.1).toNat:=by unfold dP;rw [Os,Br]
theorem mj:∀ ts:List Tri,(∀ t ∈ ts,t.2.1 <= t.2.2) -> ((aS ts).length:Int) = uL ts
 | [],_=>rfl
 | t :: ts,h=>by
  rw [dX,Ov,DQ,ml]
  have h1:=mj ts fun s hs=>h s (Ou _ hs)
  have h2:=h t Oq
  lia
theorem AK (ts:List Tri) (x y:Int):(x,y) ∈ aS ts ↔ jZ ts x y:=by
 unfold aS
 rw [Qu]
 constructor
 ·rintro ⟨t,ht,h⟩
  obtain ⟨z,hz,e⟩:=OI.mp h
  cases e
  have:=(mJ _ _ _).mp hz
  exact ⟨t,ht,rfl,by lia,by lia⟩
 ·rintro ⟨t,ht,h1,h2,h3⟩
  exact ⟨t,ht,OI.mpr ⟨x,(mJ _ _ _).mpr ⟨h2,by lia⟩,by rw [h1]⟩⟩
theorem tO {p:Pic} (c:dN p):∀ t ∈ aY p,t.2.1 <= t.2.2:=fun t ht=>by
 obtain ⟨q,hq,h⟩:=Qu.mp ht
 obtain ⟨s,hs,rfl⟩:=OI.mp h
 exact (c.1 q hq).1.1 s hs
theorem sN (p:Pic) (c:dN p) (hc:cnt p <= 1000) (h:(aY p).length <= 30000) (h1:p.length <= 30000) (hr:∀ q ∈ p,q.2.length <= 30000):g7 [fJ p] = some (.lst ((aS (aY p)).map (O.sh ∘ prD))):=by
 have a1:=oO p h1 hr
 have a2:=nz p (by lia)
 have hg:=tO c
 have tl:((aS (aY p)).length:Int) <= 1000:=by rw [mj _ hg,<- wA];exact hc
 have n1:¬ (1000 < cnt p):=by lia
 obtain ⟨ρ',k1,v2,v3,v4,rfl⟩:=bI (g:=aU (ao (ag 2) (ao (ag 3) (ao (ag 4) aX)))) (m:=iV) ee (fun pre ρ=>∃ v2 v3 v4,ρ = [.sh (fJ p),.ow (.lst ((aS pre).map (O.sh ∘ prD))),v2,v3,v4]) (aY p) [.sh (fJ p),.ow (.lst []),.un,.un,.un] ⟨_,_,_,rfl⟩ (by
  rintro pre t post _ e ⟨v2,v3,v4,rfl⟩
  have hlen:(aS pre).length + (dP t).length <= 1000:=by
   rw [e,lK,dX,Ov,Ov] at tl
   lia
  have hl:(aS pre).length + (dP t).length <= LIM:=aO (by lia)
  have hl2:(dP t).length <= LIM:=aO (by lia)
  have hr:JO [.int t.2.1,.int (t.2.2 + 1)] = some ((zs t.2.1 (t.2.2 + 1 - t.2.1).toNat).map D.int):=by rw [JO,yp]
  have hz:(zs t.2.1 (t.2.2 + 1 - t.2.1).toNat).length <= LIM:=by rw [Br,<- ml];exact hl2
  have hcm:bR (ag 0) eE (a7 (ad (aw 0) (ad (aw 1) aq))) [.un,.sh (.int t.1)] ((zs t.2.1 (t.2.2 + 1 - t.2.1).toNat).map D.int) = some ((dP t).map prD):=by
   rw [cR D.int (fun x=>prD (x,t.1))]
   ·unfold dP
    rw [OM]
    rfl
   ·intro x _
    simp [fO]
  refine ⟨_,[.sh (fJ p),.ow (.lst ((aS (pre ++ [t])).map (O.sh ∘ prD))),.sh (.int t.1),.sh (.int t.2.1),.sh (.int t.2.2)],rfl,.inl ?_,_,_,_,rfl⟩
  have es:aS (pre ++ [t]) = aS pre ++ dP t:=by rw [lK,dX];simp [aS]
  rw [es]
  simp [iV,hl,hl2,hr,hz,hcm])
 simp [g7,fnO,l9,a1,a2,n1,k1]
theorem uk (p:Pic) (c:dN p) (hc:cnt p <= 1000) (h:(aY p).length <= 30000) (h1:p.length <= 30000) (hr:∀ q ∈ p,q.2.length <= 30000):cg [fJ p] = some (.lst ((aS (aY p)).map prD)):=by
 unfold cg
 rw [sN p c hc h h1 hr]
 simp
def Sep (s t:Tri):Prop:=s.1 < t.1 \/ (s.1 = t.1 /\ s.2.2 + 2 <= t.2.1)
theorem Bl:∀ {p:Pic},dN p -> (aY p).Pairwise Sep
 | [],_=>.nil
 | q :: p,c=>by
  obtain ⟨⟨h1,_⟩,h2,h3⟩:=pcanon_cons.mp c
  rw [fb]
  refine OX.mpr ⟨?_,Bl h3,fun s hs t ht=>?_⟩
  ·rw [Pw]
   exact h1.2.imp fun h=>.inr ⟨rfl,h⟩
  ·obtain ⟨a,_,rfl⟩:=OI.mp hs
   obtain ⟨g,hg,hb⟩:=Qu.mp ht
   obtain ⟨b,_,rfl⟩:=OI.mp hb
   exact .inl (h2 g hg)
theorem zU:∀ (n:Nat) (lo:Int),(zs lo n).Nodup
 | 0,_=>.nil
 | n + 1,lo=>by
  rw [zs]
  refine OL.mpr ⟨fun z=>?_,zU n _⟩
  have:=(mJ n (lo + 1) lo).mp z
  lia
theorem wz (t:Tri):(dP t).Nodup:=by
 unfold dP
 exact List.Pairwise.map _ (fun a b h e=>h (by injection e)) (zU _ _)
theorem jy (t:Tri) (c:Int × Int):c ∈ dP t ↔ c.2 = t.1 /\ t.2.1 <= c.1 /\ c.1 <= t.2.2:=by
 unfold dP
 rw [OI]
 constructor
 ·rintro ⟨x,hx,rfl⟩
  have:=(mJ _ _ _).mp hx
  refine ⟨rfl,?_⟩
  dsimp only
  lia
 ·rintro ⟨h1,h2,h3⟩
  exact ⟨c.1,(mJ _ _ _).mpr (by lia),by rw [<- h1]⟩
theorem pp:∀ ts:List Tri,ts.Pairwise Sep -> (aS ts).Nodup
 | [],_=>.nil
 | t :: ts,h=>by
  obtain ⟨h1,h2⟩:=PH.mp h
  rw [dX]
  refine Pr.mpr ⟨wz t,pp ts h2,fun a ha b hb e=>?_⟩
  subst e
  have a1:=(jy t a).mp ha
  obtain ⟨s,hs,hb⟩:=Qu.mp hb
  have a2:=(jy s a).mp hb
  rcases h1 s hs with z | z <;> lia
theorem jA {p:Pic} (c:dN p):(aS (aY p)).Nodup:=pp _ (Bl c)
@[simp] theorem My (l:List D):FY (.mtp l) = some l:=rfl
@[simp] theorem Nh (y:XGs) (l:List D) (ρ:M.Env):aU y (.mtp l) ρ = y l ρ:=rfl
noncomputable abbrev HX (t:Tri):D:=.mtp [.int t.1,.int t.2.1,.int t.2.2]
noncomputable def roundL:List Tri:=[(0,-1,1),(-1,-1,2),(-1,0,4),(-1,1,8),(0,1,16),(1,1,32),(1,0,64),(1,-1,128)]
noncomputable def Gu (b:Int -> Int -> Bool) (l:List Tri):Int:=(l.map fun t=>if b t.1 t.2.1 then t.2.2 else 0).sum
theorem Cs (b:Int -> Int -> Bool):∀ l:List Tri,((l.filter fun t=>b t.1 t.2.1).map fun t=>t.2.2).sum = Gu b l
 | []=>rfl
 | t :: l=>by
  have ih:=Cs b l
  unfold Gu at ih ⊢
  rw [Pz]
  cases h:b t.1 t.2.1 <;> simp [h,ih]
theorem Ew (b:Int -> Int -> Bool):∀ l:List Tri,l.filterMap (fun t=>if b t.1 t.2.1 then some (D.int t.2.2) else none) = ((l.filter fun t=>b t.1 t.2.1).map fun t=>t.2.2).map D.int
 | []=>rfl
 | t :: l=>by
  rw [OW,Pz,Ew b l]
  cases h:b t.1 t.2.1 <;> simp
noncomputable def strL:List Nat:=[1,4,16,64]
noncomputable def Co (n w:Nat):Bool:=(n &&& w == 0) && !((n + 256 * n) &&& (2 * w + 4 * w) == 0)
noncomputable def tS (n:Nat):Nat:=(strL.filter (Co n)).length
noncomputable def rndL:List Nat:=[1,2,4,8,16,32,64,128]
noncomputable def oh (n:Nat):Nat:=(rndL.filter fun w=>!(n &&& w == 0)).length
theorem Gp (i j:Nat):xZ (.int (i:Int)) (.int (j:Int)) = some (.int ((i &&& j:Nat):Int)):=by
 show ifC _ _ _ = _
 rw [fX (by lia)]
 simp
theorem vd (b:Nat -> Bool) (f:Nat -> D):∀ l:List Nat,l.filterMap (fun w=>if b w then some (f w) else none) = (l.filter b).map f
 | []=>rfl
 | w :: l=>by
  rw [OW,Pz,vd b f l]
  cases h:b w <;> simp
theorem AI (n:Nat):jx [.int (n:Int)] = some (.int (tS n:Nat)):=by
 have hm:jl (.int 256) (.int (n:Int)) = some (.int (256 * (n:Int))):=Bn (by lia)
 have hc:bR (ag 0) (xy (xB (xOp (dEq false) (xOp xZ (ah 1) (ah 0)) (xC (.int 0)))) (xB (xOp (dEq true) (xOp xZ (ah 2) (xOp bQ (xOp jl (xC (.int 2)) (ah 0)) (xOp jl (xC (.int 4)) (ah 0)))) (xC (.int 0))))) (aw 0) [.un,.sh (.int (n:Int)),.sh (.int ((n:Int) + 256 * n))] (strL.map fun w:Nat=>D.int (w:Int)) = some ((strL.filter (Co n)).map fun w:Nat=>D.int (w:Int)):=by
  rw [<- vd]
  refine dE (fun w:Nat=>D.int (w:Int)) _ strL fun w hw=>?_
  have h1:=Gp n w
  have h2:=Gp (n + 256 * n) (2 * w + 4 * w)
  have e1:(((n + 256 * n:Nat)):Int) = (n:Int) + 256 * n:=by lia
  have e2:(((2 * w + 4 * w:Nat)):Int) = 2 * (w:Int) + 4 * w:=by lia
  rw [e1,e2] at h2
  have h3:jl (.int 2) (.int (w:Int)) = some (.int (2 * (w:Int))):=Bn (by lia)
  have h4:jl (.int 4) (.int (w:Int)) = some (.int (4 * (w:Int))):=Bn (by lia)
  unfold Co
  by_cases c1:n &&& w = 0 <;> by_cases c2:(n + 256 * n) &&& (2 * w + 4 * w) = 0 <;> simp [fO,h1,h2,h3,h4,c1,c2] <;> lia
 have hl:4 <= LIM:=aO (by lia)
 have hs:[D.int 1,D.int 4,D.int 16,D.int 64] = strL.map fun w:Nat=>D.int (w:Int):=rfl
 generalize hz:(strL.filter (Co n)).map (fun w:Nat=>D.int (w:Int)) = zs at hc
 have hzl:(zs.length:Int) = (tS n:Nat):=by rw [<- hz,Os];rfl
 simp [strL] at hc
 simp [jx,sO,fnO,wg,hm,hc,hl,hzl]
theorem ny (n:Nat):bL [.int (n:Int)] = some (.int (oh n:Nat)):=by
 have hc:bR (aU (ao (ag 0) (ao (ag 1) (ao (ag 2) aX)))) (xB (xOp (dEq true) (xOp xZ (ah 3) (ah 2)) (xC (.int 0)))) (aw 2) [.un,.un,.un,.sh (.int (n:Int))] (roundL.map HX) = some ((roundL.filter fun t=>!(n &&& t.2.2.toNat == 0)).map fun t=>D.int t.2.2):=by
  have:(roundL.filter fun t=>!(n &&& t.2.2.toNat == 0)).map (fun t=>D.int t.2.2) = roundL.filterMap fun t=>if n &&& t.2.2.toNat = 0 then none else some (D.int t.2.2):=by
   generalize roundL = l
   induction l with
   | nil=>rfl
   | cons t l ih=>
    rw [OW,Pz,<- ih]
    by_cases h:n &&& t.2.2.toNat = 0 <;> simp [h]
  rw [this]
  refine dE HX _ roundL fun t ht=>?_
  have hp:0 <= t.2.2:=by
   simp only [roundL,Oy,Q7,or_false] at ht
   rcases ht with rfl | rfl | rfl | rfl | rfl | rfl | rfl | rfl <;> decide
  have h1:=Gp n t.2.2.toNat
  rw [Int.toNat_of_nonneg hp] at h1
  by_cases c:n &&& t.2.2.toNat = 0 <;> simp [fO,h1,c] <;> lia
 have hl:8 <= LIM:=aO (by lia)
 have hz:((roundL.filter fun t=>!(n &&& t.2.2.toNat == 0)).map fun t=>D.int t.2.2).length = oh n:=by
  rw [Os]
  have:rndL = roundL.map fun t=>t.2.2.toNat:=rfl
  unfold oh
  rw [this,List.filter_map,Os]
  rfl
 generalize ((roundL.filter fun t=>!(n &&& t.2.2.toNat == 0)).map fun t=>D.int t.2.2) = zs at hc hz
 have hz2:(zs.length:Int) = (oh n:Nat):=by rw [hz]
 simp [roundL] at hc
 simp [bL,fN,fnO,gh,hc,hl,hz2]
noncomputable def goB (n:Nat) (ends:Bool):Bool:=(tS n == 1) && (!ends || decide (2 <= oh n))
noncomputable abbrev kyC (c:Int × Int):List Int:=[c.1,c.2]
theorem BS {c d:Int × Int} (h:kyC c = kyC d):c = d:=by
 obtain ⟨a,b⟩:=c
 obtain ⟨e,f⟩:=d
 simp at h
 obtain ⟨rfl,rfl⟩:=h
 rfl
theorem nr (ks:R) (c:Int × Int):(ks.map kyC).contains (kyC c) = decide (c ∈ ks):=by
 by_cases h:c ∈ ks
 ·rw [Pb h,R6]
  exact OI.mpr ⟨c,h,rfl⟩
 ·rw [OY h]
  cases q:(ks.map kyC).contains (kyC c) with
  | false=>rfl
  | true=>
   obtain ⟨u,hu,e⟩:=OI.mp (R6.mp q)
   rw [BS e] at hu
   exact absurd hu h
theorem nu (ks:R) (x y:Int):(ks.map kyC).contains [x,y] = decide ((x,y) ∈ ks):=nr ks (x,y)
theorem BK (ks:R) (c:Int × Int):Ek (ks.map kyC) (kyC c) = (ks.filter fun d=>decide (d ≠ c)).map kyC:=by
 unfold Ek
 induction ks with
 | nil=>rfl
 | cons d l ih=>
  by_cases h:d = c
  ·subst h
   rw [Ox,Qg (by simp),Qg (by simp)]
   exact ih
  ·have hk:kyC d ≠ kyC c:=fun z=>h (BS z)
   rw [Ox,Pz,Pz,Oj (Pb hk),Oj (Pb h),Ox,ih]
noncomputable def KL (ks:R) (x y:Int):Int:=Gu (fun dx dy=>decide ((x + dx,y + dy) ∈ ks)) roundL
theorem Ct (b:Int -> Int -> Bool):∀ l:List Tri,(∀ t ∈ l,0 <= t.2.2) -> 0 <= Gu b l
 | [],_=>O1 _
 | t :: l,h=>by
  have ih:=Ct b l fun s hs=>h s (Ou _ hs)
  have h1:=h t Oq
  unfold Gu at *
  rw [Ox,QT]
  split <;> lia
noncomputable def De (ks:R) (x y:Int):Nat:=(KL ks x y).toNat
theorem Jw (ks:R) (x y:Int):((De ks x y:Nat):Int) = KL ks x y:=Int.toNat_of_nonneg (Ct _ _ (by decide))
noncomputable def goF (ks:R) (e:Bool) (c:Int × Int):Bool:=goB (De ks c.1 c.2) e
theorem Dd (ks:R) (x y:Int) (e:Bool):jv [.dif (ks.map kyC),.int x,.int y,.bl e] = some (.bl (goF ks e (x,y))):=by
 have hc:bR (aU (ao (ag 0) (ao (ag 1) (ao (ag 2) aX)))) (xB (lB false (a7 (ad (xOp bQ (ah 4) (ah 0)) (ad (xOp bQ (ah 5) (ah 1)) aq))) 3)) (aw 2) [.un,.un,.un,.sh (.dif (ks.map kyC)),.sh (.int x),.sh (.int y)] (roundL.map HX) = some (((roundL.filter fun t=>decide ((x + t.1,y + t.2.1) ∈ ks)).map fun t=>t.2.2).map D.int):=by
  rw [<- Ew (fun dx dy=>decide ((x + dx,y + dy) ∈ ks)) roundL]
  refine dE HX _ roundL fun t _=>?_
  have a:=nu ks (x + t.1) (y + t.2.1)
  have hl:2 <= LIM:=aO (by lia)
  by_cases hb:(x + t.1,y + t.2.1) ∈ ks
  ·rw [Pb hb] at a
   generalize ks.map kyC = kk at a ⊢
   simp at a
   simp [fO,hl,fv,kyD,aK,a,hb]
  ·rw [OY hb] at a
   generalize ks.map kyC = kk at a ⊢
   simp at a
   simp [fO,hl,fv,kyD,aK,a,hb]
 have hi:t3 [.lst (((roundL.filter fun t=>decide ((x + t.1,y + t.2.1) ∈ ks)).map fun t=>t.2.2).map D.int)] = some (.int (De ks x y:Nat)):=by
  show (aK _).map _ = _
  rw [fG,Jw]
  show some (D.int _) = _
  rw [Cs (fun dx dy=>decide ((x + dx,y + dy) ∈ ks)) roundL]
  rfl
 have hl:8 <= LIM:=aO (by lia)
 generalize ((roundL.filter fun t=>decide ((x + t.1,y + t.2.1) ∈ ks)).map fun t=>t.2.2).map D.int = zs at hc hi
 simp only [roundL,Ox,PP] at hc
 have h1:=AI (De ks x y)
 have h2:=ny (De ks x y)
 unfold goF goB
 generalize De ks x y = n at *
 by_cases c1:tS n = 1
 ·by_cases c2:2 <= oh n <;> cases e <;> simp [jv,qS,fnO,wf,hc,hi,hl,h1,h2,c1,c2] <;> lia
 ·have c1':¬ ((tS n:Nat):Int) = 1:=by lia
  cases e <;> simp [jv,qS,fnO,wf,hc,hi,hl,h1,h2,c1,c1']
noncomputable def bh (ks:R) (dx dy:Int):R:=ks.filter fun c=>!decide ((c.1 + dx,c.2 + dy) ∈ ks)
theorem yg (b:Int × Int -> Bool):∀ l:R,l.filterMap (fun c=>if b c then some (prD c) else none) = (l.filter b).map prD
 | []=>rfl
 | c :: l=>by
  rw [OW,Pz,yg b l]
  cases b c <;> rfl
theorem qq (ks:R) (dx dy:Int) (h:ks.length <= 100000):bj [.dif (ks.map kyC),.int dx,.int dy] = some (.lst ((bh ks dx dy).map prD)):=by
 have hc:bR (aU (ao (ag 0) (ao (ag 1) aX))) (xB (lB true (a7 (ad (xOp bQ (ah 0) (ah 3)) (ad (xOp bQ (ah 1) (ah 4)) aq))) 2)) (a7 (ad (aw 0) (ad (aw 1) aq))) [.un,.un,.sh (.dif (ks.map kyC)),.sh (.int dx),.sh (.int dy)] (ks.map prD) = some ((bh ks dx dy).map prD):=by
  unfold bh
  rw [<- yg]
  refine dE prD _ ks fun c _=>?_
  have a:=nu ks (c.1 + dx) (c.2 + dy)
  have hl:2 <= LIM:=aO (by lia)
  by_cases hb:(c.1 + dx,c.2 + dy) ∈ ks
  ·rw [Pb hb] at a
   generalize ks.map kyC = kk at a ⊢
   simp at a
   simp [fO,hl,fv,kyD,aK,a,hb]
  ·rw [OY hb] at a
   generalize ks.map kyC = kk at a ⊢
   simp at a
   simp [fO,hl,fv,kyD,aK,a,hb]
 have hl:ks.length <= LIM:=aO h
 have e:(ks.map kyC).map (fun k=>D.tup (k.map D.int)) = ks.map prD:=by rw [OM];rfl
 simp [bj,ik,fnO,i6,e,hl,hc,O.d]
noncomputable def aW (e:Bool) (s:R × R) (c:Int × Int):R × R:=if goF s.2 e c then (s.1 ++ [c],s.2.filter fun d=>decide (d ≠ c)) else s
noncomputable def dG (e:Bool) (free ks:R):R × R:=free.foldl (aW e) ([],ks)
theorem vC (e:Bool) (s:R × R) (c d:Int × Int) (h:d ≠ c):d ∈ (aW e s c).2 ↔ d ∈ s.2:=by
 unfold aW
 split
 ·rw [O3]
  simp [h]
 ·exact Py
theorem sd (e:Bool) (d:Int × Int):∀ (pre:R) (s:R × R),d ∉ pre -> (d ∈ (pre.foldl (aW e) s).2 ↔ d ∈ s.2)
 | [],_,_=>Py
 | c :: pre,s,h=>by
  rw [OP,sd e d pre _ fun z=>h (Ou _ z),vC e s c d fun z=>h (by rw [z];exact Oq)]
theorem vE (e:Bool) (s:R × R) (c:Int × Int):(aW e s c).2.Sublist s.2:=by
 unfold aW
 split
 ·exact RH
 ·exact List.Sublist.refl _
theorem sf (e:Bool):∀ (pre:R) (s:R × R),(pre.foldl (aW e) s).2.Sublist s.2
 | [],_=>List.Sublist.refl _
 | c :: pre,s=>by rw [OP];exact (sf e pre _).trans (vE e s c)
theorem lP (c:Int × Int):∀ l:R,l.Nodup -> c ∈ l -> (l.filter fun d=>decide (d ≠ c)).length + 1 = l.length
 | [],_,h=>by cases h
 | d :: l,nd,h=>by
  obtain ⟨n1,n2⟩:=OL.mp nd
  by_cases e:d = c
  ·subst e
   rw [Qg (by simp),Ow]
   have:l.filter (fun x=>decide (x ≠ d)) = l:=List.filter_eq_self.mpr fun y hy=>by
    simp only [ne_eq,decide_eq_true_eq]
    exact fun z=>n1 (by rw [<- z];exact hy)
   rw [this]
  ·rw [QR (by simpa using e),Ow,Ow,lP c l n2 ((Oy.mp h).resolve_left fun z=>e z.symm)]
theorem yj (e:Bool):∀ (pre:R) (s:R × R),pre.Nodup -> s.2.Nodup -> (∀ c ∈ pre,c ∈ s.2) -> (pre.foldl (aW e) s).1.length + (pre.foldl (aW e) s).2.length = s.1.length + s.2.length
 | [],_,_,_,_=>rfl
 | c :: pre,s,nd,ns,h=>by
  obtain ⟨n1,n2⟩:=OL.mp nd
  rw [OP,yj e pre _ n2 ((vE e s c).nodup ns) fun d hd=>(vC e s c d fun z=>n1 (by rw [<- z];exact hd)).mpr (h d (Ou _ hd))]
  unfold aW
  split
  ·have:=lP c s.2 ns (h c Oq)
   show (s.1 ++ [c]).length + (s.2.filter fun d=>decide (d ≠ c)).length = _
   rw [Ov,Pv]
   lia
  ·rfl
theorem se (e:Bool):∀ (pre:R) (s:R × R),(pre.foldl (aW e) s).1.length <= s.1.length + pre.length
 | [],_=>by simp
 | c :: pre,s=>by
  rw [OP]
  have:=se e pre (aW e s c)
  have h2:(aW e s c).1.length <= s.1.length + 1:=by unfold aW;split <;> simp
  rw [Ow]
  lia
theorem qw (p:Addr) (ks free:R) (e:Bool) (nf:free.Nodup) (hs:∀ c ∈ free,c ∈ ks) (hl:free.length <= 50000):ez p (ks.map kyC) [.lst (free.map prD),.bl e] = some (.lst ((dG e free ks).1.map (O.sh ∘ prD)),(dG e free ks).2.map kyC):=by
 obtain ⟨ρ',k1,v4,rfl⟩:=bI (g:=ag 4) (m:=hV) prD (fun pre ρ=>∃ v4:Sl,ρ = [.ow (.hd p ((pre.foldl (aW e) ([],ks)).2.map kyC) []),.sh (.lst (free.map prD)),.sh (.bl e),owl ((pre.foldl (aW e) ([],ks)).1.map prD),v4]) free [.ow (.hd p (ks.map kyC) []),.sh (.lst (free.map prD)),.sh (.bl e),.ow (.lst []),.un] ⟨.un,rfl⟩ fun pre c post ρ ef hpt0=>by
  obtain ⟨v4,hρ⟩:=hpt0
  subst hρ
  have hf:=se e pre ([],ks)
  have hcp:c ∉ pre:=fun z=>by
   rw [ef] at nf
   exact (Pr.mp nf).2.2 c z c Oq rfl
  have hck:c ∈ (pre.foldl (aW e) ([],ks)).2:=(sd e c pre _ hcp).mpr (hs c (by rw [ef];exact OB _ Oq))
  have hpl:pre.length < free.length:=by rw [ef,Ov,Ow];lia
  rw [Qt]
  show ∃ ρ1 ρ2,_ /\ _ /\ ∃ v4:Sl,ρ2 = [.ow (.hd p ((aW e (pre.foldl (aW e) ([],ks)) c).2.map kyC) []),_,_,owl ((aW e (pre.foldl (aW e) ([],ks)) c).1.map prD),v4]
  generalize pre.foldl (aW e) ([],ks) = s at *
  obtain ⟨t,kk⟩:=s
  dsimp only at hf hck ⊢
  have hg:=Dd kk c.1 c.2 e
  have hk:=nr kk c
  rw [Pb hck] at hk
  have hd:=BK kk c
  have ht:t.length < LIM:=OT (show t.length < 100000 by simp at hf;lia) (aO (Op _))
  unfold aW
  cases q:goF kk e c with
  | false=>
   refine ⟨_,_,rfl,.inl ?_,.sh (prD c),rfl⟩
   have q':goF kk e (c.1,c.2) = false:=q
   rw [q'] at hg
   simp [hV,hg,fI]
  | true=>
   refine ⟨_,_,rfl,.inl ?_,.sh (prD c),rfl⟩
   have q':goF kk e (c.1,c.2) = true:=q
   rw [q'] at hg
   have hpop:zQ 0 (aw 4) [.ow (.hd p (kk.map kyC) []),.sh (.lst (free.map prD)),.sh (.bl e),owl (t.map prD),.sh (prD c)] = some (.nx [.ow (.hd p ((kk.filter fun d=>decide (d ≠ c)).map kyC) []),.sh (.lst (free.map prD)),.sh (.bl e),owl (t.map prD),.sh (prD c)]):=by
    have hy:kyD (prD c) = some (kyC c):=rfl
    unfold zQ aw
    show (some (Sl.ow (.hd p (kk.map kyC) []))).bind _ = _
    dsimp only [Option.bind,List.getElem?_cons_succ,List.getElem?_cons_zero]
    rw [AE]
    dsimp only
    rw [hy]
    dsimp only
    rw [hk,Oj rfl,hd]
    rfl
   have hif:pd (nU 0 (bC jv (ad (aw 0) (ad (xOp dIx (ah 4) (xC (.int 0))) (ad (xOp dIx (ah 4) (xC (.int 1))) (ad (aw 2) aq)))))) [.ow (.hd p (kk.map kyC) []),.sh (.lst (free.map prD)),.sh (.bl e),owl (t.map prD),.sh (prD c)] = some true:=by simp [hg,fI]
   show xIf _ _ _ [.ow (.hd p (kk.map kyC) []),.sh (.lst (free.map prD)),.sh (.bl e),owl (t.map prD),.sh (prD c)] = _
   unfold xIf
   rw [hif]
   dsimp only [Option.bind]
   rw [Oj rfl,aI hpop]
   simp [ht]
 have hpf:dG e free ks = free.foldl (aW e) ([],ks):=rfl
 rw [hpf]
 generalize free.foldl (aW e) ([],ks) = s at *
 have hl0:(0:Nat) <= LIM:=O9 _
 simp [ez,fnH,ke,k1]
noncomputable def sideL:R:=[(0,-1),(-1,0),(0,1),(1,0)]
noncomputable def cY (e:Bool) (s:R × R) (d:Int × Int):R × R:=let r:=dG e (bh s.2 d.1 d.2) s.2;(s.1 ++ r.1,r.2)
noncomputable def dc (e:Bool) (ks:R):R × R:=sideL.foldl (cY e) ([],ks)
theorem qP {ks:R} (n:ks.Nodup) (dx dy:Int):(bh ks dx dy).Nodup:=RH.nodup n
theorem nj {ks:R} {dx dy:Int} {c:Int × Int} (h:c ∈ bh ks dx dy):c ∈ ks:=(O3.mp h).1
theorem yl (ks:R) (dx dy:Int):(bh ks dx dy).length <= ks.length:=Q8 _ _
theorem sW (e:Bool) {free ks:R} (nf:free.Nodup) (nk:ks.Nodup) (hs:∀ c ∈ free,c ∈ ks):(dG e free ks).2.Nodup /\ (dG e free ks).1.length + (dG e free ks).2.length = ks.length:=
 ⟨(sf e free _).nodup nk,by have:=yj e free ([],ks) nf nk hs;unfold dG;simpa using this⟩
theorem HB (e:Bool) (s:R × R) (d:Int × Int) (n:s.2.Nodup):(cY e s d).2.Nodup /\ (cY e s d).1.length + (cY e s d).2.length = s.1.length + s.2.length:=by
 have h:=sW e (qP n d.1 d.2) n fun c hc=>nj hc
 refine ⟨h.1,?_⟩
 show (s.1 ++ (dG e (bh s.2 d.1 d.2) s.2).1).length + (dG e (bh s.2 d.1 d.2) s.2).2.length = _
 rw [Ov]
 lia
theorem xo (e:Bool):∀ (l:R) (s:R × R),s.2.Nodup -> (l.foldl (cY e) s).2.Nodup /\ (l.foldl (cY e) s).1.length + (l.foldl (cY e) s).2.length = s.1.length + s.2.length
 | [],_,n=>⟨n,rfl⟩
 | d :: l,s,n=>by
  rw [OP]
  have h:=HB e s d n
  have ih:=xo e l (cY e s d) h.1
  exact ⟨ih.1,by rw [ih.2,h.2]⟩
theorem qV (e:Bool) {ks:R} (n:ks.Nodup):(dc e ks).2.Nodup /\ (dc e ks).1.length + (dc e ks).2.length = ks.length:=by
 have h:=xo e sideL ([],ks) n
 exact ⟨h.1,by have:=h.2;simpa [dc] using this⟩
noncomputable abbrev prM (p:Int × Int):D:=.mtp [.int p.1,.int p.2]
theorem oU:∀ l:R,noDics (l.map prD) = true
 | []=>by simp [noDics]
 | c :: l=>by rw [Ox,noDics,oU l];simp [fI,noDics]
theorem oP (p:Addr) (ks:R) (e:Bool) (n:ks.Nodup) (hl:ks.length <= 50000):fe p (ks.map kyC) [.bl e] = some (.lst ((dc e ks).1.map (O.sh ∘ prD)),(dc e ks).2.map kyC):=by
 obtain ⟨ρ',k1,v3,v4,rfl⟩:=bI (g:=aU (ao (ag 3) (ao (ag 4) aX))) (m:=j5) prM (fun pre ρ=>∃ v3 v4:Sl,ρ = [.ow (.hd p ((pre.foldl (cY e) ([],ks)).2.map kyC) []),.sh (.bl e),owl ((pre.foldl (cY e) ([],ks)).1.map prD),v3,v4]) sideL [.ow (.hd p (ks.map kyC) []),.sh (.bl e),.ow (.lst []),.un,.un] ⟨.un,.un,rfl⟩ fun pre d post ρ ef hpt0=>by
  obtain ⟨v3,v4,hρ⟩:=hpt0
  subst hρ
  have hok:=xo e pre ([],ks) n
  rw [Qt]
  show ∃ ρ1 ρ2,_ /\ _ /\ ∃ v3 v4:Sl,ρ2 = [.ow (.hd p ((cY e (pre.foldl (cY e) ([],ks)) d).2.map kyC) []),_,owl ((cY e (pre.foldl (cY e) ([],ks)) d).1.map prD),v3,v4]
  generalize pre.foldl (cY e) ([],ks) = s at *
  obtain ⟨t,kk⟩:=s
  obtain ⟨nk,hlen⟩:=hok
  simp at hlen
  dsimp only at nk
  have hf:=qq kk d.1 d.2 (by lia)
  have nf:=qP nk d.1 d.2
  have fl:=yl kk d.1 d.2
  have hp:=fun q=>qw q kk (bh kk d.1 d.2) e nf (fun c hc=>nj hc) (by lia)
  have hA:=wJ hp
  have pok:=sW e nf nk fun c hc=>nj hc
  refine ⟨_,[.ow (.hd p ((dG e (bh kk d.1 d.2) kk).2.map kyC) []),.sh (.bl e),owl ((t ++ (dG e (bh kk d.1 d.2) kk).1).map prD),.sh (.int d.1),.sh (.int d.2)],rfl,.inl ?_,_,_,rfl⟩
  have hL:t.length + (dG e (bh kk d.1 d.2) kk).1.length <= LIM:=aO (by lia)
  have hnd:=oU (bh kk d.1 d.2)
  have hm:nU 0 (bC bj (ad (aw 0) (ad (aw 3) (ad (aw 4) aq)))) [.ow (.hd p (kk.map kyC) []),.sh (.bl e),owl (t.map prD),.sh (.int d.1),.sh (.int d.2)] = some (.lst ((bh kk d.1 d.2).map prD)):=by
   simp [hf,fI,hnd]
  generalize dG e (bh kk d.1 d.2) kk = r at *
  show tV 2 0 ez (ad (nU 0 (bC bj (ad (aw 0) (ad (aw 3) (ad (aw 4) aq))))) (ad (aw 1) aq)) [.ow (.hd p (kk.map kyC) []),.sh (.bl e),owl (t.map prD),.sh (.int d.1),.sh (.int d.2)] = _
  have ha:ad (nU 0 (bC bj (ad (aw 0) (ad (aw 3) (ad (aw 4) aq))))) (ad (aw 1) aq) [.ow (.hd p (kk.map kyC) []),.sh (.bl e),owl (t.map prD),.sh (.int d.1),.sh (.int d.2)] = some [.lst ((bh kk d.1 d.2).map prD),.bl e]:=by
   show Option.bind (nU 0 (bC bj (ad (aw 0) (ad (aw 3) (ad (aw 4) aq)))) [.ow (.hd p (kk.map kyC) []),.sh (.bl e),owl (t.map prD),.sh (.int d.1),.sh (.int d.2)]) _ = _
   rw [hm]
   rfl
  unfold tV
  simp only [PX,PY,PK,AE,ha,hA]
  simp [hL]
 have hrf:dc e ks = sideL.foldl (cY e) ([],ks):=rfl
 rw [hrf]
 generalize sideL.foldl (cY e) ([],ks) = s at *
 simp only [sideL,Ox,PP] at k1
 simp [fe,fnH,i8,k1]
theorem BI {a:XE} {b:XA} {ρ:M.Env} {x:D} {y:List D} (h:a ρ = some x) (k:b ρ = some y):ad a b ρ = some (x :: y):=by
 show Option.bind (a ρ) _ = _
 rw [h]
 show Option.bind (b ρ) _ = _
 rw [k]
 rfl
theorem He {e:XA} {ρ:M.Env} {l:List D} (h:e ρ = some l):xL e ρ = some (.lst l):=by unfold xL;rw [h];rfl
theorem GO {m:List D -> Option D} {a:XA} {ρ:M.Env} {ds:List D} {d:D} (h:a ρ = some ds) (k:m ds = some d):bC m a ρ = some d:=by unfold bC;rw [h];exact k
noncomputable def cf (e:Bool):Nat -> R -> R -> R × R
 | 0,t,ks=>(t,ks)
 | n + 1,t,ks=>if (dc e ks).1 = [] then (t,ks) else cf e n (t ++ (dc e ks).1) (dc e ks).2
theorem vD (e:Bool):∀ (free:R) (s:R × R),(free.foldl (aW e) s).1 = s.1 -> (free.foldl (aW e) s).2 = s.2
 | [],_,_=>rfl
 | c :: l,s,h=>by
  rw [OP] at h ⊢
  have hl:∀ (l:R) (s:R × R),s.1.length <= (l.foldl (aW e) s).1.length:=fun l=>by
   induction l with
   | nil=>intro s;exact Op _
   | cons c l ih=>
    intro s
    rw [OP]
    refine OD ?_ (ih _)
    unfold aW
    split
    ·show s.1.length <= (s.1 ++ [c]).length;simp
    ·exact Op _
  cases q:goF s.2 e c with
  | false=>
   have e1:aW e s c = s:=by unfold aW;rw [q];rfl
   rw [e1] at h ⊢
   exact vD e l s h
  | true=>
   have e1:aW e s c = (s.1 ++ [c],s.2.filter fun d=>decide (d ≠ c)):=by unfold aW;rw [q];rfl
   have:=hl l (aW e s c)
   rw [h,e1] at this
   simp at this
   lia
theorem zl (e:Bool):∀ (l:R) (s:R × R),(l.foldl (cY e) s).1 = s.1 -> (l.foldl (cY e) s).2 = s.2
 | [],_,_=>rfl
 | d :: l,s,h=>by
  rw [OP] at h ⊢
  have hl:∀ (l:R) (s:R × R),∃ z,(l.foldl (cY e) s).1 = s.1 ++ z:=fun l=>by
   induction l with
   | nil=>intro s;exact ⟨[],by simp⟩
   | cons c l ih=>
    intro s
    rw [OP]
    obtain ⟨z,hz⟩:=ih (cY e s c)
    exact ⟨(dG e (bh s.2 c.1 c.2) s.2).1 ++ z,by rw [hz];show s.1 ++ _ ++ z = _;rw [OV]⟩
  obtain ⟨z,hz⟩:=hl l (cY e s d)
  have e1:(cY e s d).1 = s.1 ++ (dG e (bh s.2 d.1 d.2) s.2).1:=rfl
  rw [h,e1,OV] at hz
  have e2:(dG e (bh s.2 d.1 d.2) s.2).1 = []:=by
   have:=List.self_eq_append_right.mp hz
   exact (List.append_eq_nil_iff.mp this).1
  have e3:(cY e s d).2 = s.2:=by
   show (dG e (bh s.2 d.1 d.2) s.2).2 = s.2
   exact vD e _ ([],s.2) e2
  rw [zl e l (cY e s d) (by rw [h,e1,e2,OZ]),e3]
theorem zj {e:Bool} {ks:R} (h:(dc e ks).1 = []):(dc e ks).2 = ks:=zl e sideL ([],ks) h
theorem tU (d0:D) (e:Bool):∀ (n:Nat) (t ks:R) (tb:Int),ks.Nodup -> ks.length < n -> t.length + ks.length <= 50000 -> tb < t.length ->
  ∃ tb':Int,gQ cZ fm [.sh d0,.sh (.bl e),.ow (.dic (ks.map kyC)),owl (t.map prD),.sh (.int tb)] = some (.nx [.sh d0,.sh (.bl e),.ow (.dic ((cf e n t ks).2.map kyC)),owl ((cf e n t ks).1.map prD),.sh (.int tb')])
 | 0,_,_,_,_,h,_,_=>by lia
 | n + 1,t,ks,tb,nk,hn,hl,htb=>by
  have hr:=wJ fun q=>oP q ks e nk (by lia)
  have ok:=qV e nk
  have hL:t.length + (dc e ks).1.length <= LIM:=aO (by lia)
  have hC:cZ [.sh d0,.sh (.bl e),.ow (.dic (ks.map kyC)),owl (t.map prD),.sh (.int tb)] = some true:=by
   simp [cZ]
   lia
  have hB:fm [.sh d0,.sh (.bl e),.ow (.dic (ks.map kyC)),owl (t.map prD),.sh (.int tb)] = some (.nx [.sh d0,.sh (.bl e),.ow (.dic ((dc e ks).2.map kyC)),owl ((t ++ (dc e ks).1).map prD),.sh (.int (t.length:Nat))]):=by
   unfold fm
   rw [aI (ρ':=[.sh d0,.sh (.bl e),.ow (.dic (ks.map kyC)),owl (t.map prD),.sh (.int (t.length:Nat))]) (by simp)]
   generalize dc e ks = r at *
   have ha:ad (aw 1) aq [.sh d0,.sh (.bl e),.ow (.dic (ks.map kyC)),owl (t.map prD),.sh (.int (t.length:Nat))] = some [.bl e]:=rfl
   unfold tV
   simp only [PX,PY,PK,wQ,ha,hr]
   simp [hL]
  by_cases h0:(dc e ks).1 = []
  ·have h2:=zj h0
   rw [h0,h2,OZ] at hB
   have hE:cZ [.sh d0,.sh (.bl e),.ow (.dic (ks.map kyC)),owl (t.map prD),.sh (.int (t.length:Nat))] = some false:=by
    simp [cZ]
   refine ⟨(t.length:Nat),?_⟩
   have e1:cf e (n + 1) t ks = (t,ks):=by rw [cf,Oj h0]
   rw [e1]
   exact pQ hC hB (Bq hE)
  ·have e1:cf e (n + 1) t ks = cf e n (t ++ (dc e ks).1) (dc e ks).2:=by rw [cf,Oi h0]
   rw [e1]
   have hp:0 < (dc e ks).1.length:=List.length_pos_iff.mpr h0
   obtain ⟨tb',k⟩:=tU d0 e n (t ++ (dc e ks).1) (dc e ks).2 (t.length:Nat) ok.1 (by lia) (by rw [Ov];lia) (by rw [Ov];lia)
   exact ⟨tb',pQ hC hB k⟩
theorem tQ (e:Bool):∀ (n:Nat) (t ks:R),ks.Nodup -> (cf e n t ks).2.Nodup /\ (cf e n t ks).1.length + (cf e n t ks).2.length = t.length + ks.length
 | 0,_,_,n=>⟨n,rfl⟩
 | n + 1,t,ks,nk=>by
  rw [cf]
  split
  ·exact ⟨nk,rfl⟩
  ·have ok:=qV e nk
   have ih:=tQ e n (t ++ (dc e ks).1) (dc e ks).2 ok.1
   rw [Ov] at ih
   exact ⟨ih.1,by lia⟩
noncomputable abbrev cT (c:Int × Int):Tri:=(c.2,c.1,c.1)
theorem yi:∀ (l acc:R),(acc ++ l).Nodup -> (l.map kyC).foldl pR (acc.map kyC) = (acc ++ l).map kyC
 | [],acc,_=>by simp
 | c :: l,acc,n=>by
  have hc:c ∉ acc:=fun z=>(Pr.mp n).2.2 c z c Oq rfl
  rw [Ox,OP]
  have e1:pR (acc.map kyC) (kyC c) = (acc ++ [c]).map kyC:=by
   unfold pR
   rw [nr,OY hc,Oi (by decide),QO]
   rfl
  rw [e1,yi l (acc ++ [c]) (by simpa using n)]
  simp
theorem yY:∀ l:R,kF (l.map fun c=>D.tup [prD c,.bl true]) = some (l.map kyC)
 | []=>rfl
 | c :: l=>by
  rw [Ox,kF,yY l]
  rfl
theorem sP:∀ l:List Tri,noDics (l.map ee) = true
 | []=>by simp [noDics]
 | c :: l=>by rw [Ox,noDics,sP l];simp [fI,noDics]
theorem ul (d0:D) (cs:R) (e:Bool) (hc:cg [d0] = some (.lst (cs.map prD))) (n:cs.Nodup) (hl:cs.length <= 20000) :
  gC [d0,.bl e] = some (.tup [.sh (fJ (cP ((cf e (cs.length + 1) [] cs).2.map cT))),.lst ((cf e (cs.length + 1) [] cs).1.map (O.sh ∘ prD))]):=by
 have hL:cs.length <= LIM:=aO (by lia)
 have hL':cs.length < LIM:=OT (show cs.length < 100000 by lia) (aO (Op _))
 have h2:2 <= LIM:=aO (by lia)
 have c1:bR (ag 0) eE (a7 (ad (aw 0) (ad (xC (.bl true)) aq))) [.un] (cs.map prD) = some (cs.map fun c=>D.tup [prD c,.bl true]):=cR prD _ cs fun c _=>by simp [fO,h2]
 have hd:xA (bF [none] (xIt (bC cg (ad (aw 0) aq))) (ag 0) eE (a7 (ad (aw 0) (ad (xC (.bl true)) aq)))) [.sh d0,.sh (.bl e),.un,.un,.un] = some (.dic (cs.map kyC)):=by
  have hp:=yY cs
  have hf:=yi cs [] (by simpa using n)
  simp only [PP,List.nil_append] at hf
  have hx:bF [none] (xIt (bC cg (ad (aw 0) aq))) (ag 0) eE (a7 (ad (aw 0) (ad (xC (.bl true)) aq))) [.sh d0,.sh (.bl e),.un,.un,.un] = some (cs.map fun c=>D.tup [prD c,.bl true]):=by
   simp [hc,hL,c1]
  unfold xA
  rw [hx]
  dsimp only [Option.bind]
  rw [hp]
  dsimp only
  rw [Os,Oj hL',hf]
 obtain ⟨tb',hw⟩:=tU d0 e (cs.length + 1) [] cs (-1) n (QF _) (by simp;lia) (by simp)
 have ok:=tQ e (cs.length + 1) [] cs n
 generalize cf e (cs.length + 1) [] cs = r at *
 have hr2:r.2.length <= cs.length:=by have:=ok.2;simp at this;lia
 have hlr:r.2.length <= LIM:=aO (by lia)
 have h3:3 <= LIM:=aO (by lia)
 have ep:=qv (r.2.map cT) (by rw [Os];lia)
 have ek:(r.2.map kyC).map (fun k=>D.tup (k.map D.int)) = r.2.map prD:=by rw [OM];rfl
 have c2:bR (aU (ao (ag 0) (ao (ag 1) aX))) eE (a7 (ad (aw 1) (ad (aw 0) (ad (aw 0) aq)))) [.un,.un] (r.2.map prD) = some (r.2.map fun c=>ee (cT c)):=cR prD _ r.2 fun c _=>by simp [fO,h3]
 have e2:(r.2.map cT).map ee = r.2.map fun c=>ee (cT c):=by rw [OM];rfl
 have hn2:=sP (r.2.map cT)
 rw [e2] at ep hn2
 have hm:ir 2 (bF [none,none] (mR 2) (aU (ao (ag 0) (ao (ag 1) aX))) eE (a7 (ad (aw 1) (ad (aw 0) (ad (aw 0) aq))))) [.sh d0,.sh (.bl e),.ow (.dic (r.2.map kyC)),owl (r.1.map prD),.sh (.int tb')] = some (r.2.map fun c=>ee (cT c)):=by
  unfold ir
  simp only [PX,PY,PK,wQ,List.set_cons_succ,List.set_cons_zero]
  have hx:bF [none,none] (mR 2) (aU (ao (ag 0) (ao (ag 1) aX))) eE (a7 (ad (aw 1) (ad (aw 0) (ad (aw 0) aq)))) [.sh d0,.sh (.bl e),.sh (.dif (r.2.map kyC)),owl (r.1.map prD),.sh (.int tb')] = some (r.2.map fun c=>ee (cT c)):=by
   unfold bF mR
   simp only [PX,PY,ek,PK,Os]
   rw [Oj hlr]
   exact c2
  rw [hx]
  simp only [PK]
  rw [Oj hn2]
 have hw':gQ cZ fm [.sh d0,.sh (.bl e),.ow (.dic (cs.map kyC)),.ow (.lst []),.sh (.int (-1))] = _:=hw
 have hrun:kW [.sh d0,.sh (.bl e),.un,.un,.un] = some (.ro (.tup [.sh (fJ (cP (r.2.map cT))),.lst (r.1.map (O.sh ∘ prD))])):=by
  unfold kW
  rw [aI (ρ':=[.sh d0,.sh (.bl e),.ow (.dic (cs.map kyC)),.un,.un]) (by unfold wa;rw [hd];rfl),aI (ρ':=[.sh d0,.sh (.bl e),.ow (.dic (cs.map kyC)),.ow (.lst []),.un]) (by simp),aI (ρ':=[.sh d0,.sh (.bl e),.ow (.dic (cs.map kyC)),.ow (.lst []),.sh (.int (-1))]) (by simp),aI hw']
  have hcall:bC b9 (ad (xL (ir 2 (bF [none,none] (mR 2) (aU (ao (ag 0) (ao (ag 1) aX))) eE (a7 (ad (aw 1) (ad (aw 0) (ad (aw 0) aq))))))) aq) [.sh d0,.sh (.bl e),.ow (.dic (r.2.map kyC)),owl (r.1.map prD),.sh (.int tb')] = some (fJ (cP (r.2.map cT))):=by
   exact GO (BI (He hm) rfl) ep
  unfold pP
  show Option.bind _ _ = _
  rw [hcall]
  show some (Out.ro (.tup [_,.lst ((r.1.map prD).map O.sh)])) = _
  rw [OM]
 simp [gC,fnO,hrun]
theorem zI {p:Pic} (c:dN p) (e:Bool) (hc:cnt p <= 1000) (h:(aY p).length <= 30000) (h1:p.length <= 30000) (hr:∀ q ∈ p,q.2.length <= 30000) (hl:(aS (aY p)).length <= 20000) :
  gC [fJ p,.bl e] = some (.tup [.sh (fJ (cP ((cf e ((aS (aY p)).length + 1) [] (aS (aY p))).2.map cT))),.lst ((cf e ((aS (aY p)).length + 1) [] (aS (aY p))).1.map (O.sh ∘ prD))]):=
 ul _ _ e (uk p c hc h h1 hr) (jA c) hl
noncomputable def stepL:R:=[(0,-1),(-1,-1),(-1,0),(-1,1),(0,1),(1,1),(1,0),(1,-1)]
noncomputable def bZ (b:Bool):Int:=if b then 1 else 0
noncomputable def Kb (a b c d e f g h:Bool):Int:=bZ a + (bZ b + (bZ c + (bZ d + (bZ e + (bZ f + (bZ g + (bZ h + 0)))))))
noncomputable def lw (a b c:Bool):Int:=if bZ a = 0 /\ bZ b + bZ c > 0 then 1 else 0
noncomputable def goL (a b c d e f g h z:Bool):Bool:=if z && decide (Kb a b c d e f g h < 2) then false else decide (0 + lw a b c + lw c d e + lw e f g + lw g h a = 1)
noncomputable def Md (a b c d e f g h:Bool):Int:=[if a then 1 else 0,if b then 2 else 0,if c then 4 else 0,if d then 8 else 0,if e then 16 else 0,if f then 32 else 0,if g then 64 else 0,if h then 128 else 0].sum
theorem G6:∀ a b c d e f g h z:Bool,goL a b c d e f g h z = goB (Md a b c d e f g h).toNat z:=by decide +kernel
theorem Aw (ks:R) (z:Bool) (x y:Int):goF ks z (x,y) = goL (decide ((x + 0,y + -1) ∈ ks)) (decide ((x + -1,y + -1) ∈ ks)) (decide ((x + -1,y + 0) ∈ ks)) (decide ((x + -1,y + 1) ∈ ks)) (decide ((x + 0,y + 1) ∈ ks)) (decide ((x + 1,y + 1) ∈ ks)) (decide ((x + 1,y + 0) ∈ ks)) (decide ((x + 1,y + -1) ∈ ks)) z:=by
 rw [G6]
 rfl
theorem ga {g:XG} {m:XS} {d:D} {l:List D} {ρ ρ1 ρ2:M.Env} (hg:g d ρ = some ρ1) (hm:m ρ1 = some (.nx ρ2)):dt g m (d :: l) ρ = dt g m l ρ2:=by
 rw [mI,hg]
 dsimp only [Option.bind]
 rw [hm]
theorem ii {e:XA} {g:XG} {m:XS} {ρ:M.Env} {l:List D} (h:e ρ = some l):f8 e g m ρ = dt g m l ρ:=by
 unfold f8
 rw [h]
 rfl
theorem qu (ks:R) (x y:Int) (z:Bool):eS [.dif (ks.map kyC),.int x,.int y,.bl z] = some (.bl (goF ks z (x,y))):=by
 have hl2:2 <= LIM:=aO (by lia)
 have hl8:8 <= LIM:=aO (by lia)
 have hl4:4 <= LIM:=aO (by lia)
 have hc:bR (aU (ao (ag 0) (ao (ag 1) aX))) eE (xCB xN (ad (lB false (a7 (ad (xOp bQ (ah 3) (ah 0)) (ad (xOp bQ (ah 4) (ah 1)) aq))) 2) aq)) [.un,.un,.sh (.dif (ks.map kyC)),.sh (.int x),.sh (.int y)] (stepL.map prD) = some (stepL.map fun t=>D.int (bZ (decide ((x + t.1,y + t.2) ∈ ks)))):=by
  refine cR prD _ stepL fun t _=>?_
  have a:=nu ks (x + t.1) (y + t.2)
  by_cases hb:(x + t.1,y + t.2) ∈ ks
  ·rw [Pb hb] at a
   generalize ks.map kyC = kk at a ⊢
   simp at a
   simp [fO,hl2,fv,kyD,aK,a,hb,bZ,xN]
  ·rw [OY hb] at a
   generalize ks.map kyC = kk at a ⊢
   simp at a
   simp [fO,hl2,fv,kyD,aK,a,hb,bZ,xN]
 rw [Aw]
 simp only [stepL,Ox,PP] at hc
 generalize decide ((x + 0,y + -1) ∈ ks) = b0 at hc ⊢
 generalize decide ((x + -1,y + -1) ∈ ks) = b1 at hc ⊢
 generalize decide ((x + -1,y + 0) ∈ ks) = b2 at hc ⊢
 generalize decide ((x + -1,y + 1) ∈ ks) = b3 at hc ⊢
 generalize decide ((x + 0,y + 1) ∈ ks) = b4 at hc ⊢
 generalize decide ((x + 1,y + 1) ∈ ks) = b5 at hc ⊢
 generalize decide ((x + 1,y + 0) ∈ ks) = b6 at hc ⊢
 generalize decide ((x + 1,y + -1) ∈ ks) = b7 at hc ⊢
 generalize ks.map kyC = kk at hc ⊢
 have hx:kU [.sh (.dif kk),.sh (.int x),.sh (.int y),.sh (.bl z),.un,.un,.un,.un] = some (.rt (.bl (goL b0 b1 b2 b3 b4 b5 b6 b7 z))):=by
  unfold kU
  rw [aI (ρ':=[.sh (.dif kk),.sh (.int x),.sh (.int y),.sh (.bl z),.sh (.lst [prD (0,-1),prD (-1,-1),prD (-1,0),prD (-1,1),prD (0,1),prD (1,1),prD (1,0),prD (1,-1)]),.un,.un,.un]) (by simp [hl2,hl8])]
  rw [aI (ρ':=[.sh (.dif kk),.sh (.int x),.sh (.int y),.sh (.bl z),.sh (.lst [prD (0,-1),prD (-1,-1),prD (-1,0),prD (-1,1),prD (0,1),prD (1,1),prD (1,0),prD (1,-1)]),.sh (.lst [.int (bZ b0),.int (bZ b1),.int (bZ b2),.int (bZ b3),.int (bZ b4),.int (bZ b5),.int (bZ b6),.int (bZ b7)]),.un,.un]) (by simp [hc,hl8])]
  generalize D.lst [prD (0,-1),prD (-1,-1),prD (-1,0),prD (-1,1),prD (0,1),prD (1,1),prD (1,0),prD (1,-1)] = st
  have body:∀ (t:Int) (k:Nat) (v:Sl) (p q r:Bool) (hp:atI [D.int (bZ b0),.int (bZ b1),.int (bZ b2),.int (bZ b3),.int (bZ b4),.int (bZ b5),.int (bZ b6),.int (bZ b7)] (k:Int) = some (.int (bZ p))) (hq:atI [D.int (bZ b0),.int (bZ b1),.int (bZ b2),.int (bZ b3),.int (bZ b4),.int (bZ b5),.int (bZ b6),.int (bZ b7)] ((k:Int) + 1) = some (.int (bZ q))) (hr:atI [D.int (bZ b0),.int (bZ b1),.int (bZ b2),.int (bZ b3),.int (bZ b4),.int (bZ b5),.int (bZ b6),.int (bZ b7)] (((k:Int) + 2) % 8) = some (.int (bZ r))),
    dW [.sh (.dif kk),.sh (.int x),.sh (.int y),.sh (.bl z),.sh st,.sh (.lst [.int (bZ b0),.int (bZ b1),.int (bZ b2),.int (bZ b3),.int (bZ b4),.int (bZ b5),.int (bZ b6),.int (bZ b7)]),.sh (.int t),.sh (.int k)] = some (.nx [.sh (.dif kk),.sh (.int x),.sh (.int y),.sh (.bl z),.sh st,.sh (.lst [.int (bZ b0),.int (bZ b1),.int (bZ b2),.int (bZ b3),.int (bZ b4),.int (bZ b5),.int (bZ b6),.int (bZ b7)]),.sh (.int (t + lw p q r)),.sh (.int k)]):=by
   intro t k v p q r hp hq hr
   generalize [D.int (bZ b0),.int (bZ b1),.int (bZ b2),.int (bZ b3),.int (bZ b4),.int (bZ b5),.int (bZ b6),.int (bZ b7)] = bl at *
   unfold lw
   by_cases h1:bZ p = 0
   ·by_cases h2:0 < bZ q + bZ r
    ·simp [dW,hp,hq,hr,h1,h2]
    ·simp [dW,hp,hq,hr,h1,h2]
   ·simp [dW,hp,h1]
  have hsum:t3 [.lst [.int (bZ b0),.int (bZ b1),.int (bZ b2),.int (bZ b3),.int (bZ b4),.int (bZ b5),.int (bZ b6),.int (bZ b7)]] = some (.int (Kb b0 b1 b2 b3 b4 b5 b6 b7)):=rfl
  have p0:=body 0 0 .un b0 b1 b2 rfl rfl rfl
  have p2:=body (0 + lw b0 b1 b2) 2 .un b2 b3 b4 rfl rfl rfl
  have p4:=body (0 + lw b0 b1 b2 + lw b2 b3 b4) 4 .un b4 b5 b6 rfl rfl rfl
  have p6:=body (0 + lw b0 b1 b2 + lw b2 b3 b4 + lw b4 b5 b6) 6 .un b6 b7 b0 rfl rfl rfl
  unfold goL
  generalize Kb b0 b1 b2 b3 b4 b5 b6 b7 = sm at hsum ⊢
  generalize hbl:[D.int (bZ b0),.int (bZ b1),.int (bZ b2),.int (bZ b3),.int (bZ b4),.int (bZ b5),.int (bZ b6),.int (bZ b7)] = bl at *
  by_cases hs:z = true /\ sm < 2
  ·obtain ⟨rfl,h2⟩:=hs
   rw [Oj (by simpa using h2)]
   simp [hsum,h2]
  ·rw [Oi (by simpa using hs)]
   rw [aI (ρ':=[.sh (.dif kk),.sh (.int x),.sh (.int y),.sh (.bl z),.sh st,.sh (.lst bl),.un,.un]) (by
    cases z with
    | false=>simp
    | true=>
     have h2:¬ sm < 2:=fun h=>hs ⟨rfl,h⟩
     simp [hsum,h2])]
   rw [aI (ρ':=[.sh (.dif kk),.sh (.int x),.sh (.int y),.sh (.bl z),.sh st,.sh (.lst bl),.sh (.int 0),.un]) (by simp)]
   generalize lw b0 b1 b2 = t0 at *
   generalize lw b2 b3 b4 = t2 at *
   generalize lw b4 b5 b6 = t4 at *
   generalize lw b6 b7 b0 = t6 at *
   have hf:f8 (xIt (xL (jL (ad (xC (.int 0)) (ad (xC (.int 2)) (ad (xC (.int 4)) (ad (xC (.int 6)) aq))))))) (ag 7) dW [.sh (.dif kk),.sh (.int x),.sh (.int y),.sh (.bl z),.sh st,.sh (.lst bl),.sh (.int 0),.un] = some (.nx [.sh (.dif kk),.sh (.int x),.sh (.int y),.sh (.bl z),.sh st,.sh (.lst bl),.sh (.int (0 + t0 + t2 + t4 + t6)),.sh (.int 6)]):=by
    have hit:xIt (xL (jL (ad (xC (.int 0)) (ad (xC (.int 2)) (ad (xC (.int 4)) (ad (xC (.int 6)) aq)))))) [.sh (.dif kk),.sh (.int x),.sh (.int y),.sh (.bl z),.sh st,.sh (.lst bl),.sh (.int 0),.un] = some [.int 0,.int 2,.int 4,.int 6]:=by simp [hl4]
    rw [ii hit,ga (ρ1:=[.sh (.dif kk),.sh (.int x),.sh (.int y),.sh (.bl z),.sh st,.sh (.lst bl),.sh (.int 0),.sh (.int ((0:Nat):Int))]) rfl p0,ga (ρ1:=[.sh (.dif kk),.sh (.int x),.sh (.int y),.sh (.bl z),.sh st,.sh (.lst bl),.sh (.int (0 + t0)),.sh (.int ((2:Nat):Int))]) rfl p2,ga (ρ1:=[.sh (.dif kk),.sh (.int x),.sh (.int y),.sh (.bl z),.sh st,.sh (.lst bl),.sh (.int (0 + t0 + t2)),.sh (.int ((4:Nat):Int))]) rfl p4,ga (ρ1:=[.sh (.dif kk),.sh (.int x),.sh (.int y),.sh (.bl z),.sh st,.sh (.lst bl),.sh (.int (0 + t0 + t2 + t4)),.sh (.int ((6:Nat):Int))]) rfl p6]
    rfl
   rw [aI hf]
   simp
 simp [eS,mK,fnO,hx,O.d]
theorem Jn {ks ks':R} (h:∀ c,c ∈ ks ↔ c ∈ ks') (e:Bool) (c:Int × Int):goF ks e c = goF ks' e c:=by
 obtain ⟨x,y⟩:=c
 rw [Aw,Aw]
 simp only [h]
theorem Ih {n:Nat} {x:XS} {ds:List D} {o:O} (h:x (ds.map .sh ++ List.replicate (n - ds.length) .un) = some (.ro o)):fnO n x ds = some o:=by unfold fnO;rw [h]
theorem JP (n:Nat) (hn:n <= 1000):Lc [D.int (n:Int)] = some ((List.range' 0 n).map fun i:Nat=>D.int (i:Int)):=by
 show ifC _ _ _ = _
 rw [fX (by lia)]
 show some (fF 0 n) = _
 rw [EH,List.range_eq_range']
theorem lm (ns:List Int) (k:Nat):∃ v:Int,aQ [.scr (ns.map D.int),.int (k:Int)] = some (.int v):=by
 by_cases h:k < ns.length
 ·have h':(k:Int) < ns.length:=by lia
  have ac:atI (ns.map D.int) (k:Int) = some (.int ns[k]):=IY (by rw [OU,PF h];rfl)
  exact ⟨ns[k],by simp [aQ,g6,fnO,i0,h',ac]⟩
 ·have h':¬ (k:Int) < ns.length:=by lia
  exact ⟨0,by simp [aQ,g6,fnO,i0,h']⟩
theorem Gq (x a b:Int):dIn false (.int x) (.tup [.int a,.int b]) = some (.bl (decide (x = a \/ x = b))):=by
 by_cases h1:x = a
 ·simp [dIn,aK,h1]
 ·by_cases h2:x = b
  ·simp [dIn,aK,h2]
  ·simp [dIn,aK,h1,h2]
theorem Bk (s0 s1 s9 s10:Sl) (ps:R) (w h kd:Int) (k:Int) (v7 v8:Sl) (hw:0 < w) (hw2:w < 1073741824) (hl:ps.length <= 1000):∃ (qs:R) (x y:Int),gb [s0,s1,owl (ps.map prD),.sh (.int w),.sh (.int h),.sh (.int kd),.sh (.int k),v7,v8,s9,s10] = some (.nx [s0,s1,owl (qs.map prD),.sh (.int w),.sh (.int h),.sh (.int kd),.sh (.int k),.sh (.int x),.sh (.int y),s9,s10]) /\ qs.length <= ps.length + 1:=by
 have h2:2 <= LIM:=aO (by lia)
 have hlim:ps.length < LIM:=fY (by lia)
 have yes:∀ x y:Int,jX 2 xPv (xSh (a7 (ad (aw 7) (ad (aw 8) aq)))) [s0,s1,owl (ps.map prD),.sh (.int w),.sh (.int h),.sh (.int kd),.sh (.int k),.sh (.int x),.sh (.int y),s9,s10] = some (.nx [s0,s1,owl ((ps ++ [(x,y)]).map prD),.sh (.int w),.sh (.int h),.sh (.int kd),.sh (.int k),.sh (.int x),.sh (.int y),s9,s10]):=fun x y=>by
  simp [h2,hlim]
 obtain ⟨x,hx⟩:∃ x,k % w = x:=⟨_,rfl⟩
 obtain ⟨y,hy⟩:∃ y,k / w = y:=⟨_,rfl⟩
 unfold gb
 rw [aI (ρ':=[s0,s1,owl (ps.map prD),.sh (.int w),.sh (.int h),.sh (.int kd),.sh (.int k),.sh (.int x),v8,s9,s10]) (by simp [IM hw,hx])]
 rw [aI (ρ':=[s0,s1,owl (ps.map prD),.sh (.int w),.sh (.int h),.sh (.int kd),.sh (.int k),.sh (.int x),.sh (.int y),s9,s10]) (by simp [Lz ⟨hw,hw2⟩,hy])]
 by_cases k0:kd = 0
 ·refine ⟨ps ++ [(x,y)],x,y,?_,by rw [Ov];simp⟩
  rw [<- yes x y]
  simp [k0]
 ·by_cases k1:kd = 1
  ·by_cases c1:x = 0 \/ x = w - 1
   ·refine ⟨ps ++ [(x,y)],x,y,?_,by rw [Ov];simp⟩
    rw [<- yes x y]
    simp [k1,Gq,h2,c1]
   ·by_cases c2:y = 0 \/ y = h - 1
    ·refine ⟨ps ++ [(x,y)],x,y,?_,by rw [Ov];simp⟩
     rw [<- yes x y]
     simp [k1,Gq,h2,c1,c2]
    ·refine ⟨ps,x,y,?_,by lia⟩
     simp [k1,Gq,h2,c1,c2]
  ·refine ⟨ps,x,y,?_,by lia⟩
   simp [k0,k1]
theorem sH (ns:List Int):∃ ps:R,iG [.scr (ns.map D.int)] = some (.lst (ps.map prD)) /\ ps.length <= 40:=by
 have h2:2 <= LIM:=aO (by lia)
 obtain ⟨f,hf⟩:∃ v:Int,aQ [.scr (ns.map D.int),.int 0] = some (.int v):=lm ns 0
 obtain ⟨w,hw,w1,w2⟩:∃ w:Nat,2 + f / 6 % 3 = (w:Int) /\ 2 <= w /\ w <= 4:=⟨(2 + f / 6 % 3).toNat,by lia,by lia,by lia⟩
 obtain ⟨h,hh,h1,h4⟩:∃ h:Nat,2 + f / 18 % 3 = (h:Int) /\ 2 <= h /\ h <= 4:=⟨(2 + f / 18 % 3).toNat,by lia,by lia,by lia⟩
 have hwh:w * h <= 16:=Nat.mul_le_mul w2 h4
 have hr:=JP (w * h) (by lia)
 have hmul:jl (.int (w:Int)) (.int (h:Int)) = some (.int ((w * h:Nat):Int)):=by
  have:jl (.int (w:Int)) (.int (h:Int)) = some (.int ((w:Int) * (h:Int))):=fX (.inl (by lia))
  rw [this,Int.natCast_mul]
 obtain ⟨ρ1,k1,ps1,v6,v7,v8,rfl,a1⟩:=bI (g:=ag 6) (m:=gb) (fun i:Nat=>D.int (i:Int)) (fun pre ρ=>∃ (ps:R) (v6 v7 v8:Sl),ρ = [.sh (.scr (ns.map D.int)),.sh (.int f),owl (ps.map prD),.sh (.int (w:Int)),.sh (.int (h:Int)),.sh (.int (f % 3)),v6,v7,v8,.un,.un] /\ ps.length <= pre.length) (List.range' 0 (w * h)) [.sh (.scr (ns.map D.int)),.sh (.int f),owl [],.sh (.int (w:Int)),.sh (.int (h:Int)),.sh (.int (f % 3)),.un,.un,.un,.un,.un] ⟨[],.un,.un,.un,rfl,by simp⟩ (by
  rintro pre i post _ e ⟨ps,v6,v7,v8,rfl,a1⟩
  have hp:pre.length < w * h:=by
   have:=OG List.length e
   rw [Ro,Ov,Ow] at this
   lia
  obtain ⟨qs,x,y,b1,b2⟩:=Bk (.sh (.scr (ns.map D.int))) (.sh (.int f)) .un .un ps (w:Int) (h:Int) (f % 3) (i:Int) v7 v8 (by lia) (by lia) (by lia)
  exact ⟨_,_,rfl,.inl b1,qs,_,_,_,rfl,by rw [Ov,Pv];lia⟩)
 rw [Ro] at a1
 have hfor1:f8 (zT (ad (xOp jl (ah 3) (ah 4)) aq)) (ag 6) gb [.sh (.scr (ns.map D.int)),.sh (.int f),owl [],.sh (.int (w:Int)),.sh (.int (h:Int)),.sh (.int (f % 3)),.un,.un,.un,.un,.un] = some (.nx [.sh (.scr (ns.map D.int)),.sh (.int f),owl (ps1.map prD),.sh (.int (w:Int)),.sh (.int (h:Int)),.sh (.int (f % 3)),v6,v7,v8,.un,.un]):=by
  have hit:zT (ad (xOp jl (ah 3) (ah 4)) aq) [.sh (.scr (ns.map D.int)),.sh (.int f),owl [],.sh (.int (w:Int)),.sh (.int (h:Int)),.sh (.int (f % 3)),.un,.un,.un,.un,.un] = some ((List.range' 0 (w * h)).map fun i:Nat=>D.int (i:Int)):=by
   rw [<- hr]
   simp [hmul]
  rw [ii hit]
  exact k1
 have hslice:∃ zs:List Int,zs.length <= 9 /\ ∀ ρ:M.Env,ρ[0]? = some (.sh (.scr (ns.map D.int))) -> xIt (xSl (ah 0) (wb (xC (.int 1))) (wb (xC (.int 10)))) ρ = some (zs.map D.int):=by
  have l1:(jk ns (some 1) (some 10)).length <= 9:=by
   have:=GR ns (some 1) (some 10)
   rw [Ch (by lia),Ch (by lia)] at this
   lia
  refine ⟨jk ns (some 1) (some 10),l1,fun ρ h0=>?_⟩
  have Jv:((jk ns (some 1) (some 10)).map D.int).length <= LIM:=by rw [Os];exact aO (by lia)
  rw [<- GS] at Jv ⊢
  simp [ah,h0,Jv]
 obtain ⟨zs,hz,hsl⟩:=hslice
 obtain ⟨ρ2,k2,ps2,u6,u7,u8,u9,u10,rfl,a2⟩:=bI (g:=ag 9) (m:=l5) D.int (fun pre ρ=>∃ (ps:R) (u6 u7 u8 u9 u10:Sl),ρ = [.sh (.scr (ns.map D.int)),.sh (.int f),owl (ps.map prD),.sh (.int (w:Int)),.sh (.int (h:Int)),.sh (.int (f % 3)),u6,u7,u8,u9,u10] /\ ps.length <= 16 + 2 * pre.length) zs [.sh (.scr (ns.map D.int)),.sh (.int f),owl (ps1.map prD),.sh (.int (w:Int)),.sh (.int (h:Int)),.sh (.int (f % 3)),v6,v7,v8,.un,.un] ⟨ps1,_,_,_,_,_,rfl,by simp;lia⟩ (by
  rintro pre c post _ e ⟨ps,u6,u7,u8,u9,u10,rfl,a2⟩
  have hp:pre.length < 9:=by
   have:=OG List.length e
   rw [Ov,Ow] at this
   lia
  obtain ⟨mx,hmx⟩:∃ mx,c * 48271 % 2147483647 / 37 = mx:=⟨_,rfl⟩
  obtain ⟨u,hu,hu1,hu2⟩:∃ u:Nat,1 + mx / 49 % 2 = (u:Int) /\ 1 <= u /\ u <= 2:=⟨(1 + mx / 49 % 2).toNat,by lia,by lia,by lia⟩
  have hr2:=JP u (by lia)
  obtain ⟨ρ3,k3,ps3,t6,rfl,a3⟩:=bI (g:=ag 6) (m:=l4) (fun i:Nat=>D.int (i:Int)) (fun pre ρ=>∃ (qs:R) (t6:Sl),ρ = [.sh (.scr (ns.map D.int)),.sh (.int f),owl (qs.map prD),.sh (.int (w:Int)),.sh (.int (h:Int)),.sh (.int (f % 3)),t6,u7,u8,.sh (.int c),.sh (.int mx)] /\ qs.length <= ps.length + pre.length) (List.range' 0 u) [.sh (.scr (ns.map D.int)),.sh (.int f),owl (ps.map prD),.sh (.int (w:Int)),.sh (.int (h:Int)),.sh (.int (f % 3)),u6,u7,u8,.sh (.int c),.sh (.int mx)] ⟨ps,u6,rfl,by simp⟩ (by
   rintro pre i post _ e ⟨qs,t6,rfl,a1⟩
   have hq:pre.length < u:=by
    have:=OG List.length e
    rw [Ro,Ov,Ow] at this
    lia
   have hlim:qs.length < LIM:=fY (by lia)
   refine ⟨_,[.sh (.scr (ns.map D.int)),.sh (.int f),owl ((qs ++ [(mx % 7 + (i:Int),mx / 7 % 7)]).map prD),.sh (.int (w:Int)),.sh (.int (h:Int)),.sh (.int (f % 3)),.sh (.int (i:Int)),u7,u8,.sh (.int c),.sh (.int mx)],rfl,.inl ?_,_,_,rfl,by rw [Ov,Ov,Pv,Pv];lia⟩
   simp [l4,h2,hlim])
  rw [Ro] at a3
  refine ⟨_,_,rfl,.inl ?_,ps3,t6,u7,u8,.sh (.int c),.sh (.int mx),rfl,by rw [Ov,Pv];lia⟩
  unfold l5
  rw [aI (ρ':=[.sh (.scr (ns.map D.int)),.sh (.int f),owl (ps.map prD),.sh (.int (w:Int)),.sh (.int (h:Int)),.sh (.int (f % 3)),u6,u7,u8,.sh (.int c),.sh (.int mx)]) (by simp [hmx])]
  rw [ii (l:=(List.range' 0 u).map fun i:Nat=>D.int (i:Int)) (by rw [<- hr2];simp [hu])]
  exact k3)
 refine ⟨ps2,?_,by lia⟩
 have hx:kb [.sh (.scr (ns.map D.int)),.un,.un,.un,.un,.un,.un,.un,.un,.un,.un] = some (.ro (.lst ((ps2.map prD).map O.sh))):=by
  unfold kb
  rw [aI (ρ':=[.sh (.scr (ns.map D.int)),.sh (.int f),.un,.un,.un,.un,.un,.un,.un,.un,.un]) (by simp [hf])]
  rw [aI (ρ':=[.sh (.scr (ns.map D.int)),.sh (.int f),owl [],.un,.un,.un,.un,.un,.un,.un,.un]) (by simp)]
  rw [aI (ρ':=[.sh (.scr (ns.map D.int)),.sh (.int f),owl [],.sh (.int (w:Int)),.un,.un,.un,.un,.un,.un,.un]) (by simp [hw])]
  rw [aI (ρ':=[.sh (.scr (ns.map D.int)),.sh (.int f),owl [],.sh (.int (w:Int)),.sh (.int (h:Int)),.un,.un,.un,.un,.un,.un]) (by simp [hh])]
  rw [aI (ρ':=[.sh (.scr (ns.map D.int)),.sh (.int f),owl [],.sh (.int (w:Int)),.sh (.int (h:Int)),.sh (.int (f % 3)),.un,.un,.un,.un,.un]) (by simp)]
  rw [aI hfor1,aI (by rw [ii (hsl _ rfl)];exact k2)]
  rfl
 have:=Ih (n:=11) (ds:=[.scr (ns.map D.int)]) hx
 show (fnO 11 kb [.scr (ns.map D.int)]).map O.d = _
 rw [this]
 generalize ps2.map prD = l
 simp
theorem FL (s0 s1 s2:Sl) (r:R) (z:Int) (hl:r.length <= 100):cK [s0,s1,s2,.ow (.lst (r.map (O.sh ∘ prD))),.sh (.int z)] = some (.nx [s0,s1,s2,.ow (.lst ((match r.getLast? with | some q=>if q.2 + 1 = z then r.dropLast ++ [(q.1,z)] else r ++ [(z,z)] | none=>[(z,z)]).map (O.sh ∘ prD))),.sh (.int z)]):=by
 rcases Qi r with rfl | ⟨r0,q,rfl⟩
 ·have l0:0 < LIM:=fY (by lia)
  simp [cK]
 ·rw [Qj] at *
  have hp:(0:Int) < r0.length + 1:=by lia
  have hlim:r0.length + 1 < LIM:=fY (by simp at hl;lia)
  by_cases c:q.2 + 1 = z
  ·simp [cK,hp,hlim,c]
   refine ⟨r0.length,?_,?_⟩
   ·unfold ixN
    rw [Oi (by lia),Oj (by lia)]
    congr 1
    lia
   ·rw [List.set_append_right _ _ (by simp)]
    simp
  ·simp [cK,hp,hlim,c]
structure RowIs (r:R) (zs:List Int):Prop where
 can:eh r
 mem:∀ u,Mem r u ↔ u ∈ zs
 top:∀ q,r.getLast? = some q -> zs.getLast? = some q.2
 nil:r = [] ↔ zs = []
 len:r.length <= zs.length
theorem FK (s0 s1 s2:Sl) (zs:List Int) (hp:zs.Pairwise (· < ·)) (hl:zs.length <= 50) (v9:Sl):∃ r w9,RowIs r zs /\ dt (ag 4) cK (zs.map D.int) [s0,s1,s2,.ow (.lst []),v9] = some (.nx [s0,s1,s2,.ow (.lst (r.map (O.sh ∘ prD))),w9]):=by
 obtain ⟨ρ',k1,r,w9,hr,rfl⟩:=bI (g:=ag 4) (m:=cK) D.int (fun pre ρ=>∃ r w9,RowIs r pre /\ ρ = [s0,s1,s2,.ow (.lst (r.map (O.sh ∘ prD))),w9]) zs [s0,s1,s2,.ow (.lst []),v9] ⟨[],v9,⟨kZ,fun u=>⟨fun h=>(cW _ h).elim,fun h=>(by cases h)⟩,fun q h=>(by cases h),⟨fun _=>rfl,fun _=>rfl⟩,Op _⟩,rfl⟩ (by
  rintro pre z post _ e ⟨r,w9,o,rfl⟩
  have hlen:=OG List.length e
  rw [Ov,Ow] at hlen
  have hgt:∀ u ∈ pre,u < z:=fun u hu=>by
   rw [e] at hp
   exact (OX.mp hp).2.2 u hu z (by simp)
  refine ⟨_,_,rfl,.inl (FL s0 s1 s2 r z (by have:=o.len;lia)),_,_,?_,rfl⟩
  rcases Qi r with rfl | ⟨r0,q,rfl⟩
  ·have hpre:=o.nil.mp rfl
   subst hpre
   refine ⟨canon_cons.mpr ⟨by simp,fun _ h=>(by cases h),kZ⟩,fun u=>?_,fun q h=>(by cases h;rfl),by simp,by simp⟩
   show Mem [(z,z)] u ↔ u ∈ [z]
   rw [mem_cons,Ot]
   exact ⟨fun h=>h.elim (fun h=>by dsimp only at h;lia) fun h=>(cW _ h).elim,fun h=>.inl (by dsimp only;lia)⟩
  ·rw [Qj] at *
   have ht:=o.top q (by simp)
   have hq:q.2 < z:=hgt _ (List.mem_of_getLast? ht)
   have hc:=o.can
   have hql:q.1 <= q.2:=hc.1 q (by simp)
   rw [List.getLast?_append]
   simp only [List.getLast?_singleton,Option.some_or]
   by_cases c:q.2 + 1 = z
   ·rw [Oj c,List.dropLast_concat]
    refine ⟨⟨fun t ht'=>?_,?_⟩,fun u=>?_,fun t h=>?_,by simp,?_⟩
    ·rcases OC.mp ht' with h | h
     ·exact hc.1 t (OH _ h)
     ·rw [Ot] at h
      subst h
      dsimp only
      lia
    ·have hpw:=OX.mp hc.2
     refine OX.mpr ⟨hpw.1,QD _ _,fun a ha b hb=>?_⟩
     rw [Ot] at hb
     subst hb
     exact hpw.2.2 a ha q (by simp)
    ·have hm:=o.mem u
     rw [OC,Ot,<- hm]
     unfold Mem
     constructor
     ·rintro ⟨t,ht',hu⟩
      rcases OC.mp ht' with h | h
      ·exact .inl ⟨t,OH _ h,hu⟩
      ·rw [Ot] at h
       subst h
       dsimp only at hu
       by_cases hz:u = z
       ·exact .inr hz
       ·exact .inl ⟨q,by simp,by lia,by lia⟩
     ·rintro (⟨t,ht',hu⟩ | rfl)
      ·rcases OC.mp ht' with h | h
       ·exact ⟨t,OH _ h,hu⟩
       ·rw [Ot] at h
        subst h
        exact ⟨(t.1,z),by simp,by dsimp only;lia,by dsimp only;lia⟩
      ·exact ⟨(q.1,u),by simp,by dsimp only;lia,by dsimp only;lia⟩
    ·simp at h
     subst h
     simp
    ·have:=o.len
     simp at this ⊢
     lia
   ·rw [Oi c]
    refine ⟨⟨fun t ht'=>?_,?_⟩,fun u=>?_,fun t h=>?_,by simp,?_⟩
    ·rcases OC.mp ht' with h | h
     ·exact hc.1 t h
     ·rw [Ot] at h
      subst h
      exact O1 _
    ·refine OX.mpr ⟨hc.2,QD _ _,fun a ha b hb=>?_⟩
     rw [Ot] at hb
     subst hb
     have:a.2 <= q.2:=by
      rcases OC.mp ha with h | h
      ·have h1:=(OX.mp hc.2).2.2 a h q (by simp)
       lia
      ·rw [Ot] at h
       subst h
       exact O1 _
     dsimp only
     lia
    ·have hm:=o.mem u
     rw [OC,Ot,<- hm]
     unfold Mem
     constructor
     ·rintro ⟨t,ht',hu⟩
      rcases OC.mp ht' with h | h
      ·exact .inl ⟨t,h,hu⟩
      ·rw [Ot] at h
       subst h
       exact .inr (by dsimp only at hu;lia)
     ·rintro (⟨t,ht',hu⟩ | rfl)
      ·exact ⟨t,OH _ ht',hu⟩
      ·exact ⟨(u,u),by simp,O1 _,O1 _⟩
    ·simp at h
     subst h
     simp
    ·have:=o.len
     simp at this ⊢
     lia)
 exact ⟨r,w9,hr,k1⟩
theorem DM {ns:List Int} (h:ns.Nodup):(dw ns).Pairwise (· < ·):=by
 have h1:=zA ns
 have h2:(dw ns).Nodup:=(eZ ns).nodup_iff.mpr h
 exact (h1.and h2).imp fun {a b} z=>by
  have:=z.1
  have:=z.2
  lia
theorem GY (ns:List Int):(eD ns).Nodup /\ ∀ u,u ∈ eD ns ↔ u ∈ ns:=by
 have:∀ (l acc:List Int),acc.Nodup -> (l.foldl gU acc).Nodup /\ ∀ u,u ∈ l.foldl gU acc ↔ u ∈ acc \/ u ∈ l:=by
  intro l
  induction l with
  | nil=>intro acc h;exact ⟨h,fun u=>by simp⟩
  | cons a l ih=>
   intro acc h
   rw [OP]
   have hs:(gU acc a).Nodup /\ ∀ u,u ∈ gU acc a ↔ u ∈ acc \/ u = a:=by
    unfold gU
    by_cases hm:a ∈ acc
    ·simp [hm,h]
    ·simp [hm]
     rw [Pr]
     exact ⟨h,by simp,fun x hx y hy=>by simp at hy;subst hy;intro e;subst e;exact hm hx⟩
   obtain ⟨h1,h2⟩:=ih _ hs.1
   exact ⟨h1,fun u=>by rw [h2,hs.2,Oy,or_assoc]⟩
 have:=this ns [] .nil
 exact ⟨this.1,fun u=>by rw [show eD ns = ns.foldl gU [] from rfl,this.2];simp⟩
theorem F6 (ns:List Int):(dw (eD ns)).Pairwise (· < ·) /\ (∀ u,u ∈ dw (eD ns) ↔ u ∈ ns) /\ (dw (eD ns)).length <= ns.length:=by
 have h:=GY ns
 refine ⟨DM h.1,fun u=>by rw [(eZ _).mem_iff,h.2],?_⟩
 rw [(eZ _).length_eq]
 have:∀ (l acc:List Int),(l.foldl gU acc).length <= acc.length + l.length:=by
  intro l
  induction l with
  | nil=>intro acc;simp
  | cons a l ih=>
   intro acc
   rw [OP]
   have:=ih (gU acc a)
   have h2:(gU acc a).length <= acc.length + 1:=by unfold gU;split <;> simp
   rw [Ow]
   lia
 have:=this ns []
 simpa [eD] using this
theorem Az (ns:List Int):aK (ns.map D.int) = some ns:=by
 induction ns with
 | nil=>rfl
 | cons a l ih=>simp [aK,ih]
theorem IG {a:XE} {ρ:M.Env} {ns:List Int} (h:a ρ = some (.lst (ns.map D.int))) (hl:ns.length <= 300):xIt (xL (gP a)) ρ = some ((dw (eD ns)).map D.int):=by
 have h1:gP a ρ = some ((dw (eD ns)).map D.int):=by
  unfold gP
  rw [h]
  simp only [PK,Az]
  rw [Oj hl]
 unfold xIt xL
 rw [h1]
 rfl
theorem Fl (cs:R) (hc:cs.length <= 45) (acc:Pic) (ha:acc.length <= 100) (at':Int) (v3 v4:Sl):∃ r w3 w4,RowIs r (dw (eD ((cs.filter fun c=>c.2 == at').map (·.1)))) /\ fV [.sh (.lst (cs.map prD)),.ow (.lst (acc.map (O.sh ∘ pyD))),.sh (.int at'),v3,v4] = some (.nx [.sh (.lst (cs.map prD)),.ow (.lst ((acc ++ [(at',r)]).map (O.sh ∘ pyD))),.sh (.int at'),w3,w4]):=by
 have hfl:=Q8 (fun c:Int × Int=>c.2 == at') cs
 have hc2:bR (ag 0) (xB (xOp (dEq false) (xOp dIx (ah 0) (xC (.int 1))) (ah 1))) (xOp dIx (ah 0) (xC (.int 0))) [.un,.sh (.int at')] (cs.map prD) = some (((cs.filter fun c=>c.2 == at').map (·.1)).map D.int):=by
  have:((cs.filter fun c=>c.2 == at').map (·.1)).map D.int = cs.filterMap fun c=>if c.2 = at' then some (D.int c.1) else none:=by
   generalize cs = l
   induction l with
   | nil=>rfl
   | cons c l ih=>
    rw [OW,Pz,<- ih]
    by_cases h:c.2 = at' <;> simp [h]
  rw [this]
  refine dE prD _ cs fun c _=>?_
  by_cases h:c.2 = at' <;> simp [fO,h]
 have hln:((cs.filter fun c=>c.2 == at').map (·.1)).length <= 45:=by rw [Os];lia
 generalize (cs.filter fun c=>c.2 == at').map (·.1) = xs at hc2 hln ⊢
 obtain ⟨o1,o2,o3⟩:=F6 xs
 have lc:cs.length <= LIM:=aO (by lia)
 have lx:xs.length <= LIM:=aO (by lia)
 have la:acc.length < LIM:=fY (by lia)
 have l2:2 <= LIM:=aO (by lia)
 obtain ⟨r,w4,hr,hk⟩:=FK (.sh (.lst (cs.map prD))) (.ow (.lst (acc.map (O.sh ∘ pyD)))) (.sh (.int at')) (dw (eD xs)) o1 (by lia) v4
 have lr:r.length <= LIM:=aO (by have:=hr.len;lia)
 refine ⟨r,.ow (.lst (r.map (O.sh ∘ prD))),w4,hr,?_⟩
 unfold fV
 rw [aI (ρ':=[.sh (.lst (cs.map prD)),.ow (.lst (acc.map (O.sh ∘ pyD))),.sh (.int at'),.ow (.lst []),v4]) (by simp)]
 rw [aI (by rw [ii (IG (ns:=xs) (by simp [lc,hc2]) (by lia))];exact hk)]
 simp [la,lr,l2]
theorem iH (cs:R) (hc:cs.length <= 45):c8 [.lst (cs.map prD)] = some (fJ (cP (cs.map cT))):=by
 have lc:cs.length <= LIM:=aO (by lia)
 have hc1:bR (ag 0) eE (xOp dIx (ah 0) (xC (.int 1))) [.un] (cs.map prD) = some ((cs.map (·.2)).map D.int):=by
  rw [OM]
  exact cR prD _ cs fun c _=>by simp [fO]
 obtain ⟨o1,o2,o3⟩:=F6 (cs.map (·.2))
 rw [Os] at o3
 have hrow:∀ (y:Int) (r:R),RowIs r (dw (eD ((cs.filter fun c=>c.2 == y).map (·.1)))) -> ∀ u,Mem r u ↔ (u,y) ∈ cs:=fun y r o u=>by
  rw [o.mem,(F6 _).2.1,OI]
  constructor
  ·rintro ⟨c,hc,e⟩
   obtain ⟨h1,h2⟩:=O3.mp hc
   have h3:c.2 = y:=by simpa using h2
   obtain ⟨c1,c2⟩:=c
   simp only at e h3
   rw [<- e,<- h3]
   exact h1
  ·intro hc
   exact ⟨(u,y),O3.mpr ⟨hc,by simp⟩,rfl⟩
 obtain ⟨ρ',k1,p,v2,v3,v4,rfl,p1,p2,p3⟩:=bI (g:=ag 2) (m:=fV) D.int (fun pre ρ=>∃ (p:Pic) (v2 v3 v4:Sl),ρ = [.sh (.lst (cs.map prD)),.ow (.lst (p.map (O.sh ∘ pyD))),v2,v3,v4] /\ p.map (·.1) = pre /\ (∀ q ∈ p,eh q.2 /\ ∀ u,Mem q.2 u ↔ (u,q.1) ∈ cs) /\ p.length = pre.length) (dw (eD (cs.map (·.2)))) [.sh (.lst (cs.map prD)),.ow (.lst []),.un,.un,.un] ⟨[],.un,.un,.un,rfl,rfl,fun _ h=>(by cases h),rfl⟩ (by
  rintro pre y post _ e ⟨p,v2,v3,v4,rfl,p1,p2,p3⟩
  have hp:pre.length < 45:=by
   have:=OG List.length e
   rw [Ov,Ow] at this
   lia
  obtain ⟨r,w3,w4,hr,hb⟩:=Fl cs hc p (by lia) y v3 v4
  refine ⟨_,_,rfl,.inl hb,p ++ [(y,r)],_,_,_,rfl,by rw [QO,p1];rfl,fun q hq=>?_,by rw [Ov,Ov,p3];rfl⟩
  rcases OC.mp hq with h | h
  ·exact p2 q h
  ·rw [Ot] at h
   subst h
   exact ⟨hr.can,hrow y r hr⟩)
 have hpl:p.length <= LIM:=aO (by rw [p3];lia)
 have hcan:dN p:=by
  refine ⟨fun q hq=>⟨(p2 q hq).1,fun z=>?_⟩,?_⟩
  ·have hy:q.1 ∈ dw (eD (cs.map (·.2))):=by rw [<- p1];exact RM hq
   rw [o2,OI] at hy
   obtain ⟨c,hc,e⟩:=hy
   have:=((p2 q hq).2 c.1).mpr (by rw [<- e];exact hc)
   rw [z] at this
   exact cW _ this
  ·rw [<- p1,Pw] at o1
   exact o1
 have hmem:∀ x y,jZ (cs.map cT) x y ↔ l8 p x y:=fun x y=>by
  constructor
  ·rintro ⟨t,ht,e1,e2,e3⟩
   obtain ⟨c,hc,rfl⟩:=OI.mp ht
   have ex:c.1 = x:=by dsimp only at e2 e3;lia
   have ey:c.2 = y:=e1
   have hc':(x,y) ∈ cs:=by rw [<- ex,<- ey];exact hc
   have hy:y ∈ p.map (·.1):=by rw [p1,o2,OI];exact ⟨_,hc',rfl⟩
   obtain ⟨q,hq,rfl⟩:=OI.mp hy
   exact ⟨q,hq,rfl,((p2 q hq).2 x).mpr hc'⟩
  ·rintro ⟨q,hq,rfl,hx⟩
   exact ⟨cT (x,q.1),RM (((p2 q hq).2 x).mp hx),rfl,O1 _,O1 _⟩
 rw [sY hcan hmem]
 have hx:i4 [.sh (.lst (cs.map prD)),.un,.un,.un,.un] = some (.rt (fJ p)):=by
  unfold i4
  rw [aI (ρ':=[.sh (.lst (cs.map prD)),.ow (.lst []),.un,.un,.un]) (by simp)]
  rw [aI (by rw [ii (IG (ns:=cs.map (·.2)) (by simp [lc,hc1]) (by rw [Os];lia))];exact k1)]
  simp [hpl,fJ]
 exact Ii hx
theorem oV {α:Type} [DecidableEq α]:∀ {l m:List α},l.Nodup -> (∀ a ∈ l,a ∈ m) -> l.length <= m.length
 | [],m,_,_=>O9 _
 | a :: l,m,h,k=>by
  obtain ⟨h1,h2⟩:=OL.mp h
  have ha:=k a Oq
  have ih:=oV (m:=m.erase a) h2 fun b hb=>(R7 (fun e=>h1 (by rw [<- e];exact hb))).mpr (k b (Ou _ hb))
  rw [R8 ha] at ih
  have:=List.length_pos_of_mem ha
  rw [Ow]
  lia
theorem nO:∀ ts:List Tri,(∀ t ∈ ts,t.2.1 <= t.2.2) -> ts.length <= (aS ts).length
 | [],_=>Op _
 | t :: ts,h=>by
  have h1:=nO ts fun s hs=>h s (Ou _ hs)
  have h2:=h t Oq
  rw [dX,Ov,ml,Ow]
  lia
theorem pK:∀ {p:Pic},dN p -> p.length <= (aY p).length
 | [],_=>Op _
 | q :: p,c=>by
  obtain ⟨⟨h1,h2⟩,_,h3⟩:=pcanon_cons.mp c
  have ih:=pK h3
  have:q.2.length ≠ 0:=fun z=>h2 (Rj z)
  rw [fb,Ov,Os,Ow]
  lia
theorem Hw {a b:R} (h:∀ c,c ∈ a ↔ c ∈ b):cP (a.map cT) = cP (b.map cT):=by
 refine sY (kG _).1 fun x y=>?_
 rw [(kG _).2]
 have:∀ l:R,jZ (l.map cT) x y ↔ (x,y) ∈ l:=fun l=>by
  constructor
  ·rintro ⟨t,ht,e1,e2,e3⟩
   obtain ⟨c,hc,rfl⟩:=OI.mp ht
   have ex:c.1 = x:=by dsimp only at e2 e3;lia
   have ey:c.2 = y:=e1
   rw [<- ex,<- ey]
   exact hc
  ·intro hc
   exact ⟨cT (x,y),RM hc,rfl,O1 _,O1 _⟩
 rw [this,this,h]
structure Small (p:Pic) (cs:R):Prop where
 can:dN p
 cn:cnt p <= 1000
 st:(aY p).length <= 30000
 ln:p.length <= 30000
 rw':∀ q ∈ p,q.2.length <= 30000
 cl:(aS (aY p)).length <= 45
 mem:∀ c,c ∈ aS (aY p) ↔ c ∈ cs
theorem Dt (cs:R) (hc:cs.length <= 45):Small (cP (cs.map cT)) cs:=by
 obtain ⟨c,hm⟩:=kG (cs.map cT)
 generalize cP (cs.map cT) = p at c hm
 have mem:∀ c,c ∈ aS (aY p) ↔ c ∈ cs:=fun c=>by
  obtain ⟨x,y⟩:=c
  rw [AK,Gg,hm]
  constructor
  ·rintro ⟨t,ht,e1,e2,e3⟩
   obtain ⟨c,hc,rfl⟩:=OI.mp ht
   have ex:c.1 = x:=by dsimp only at e2 e3;lia
   have ey:c.2 = y:=e1
   rw [<- ex,<- ey]
   exact hc
  ·intro hc
   exact ⟨cT (x,y),RM hc,rfl,O1 _,O1 _⟩
 have hl:(aS (aY p)).length <= 45:=OD (oV (jA c) fun a ha=>(mem a).mp ha) hc
 have hs:=nO (aY p) (tO c)
 have hr:=pK c
 have hn:cnt p = ((aS (aY p)).length:Int):=by rw [wA,mj _ (tO c)]
 exact ⟨c,by lia,by lia,by lia,fun q hq=>by have:=uK hq;lia,hl,mem⟩
theorem DK (ps:R):(kM ps).Pairwise fun p q=>p.1 < q.1 \/ (p.1 = q.1 /\ p.2 <= q.2):=by
 have h:=nJ (ps.map su)
 rw [<- mP,Pw] at h
 refine h.imp fun {p q} e=>?_
 have e':(if q.1 = p.1 then (if q.2 = p.2 then false else decide (q.2 < p.2)) else decide (q.1 < p.1)) = false:=e
 by_cases hq:q.1 = p.1
 ·rw [Oj hq] at e'
  by_cases hr:q.2 = p.2
  ·exact .inr ⟨hq.symm,by lia⟩
  ·rw [Oi hr] at e'
   have:=Pq e'
   exact .inr ⟨hq.symm,by lia⟩
 ·rw [Oi hq] at e'
  have:=Pq e'
  exact .inl (by lia)
noncomputable abbrev swp (c:Int × Int):Int × Int:=(c.2,c.1)
noncomputable def srt (l:R):R:=(kM (l.map swp)).map swp
def RO (a b:Int × Int):Prop:=a.2 < b.2 \/ (a.2 = b.2 /\ a.1 < b.1)
theorem Ln (l:R):(l.map swp).map swp = l:=by
 rw [OM]
 exact (RE fun c _=>rfl).trans (List.map_id l)
theorem nM (l:R):(srt l).Perm l:=by
 have:=(gM (l.map swp)).map swp
 rwa [Ln] at this
theorem tD {l:R} (h:l.Pairwise RO):l.Nodup:=h.imp fun {a b} r e=>by
 subst e
 rcases r with r | r <;> lia
theorem J9 {l l':R} (h:l.Pairwise RO) (n:l'.Nodup) (hm:∀ c,c ∈ l ↔ c ∈ l'):srt l' = l:=by
 have hp:(srt l').Perm l:=(nM l').trans ((List.perm_ext_iff_of_nodup n (tD h)).mpr fun c=>(hm c).symm)
 have hw:(srt l').Pairwise fun a b=>a.2 < b.2 \/ (a.2 = b.2 /\ a.1 <= b.1):=by
  unfold srt
  rw [Pw]
  exact DK _
 refine R0 (le:=fun a b=>a.2 < b.2 \/ (a.2 = b.2 /\ a.1 <= b.1)) (fun a b _ _ h k=>?_) hw (h.imp fun {a b} r=>?_) hp
 ·obtain ⟨a1,a2⟩:=a
  obtain ⟨b1,b2⟩:=b
  dsimp only at h k
  rw [Prod.mk.injEq]
  lia
 ·unfold RO at r
  lia
theorem IP:∀ (n:Nat) (lo:Int),(zs lo n).Pairwise (· < ·)
 | 0,_=>.nil
 | n + 1,lo=>by
  rw [zs]
  refine PH.mpr ⟨fun a ha=>?_,IP n _⟩
  have:=(mJ n (lo + 1) a).mp ha
  lia
theorem xS:∀ ts:List Tri,ts.Pairwise Sep -> (aS ts).Pairwise RO
 | [],_=>.nil
 | t :: ts,h=>by
  obtain ⟨h1,h2⟩:=PH.mp h
  rw [dX]
  refine OX.mpr ⟨?_,xS ts h2,fun a ha b hb=>?_⟩
  ·unfold dP
   rw [Pw]
   exact (IP _ _).imp fun h=>.inr ⟨rfl,h⟩
  ·have a1:=(jy t a).mp ha
   obtain ⟨s,hs,hb⟩:=Qu.mp hb
   have a2:=(jy s b).mp hb
   unfold RO
   rcases h1 s hs with z | z <;> lia
def Sim (s s':R × R):Prop:=s.1 = s'.1 /\ ∀ c,c ∈ s.2 ↔ c ∈ s'.2
theorem Dr (e:Bool) {s s':R × R} (h:Sim s s') (c:Int × Int):Sim (aW e s c) (aW e s' c):=by
 unfold aW
 rw [Jn h.2]
 cases goF s'.2 e c with
 | false=>exact h
 | true=>exact ⟨by show s.1 ++ [c] = s'.1 ++ [c];rw [h.1],fun d=>by show d ∈ s.2.filter _ ↔ d ∈ s'.2.filter _;rw [O3,O3,h.2]⟩
theorem y0 (e:Bool):∀ (l:R) {s s':R × R},Sim s s' -> Sim (l.foldl (aW e) s) (l.foldl (aW e) s')
 | [],_,_,h=>h
 | c :: l,_,_,h=>by
  rw [OP,OP]
  exact y0 e l (Dr e h c)
noncomputable def fT (e:Bool) (ks:R) (d:Int × Int):R × R:=dG e (srt (bh ks d.1 d.2)) ks
noncomputable def hG (e:Bool) (s:R × R) (d:Int × Int):R × R:=(s.1 ++ (fT e s.2 d).1,(fT e s.2 d).2)
theorem kw {ks:R} (n:ks.Nodup) (d:Int × Int):(srt (bh ks d.1 d.2)).Nodup /\ ∀ c ∈ srt (bh ks d.1 d.2),c ∈ ks:=
 ⟨(nM _).nodup_iff.mpr (qP n _ _),fun c hc=>nj ((nM _).mem_iff.mp hc)⟩
theorem yZ (e:Bool) {ks:R} (n:ks.Nodup) (d:Int × Int):(fT e ks d).2.Nodup /\ (fT e ks d).1.length + (fT e ks d).2.length = ks.length:=
 sW e (kw n d).1 n (kw n d).2
theorem Cf (e:Bool) {s:R × R} (n:s.2.Nodup) (d:Int × Int):(hG e s d).2.Nodup /\ (hG e s d).1.length + (hG e s d).2.length = s.1.length + s.2.length:=by
 have h:=yZ e n d
 refine ⟨h.1,?_⟩
 show (s.1 ++ (fT e s.2 d).1).length + (fT e s.2 d).2.length = _
 rw [Ov]
 lia
theorem FH (e:Bool) {s s':R × R} (o:s.2.Pairwise RO) (n:s'.2.Nodup) (h:Sim s s') (d:Int × Int):Sim (cY e s d) (hG e s' d):=by
 have ef:srt (bh s'.2 d.1 d.2) = bh s.2 d.1 d.2:=J9 (o.sublist RH) (qP n _ _) fun c=>by
  unfold bh
  rw [O3,O3,h.2]
  simp only [h.2]
 have hs:Sim (dG e (bh s.2 d.1 d.2) s.2) (fT e s'.2 d):=by
  unfold fT
  rw [ef]
  exact y0 e _ ⟨rfl,h.2⟩
 exact ⟨by show s.1 ++ _ = s'.1 ++ _;rw [h.1,hs.1],hs.2⟩
theorem HC (e:Bool) {s:R × R} (o:s.2.Pairwise RO) (d:Int × Int):(cY e s d).2.Pairwise RO:=o.sublist (sf e _ ([],s.2))
theorem zm (e:Bool):∀ (l:R) {s s':R × R},s.2.Pairwise RO -> s'.2.Nodup -> Sim s s' -> Sim (l.foldl (cY e) s) (l.foldl (hG e) s') /\ (l.foldl (cY e) s).2.Pairwise RO /\ (l.foldl (hG e) s').2.Nodup /\ (l.foldl (hG e) s').1.length + (l.foldl (hG e) s').2.length = s'.1.length + s'.2.length
 | [],_,_,o,n,h=>⟨h,o,n,rfl⟩
 | d :: l,s,s',o,n,h=>by
  rw [OP,OP]
  have ok:=Cf e n d
  obtain ⟨a,b,c,z⟩:=zm e l (HC e o d) ok.1 (FH e o n h d)
  exact ⟨a,b,c,z.trans ok.2⟩
theorem zk (e:Bool):∀ (l:R) (t:R) (s:R × R),l.foldl (cY e) (t ++ s.1,s.2) = (t ++ (l.foldl (cY e) s).1,(l.foldl (cY e) s).2)
 | [],_,_=>rfl
 | d :: l,t,s=>by
  rw [OP,OP,<- zk e l t]
  have:cY e (t ++ s.1,s.2) d = (t ++ (cY e s d).1,(cY e s d).2):=by
   show ((t ++ s.1) ++ _,_) = (t ++ (s.1 ++ _),_)
   rw [OV]
   rfl
  rw [this]
theorem FI (e:Bool) (t ks:R):sideL.foldl (cY e) (t,ks) = (t ++ (dc e ks).1,(dc e ks).2):=by
 have:=zk e sideL t ([],ks)
 rw [OZ] at this
 exact this
theorem vX (e:Bool):∀ (n m:Nat) (t ks:R),ks.Nodup -> ks.length < n -> ks.length < m -> cf e n t ks = cf e m t ks
 | 0,_,_,_,_,h,_=>by lia
 | _ + 1,0,_,_,_,_,h=>by lia
 | n + 1,m + 1,t,ks,nk,h1,h2=>by
  rw [cf,cf]
  split
  ·rfl
  ·rename_i hne
   have ok:=qV e nk
   have:(dc e ks).1.length ≠ 0:=fun z=>hne (Rj z)
   exact vX e n m _ _ ok.1 (by lia) (by lia)
theorem sM (p:Addr) (ks:R) (d:Int × Int) (e:Bool) (nk:ks.Nodup) (hl:ks.length <= 1000):kE p (ks.map kyC) [.int d.1,.int d.2,.bl e] = some (.lst ((fT e ks d).1.map (O.sh ∘ prD)),(fT e ks d).2.map kyC):=by
 have h2:2 <= LIM:=aO (by lia)
 obtain ⟨nf,hs⟩:=kw nk d
 have hcm:bR (aU (ao (ag 0) (ao (ag 1) aX))) (xB (lB true (a7 (ad (xOp bQ (ah 0) (ah 3)) (ad (xOp bQ (ah 1) (ah 4)) aq))) 2)) (a7 (ad (aw 1) (ad (aw 0) aq))) [.un,.un,.sh (.dif (ks.map kyC)),.sh (.int d.1),.sh (.int d.2)] (ks.map prD) = some (((bh ks d.1 d.2).map swp).map prD):=by
  have e0:((bh ks d.1 d.2).map swp).map prD = ks.filterMap fun c=>if (!decide ((c.1 + d.1,c.2 + d.2) ∈ ks)) = true then some (prD (swp c)) else none:=by
   unfold bh
   rw [OM]
   have:∀ (b:Int × Int -> Bool) (l:R),(l.filter b).map (prD ∘ swp) = l.filterMap fun c=>if b c = true then some (prD (swp c)) else none:=by
    intro b l
    induction l with
    | nil=>rfl
    | cons c l ih=>
     rw [OW,Pz,<- ih]
     cases b c <;> rfl
   exact this _ ks
  rw [e0]
  refine dE prD _ ks fun c _=>?_
  have a:=nu ks (c.1 + d.1) (c.2 + d.2)
  by_cases hb:(c.1 + d.1,c.2 + d.2) ∈ ks
  ·rw [Pb hb] at a
   generalize ks.map kyC = kk at a ⊢
   simp at a
   simp [fO,h2,fv,kyD,aK,a,hb]
  ·rw [OY hb] at a
   generalize ks.map kyC = kk at a ⊢
   simp at a
   simp [fO,h2,fv,kyD,aK,a,hb]
 have fl:=yl ks d.1 d.2
 have hso:fW [.lst (((bh ks d.1 d.2).map swp).map prD)] = some (((srt (bh ks d.1 d.2)).map swp).map prD):=by
  have hb:=ph ((bh ks d.1 d.2).map swp) (by rw [Os];lia)
  unfold srt
  rw [Ln]
  exact hb
 have sl:(srt (bh ks d.1 d.2)).length <= 1000:=by rw [(nM _).length_eq];lia
 have lk:ks.length <= LIM:=aO (by lia)
 have ek:(ks.map kyC).map (fun k=>D.tup (k.map D.int)) = ks.map prD:=by rw [OM];rfl
 have hnd:=oU ((bh ks d.1 d.2).map swp)
 have hm:ir 0 (bF [none,none,some 0,some 1,some 2] (mR 0) (aU (ao (ag 0) (ao (ag 1) aX))) (xB (lB true (a7 (ad (xOp bQ (ah 0) (ah 3)) (ad (xOp bQ (ah 1) (ah 4)) aq))) 2)) (a7 (ad (aw 1) (ad (aw 0) aq)))) [.ow (.hd p (ks.map kyC) []),.sh (.int d.1),.sh (.int d.2),.sh (.bl e),.un,.un,.un,.un] = some (((bh ks d.1 d.2).map swp).map prD):=by
  unfold ir
  simp only [PY,PK,AE,List.set_cons_zero]
  have hx:bF [none,none,some 0,some 1,some 2] (mR 0) (aU (ao (ag 0) (ao (ag 1) aX))) (xB (lB true (a7 (ad (xOp bQ (ah 0) (ah 3)) (ad (xOp bQ (ah 1) (ah 4)) aq))) 2)) (a7 (ad (aw 1) (ad (aw 0) aq))) [.sh (.dif (ks.map kyC)),.sh (.int d.1),.sh (.int d.2),.sh (.bl e),.un,.un,.un,.un] = some (((bh ks d.1 d.2).map swp).map prD):=by
   unfold bF mR
   simp only [PY,ek,PK,Os]
   rw [Oj lk]
   exact hcm
  rw [hx]
  simp only [PK]
  rw [Oj hnd]
 clear hcm hnd
 unfold fT
 generalize srt (bh ks d.1 d.2) = free at *
 obtain ⟨ρ',k1,v6,v7,rfl⟩:=bI (g:=aU (ao (ag 6) (ao (ag 7) aX))) (m:=kT) (fun c=>prD (swp c)) (fun pre ρ=>∃ v6 v7:Sl,ρ = [.ow (.hd p ((pre.foldl (aW e) ([],ks)).2.map kyC) []),.sh (.int d.1),.sh (.int d.2),.sh (.bl e),.sh (.lst ((free.map swp).map prD)),owl ((pre.foldl (aW e) ([],ks)).1.map prD),v6,v7]) free [.ow (.hd p (ks.map kyC) []),.sh (.int d.1),.sh (.int d.2),.sh (.bl e),.sh (.lst ((free.map swp).map prD)),.ow (.lst []),.un,.un] ⟨.un,.un,rfl⟩ fun pre c post ρ ef hpt0=>by
  obtain ⟨v6,v7,hρ⟩:=hpt0
  subst hρ
  have hf:=se e pre ([],ks)
  have hcp:c ∉ pre:=fun z=>by
   rw [ef] at nf
   exact (Pr.mp nf).2.2 c z c Oq rfl
  have hck:c ∈ (pre.foldl (aW e) ([],ks)).2:=(sd e c pre _ hcp).mpr (hs c (by rw [ef];exact OB _ Oq))
  have hpl:pre.length < free.length:=by rw [ef,Ov,Ow];lia
  rw [Qt]
  show ∃ ρ1 ρ2,_ /\ _ /\ ∃ v6 v7:Sl,ρ2 = [.ow (.hd p ((aW e (pre.foldl (aW e) ([],ks)) c).2.map kyC) []),_,_,_,_,owl ((aW e (pre.foldl (aW e) ([],ks)) c).1.map prD),v6,v7]
  generalize pre.foldl (aW e) ([],ks) = s at *
  obtain ⟨t,kk⟩:=s
  dsimp only at hf hck ⊢
  have hg:=qu kk c.1 c.2 e
  have hk:=nr kk c
  rw [Pb hck] at hk
  have hd:=BK kk c
  have ht:t.length < LIM:=OT (show t.length < 100000 by simp at hf;lia) (aO (Op _))
  unfold aW
  have q':goF kk e c = goF kk e (c.1,c.2):=rfl
  cases q:goF kk e c with
  | false=>
   refine ⟨_,_,rfl,.inl ?_,.sh (.int c.2),.sh (.int c.1),rfl⟩
   rw [<- q',q] at hg
   rw [Oi (by decide)]
   dsimp only
   generalize kk.map kyC = kq at hg ⊢
   simp [kT,hg,fI]
  | true=>
   refine ⟨_,_,rfl,.inl ?_,.sh (.int c.2),.sh (.int c.1),rfl⟩
   rw [<- q',q] at hg
   rw [Oj rfl,<- hd]
   have hk':(kk.map kyC).contains [c.1,c.2] = true:=hk
   generalize kk.map kyC = kq at hg hk' ⊢
   simp at hk'
   simp [kT,hg,fI,h2,kyD,aK,hk',ht]
 have hpf:dG e free ks = free.foldl (aW e) ([],ks):=rfl
 rw [hpf]
 generalize free.foldl (aW e) ([],ks) = s at *
 have em:free.map (fun c=>prD (swp c)) = (free.map swp).map prD:=by rw [OM];rfl
 rw [em] at k1
 have hx:qN [.ow (.hd p (ks.map kyC) []),.sh (.int d.1),.sh (.int d.2),.sh (.bl e),.un,.un,.un,.un] = some (.ro (.hd p (s.2.map kyC) [.lst (s.1.map (O.sh ∘ prD))])):=by
  unfold qN
  rw [aI (ρ':=[.ow (.hd p (ks.map kyC) []),.sh (.int d.1),.sh (.int d.2),.sh (.bl e),.sh (.lst ((free.map swp).map prD)),.un,.un,.un]) (by
   have h1:xL (ir 0 (bF [none,none,some 0,some 1,some 2] (mR 0) (aU (ao (ag 0) (ao (ag 1) aX))) (xB (lB true (a7 (ad (xOp bQ (ah 0) (ah 3)) (ad (xOp bQ (ah 1) (ah 4)) aq))) 2)) (a7 (ad (aw 1) (ad (aw 0) aq))))) [.ow (.hd p (ks.map kyC) []),.sh (.int d.1),.sh (.int d.2),.sh (.bl e),.un,.un,.un,.un] = some (.lst (((bh ks d.1 d.2).map swp).map prD)):=He hm
   have h3:=BI h1 (b:=aq) (y:=[]) rfl
   have h4:Bo fW (ad (xL (ir 0 (bF [none,none,some 0,some 1,some 2] (mR 0) (aU (ao (ag 0) (ao (ag 1) aX))) (xB (lB true (a7 (ad (xOp bQ (ah 0) (ah 3)) (ad (xOp bQ (ah 1) (ah 4)) aq))) 2)) (a7 (ad (aw 1) (ad (aw 0) aq)))))) aq) [.ow (.hd p (ks.map kyC) []),.sh (.int d.1),.sh (.int d.2),.sh (.bl e),.un,.un,.un,.un] = some ((free.map swp).map prD):=by
    unfold Bo
    rw [h3]
    exact hso
   unfold fS
   rw [He h4]
   rfl)]
  rw [aI (ρ':=[.ow (.hd p (ks.map kyC) []),.sh (.int d.1),.sh (.int d.2),.sh (.bl e),.sh (.lst ((free.map swp).map prD)),.ow (.lst []),.un,.un]) (by simp)]
  rw [aI (by rw [ii (l:=(free.map swp).map prD) (by simp)];exact k1)]
  generalize s.1 = s1
  simp
 simp [kE,fnH,hx]
noncomputable def ddS (acc:R) (c:Int × Int):R:=if c ∈ acc then acc else acc ++ [c]
noncomputable def ddp (l:R):R:=l.foldl ddS []
theorem Ej (l:R) (c:Int × Int):ddp (l ++ [c]) = ddS (ddp l) c:=by unfold ddp;rw [Qt];rfl
theorem GX (l:R) (c:Int × Int):c ∈ ddp l ↔ c ∈ l:=by
 have:∀ (l acc:R),c ∈ l.foldl ddS acc ↔ c ∈ acc \/ c ∈ l:=by
  intro l
  induction l with
  | nil=>intro acc;simp
  | cons a l ih=>
   intro acc
   rw [OP,ih,Oy,<- or_assoc]
   refine or_congr_left ?_
   unfold ddS
   by_cases h:a ∈ acc
   ·rw [Oj h]
    exact ⟨.inl,fun z=>z.elim id fun z=>by rw [z];exact h⟩
   ·rw [Oi h,OC,Ot]
 have h:=this l []
 unfold ddp
 rw [h]
 simp
theorem BJ (l:R):(ddp l).length <= l.length:=by
 have:∀ (l acc:R),(l.foldl ddS acc).length <= acc.length + l.length:=by
  intro l
  induction l with
  | nil=>intro acc;simp
  | cons a l ih=>
   intro acc
   rw [OP]
   have:=ih (ddS acc a)
   have h2:(ddS acc a).length <= acc.length + 1:=by unfold ddS;split <;> simp
   rw [Ow]
   lia
 have:=this l []
 simpa [ddp] using this
theorem GH (ks:R) (c:Int × Int):pR (ks.map kyC) (kyC c) = (ddS ks c).map kyC:=by
 unfold pR ddS
 rw [nr]
 by_cases h:c ∈ ks
 ·simp [h]
 ·simp [h]
theorem Hj {g:XG} {m:XS} {d:D} {l:List D} {ρ ρ1:M.Env} {o:O} (h1:g d ρ = some ρ1) (h2:m ρ1 = some (.ro o)):dt g m (d :: l) ρ = some (.ro o):=by
 rw [mI,h1]
 dsimp only [Option.bind]
 rw [h2]
theorem tE (a v3 v5 v6:Sl) (e:Bool):∀ (l:R) (s:R × R) (v7 v8:Sl),s.2.Nodup -> s.1.length + s.2.length <= 1000 -> ∃ w7 w8,dt (aU (ao (ag 7) (ao (ag 8) aX))) qY (l.map prD) [a,.sh (.bl e),.ow (.dic (s.2.map kyC)),v3,owl (s.1.map prD),v5,v6,v7,v8] = some (.nx [a,.sh (.bl e),.ow (.dic ((l.foldl (hG e) s).2.map kyC)),v3,owl ((l.foldl (hG e) s).1.map prD),v5,v6,w7,w8])
 | [],_,v7,v8,_,_=>⟨v7,v8,rfl⟩
 | d :: l,s,v7,v8,n,hl=>by
  have ok:=Cf e n d
  obtain ⟨w7,w8,ih⟩:=tE a v3 v5 v6 e l (hG e s d) (.sh (.int d.1)) (.sh (.int d.2)) ok.1 (by lia)
  refine ⟨w7,w8,?_⟩
  rw [OP,<- ih,Ox]
  refine ga (ρ1:=[a,.sh (.bl e),.ow (.dic (s.2.map kyC)),v3,owl (s.1.map prD),v5,v6,.sh (.int d.1),.sh (.int d.2)]) rfl ?_
  have hA:=wJ fun q=>sM q s.2 d e n (by lia)
  have hL:s.1.length + (fT e s.2 d).1.length <= LIM:=aO (by have:=yZ e n d;lia)
  show zO 4 2 kE (ad (aw 7) (ad (aw 8) (ad (aw 1) aq))) [a,.sh (.bl e),.ow (.dic (s.2.map kyC)),v3,owl (s.1.map prD),v5,v6,.sh (.int d.1),.sh (.int d.2)] = some (.nx [a,.sh (.bl e),.ow (.dic ((fT e s.2 d).2.map kyC)),v3,owl ((s.1 ++ (fT e s.2 d).1).map prD),v5,v6,.sh (.int d.1),.sh (.int d.2)])
  generalize fT e s.2 d = r at *
  have ha:ad (aw 7) (ad (aw 8) (ad (aw 1) aq)) [a,.sh (.bl e),.ow (.dic (s.2.map kyC)),v3,owl (s.1.map prD),v5,v6,.sh (.int d.1),.sh (.int d.2)] = some [.int d.1,.int d.2,.bl e]:=rfl
  unfold zO
  simp only [PX,PY,PK,wQ,ha,hA]
  simp [hL]
theorem tP (a v3:Sl) (e:Bool):∀ (n:Nat) (l:List D) (t ks:R) (s:R × R) (v5 v6 v7 v8:Sl),l.length = n -> Sim (t,ks) s -> ks.Pairwise RO -> s.2.Nodup -> s.1.length + s.2.length <= 45 -> ks.length < n -> ∃ u:R × R,Sim (cf e n t ks) u /\ u.2.length <= 45 /\ dt (ag 5) gc l [a,.sh (.bl e),.ow (.dic (s.2.map kyC)),v3,owl (s.1.map prD),v5,v6,v7,v8] = some (.ro (.tup [.sh (.lst (u.2.map prD)),.lst (u.1.map (O.sh ∘ prD))]))
 | 0,_,_,_,_,_,_,_,_,_,_,_,_,_,h=>by lia
 | n + 1,[],_,_,_,_,_,_,_,h,_,_,_,_,_=>by cases h
 | n + 1,d :: l,t,ks,s,v5,v6,v7,v8,hl,hs,ho,hn,hb,hk=>by
  have h2:2 <= LIM:=aO (by lia)
  have h4:4 <= LIM:=aO (by lia)
  obtain ⟨w7,w8,hr⟩:=tE a v3 (.sh d) (.sh (.int (s.1.length:Nat))) e sideL s v7 v8 hn (by lia)
  obtain ⟨r1,r2,r3,r4⟩:=zm e sideL ho hn hs
  rw [FI] at r1 r2
  have es:s.1.length = t.length:=by rw [<- hs.1]
  have hB:gc [a,.sh (.bl e),.ow (.dic (s.2.map kyC)),v3,owl (s.1.map prD),.sh d,v6,v7,v8] = xIf (xB (xOp (dEq false) (xCB jd (ad (ah 4) aq)) (ah 6))) (pP (xL (kR 2)) 4) jY [a,.sh (.bl e),.ow (.dic ((sideL.foldl (hG e) s).2.map kyC)),v3,owl ((sideL.foldl (hG e) s).1.map prD),.sh d,.sh (.int (s.1.length:Nat)),w7,w8]:=by
   unfold gc
   rw [aI (ρ':=[a,.sh (.bl e),.ow (.dic (s.2.map kyC)),v3,owl (s.1.map prD),.sh d,.sh (.int (s.1.length:Nat)),v7,v8]) (by simp)]
   rw [aI (by rw [ii (l:=sideL.map prD) (by simp [h2,h4,sideL])];exact hr)]
  generalize sideL.foldl (hG e) s = u at *
  have e1:u.1 = t ++ (dc e ks).1:=r1.1.symm
  have hlu:u.1.length = t.length + (dc e ks).1.length:=by rw [e1,Ov]
  have hdic:fv [a,.sh (.bl e),.ow (.dic (u.2.map kyC)),v3,owl (u.1.map prD),.sh d,.sh (.int (s.1.length:Nat)),w7,w8] 2 = some (u.2.map kyC):=rfl
  have ek2:(u.2.map kyC).map nQ = u.2.map prD:=by rw [OM];rfl
  by_cases h0:(dc e ks).1 = []
  ·have e2:cf e (n + 1) t ks = (t,ks):=by rw [cf,Oj h0]
   rw [h0] at hlu
   have hq:((u.1.length:Nat):Int) = (s.1.length:Nat):=by rw [hlu,es];rfl
   refine ⟨u,?_,by lia,?_⟩
   ·rw [e2]
    rw [h0,OZ,zj h0] at r1
    exact r1
   ·refine Hj (ρ1:=[a,.sh (.bl e),.ow (.dic (s.2.map kyC)),v3,owl (s.1.map prD),.sh d,v6,v7,v8]) rfl ?_
    rw [hB]
    have hc:xB (xOp (dEq false) (xCB jd (ad (ah 4) aq)) (ah 6)) [a,.sh (.bl e),.ow (.dic (u.2.map kyC)),v3,owl (u.1.map prD),.sh d,.sh (.int (s.1.length:Nat)),w7,w8] = some true:=by simp [hq]
    unfold xIf
    rw [hc]
    have hl1:xL (kR 2) [a,.sh (.bl e),.ow (.dic (u.2.map kyC)),v3,owl (u.1.map prD),.sh d,.sh (.int (s.1.length:Nat)),w7,w8] = some (.lst (u.2.map prD)):=He (by unfold kR;rw [hdic];show some ((u.2.map kyC).map nQ) = _;rw [ek2])
    show pP (xL (kR 2)) 4 [a,.sh (.bl e),.ow (.dic (u.2.map kyC)),v3,owl (u.1.map prD),.sh d,.sh (.int (s.1.length:Nat)),w7,w8] = _
    unfold pP
    show Option.bind (xL (kR 2) [a,.sh (.bl e),.ow (.dic (u.2.map kyC)),v3,owl (u.1.map prD),.sh d,.sh (.int (s.1.length:Nat)),w7,w8]) _ = _
    rw [hl1]
    show some (Out.ro (.tup [_,.lst ((u.1.map prD).map O.sh)])) = _
    rw [OM]
  ·have e2:cf e (n + 1) t ks = cf e n (t ++ (dc e ks).1) (dc e ks).2:=by rw [cf,Oi h0]
   have hp:0 < (dc e ks).1.length:=List.length_pos_iff.mpr h0
   have ok:=qV e (tD ho)
   have hq:¬ ((u.1.length:Nat):Int) = (s.1.length:Nat):=by rw [hlu,es];lia
   have hc:xB (xOp (dEq false) (xCB jd (ad (ah 4) aq)) (ah 6)) [a,.sh (.bl e),.ow (.dic (u.2.map kyC)),v3,owl (u.1.map prD),.sh d,.sh (.int (s.1.length:Nat)),w7,w8] = some false:=by simp [hq]
   obtain ⟨u',x1,x2,x3⟩:=tP a v3 e n l (t ++ (dc e ks).1) (dc e ks).2 u (.sh d) (.sh (.int (s.1.length:Nat))) w7 w8 (by simpa using hl) r1 r2 r3 (by lia) (by lia)
   refine ⟨u',by rw [e2];exact x1,x2,?_⟩
   rw [<- x3]
   refine ga (ρ1:=[a,.sh (.bl e),.ow (.dic (s.2.map kyC)),v3,owl (s.1.map prD),.sh d,v6,v7,v8]) rfl ?_
   rw [hB]
   unfold xIf
   rw [hc]
   rfl
theorem CT (l:R):(ddp l).Nodup:=by
 have:∀ (l acc:R),acc.Nodup -> (l.foldl ddS acc).Nodup:=by
  intro l
  induction l with
  | nil=>intro acc h;exact h
  | cons a l ih=>
   intro acc h
   rw [OP]
   refine ih _ ?_
   unfold ddS
   split
   ·exact h
   ·rename_i hm
    exact Pr.mpr ⟨h,OL.mpr ⟨by simp,Ra⟩,fun x hx y hy e=>hm (by rw [Ot] at hy;rw [<- hy,<- e];exact hx)⟩
 exact this l [] .nil
theorem qz (cs ks:R) (e:Bool) (hc:cs.length <= 45) (ho:ks.Pairwise RO) (hm:∀ c,c ∈ ks ↔ c ∈ cs) (hk:ks.length <= cs.length):∃ u:R × R,Sim (cf e (ks.length + 1) [] ks) u /\ u.2.length <= 45 /\ oQ [.lst (cs.map prD),.bl e] = some (.tup [.sh (.lst (u.2.map prD)),.lst (u.1.map (O.sh ∘ prD))]):=by
 obtain ⟨ρ1,k1,v3,rfl⟩:=bI (g:=ag 3) (m:=l6) prD (fun pre ρ=>∃ v3:Sl,ρ = [.sh (.lst (cs.map prD)),.sh (.bl e),.ow (.dic ((ddp pre).map kyC)),v3,.un,.un,.un,.un,.un]) cs [.sh (.lst (cs.map prD)),.sh (.bl e),.ow (.dic []),.un,.un,.un,.un,.un,.un] ⟨.un,rfl⟩ (by
  rintro pre c post _ er ⟨v3,rfl⟩
  have hl:pre.length < 45:=by
   have:=OG List.length er
   rw [Ov,Ow] at this
   lia
  have hl2:((ddp pre).map kyC).length < LIM:=fY (by rw [Os];have:=BJ pre;lia)
  refine ⟨_,_,rfl,.inl ?_,.sh (prD c),rfl⟩
  rw [Ej,<- GH]
  generalize (ddp pre).map kyC = kk at hl2 ⊢
  simp [l6,hl2,kyD,aK])
 have hr:=JP (1 + cs.length) (by lia)
 have hdl:=BJ cs
 obtain ⟨u,x1,x2,x3⟩:=tP (.sh (.lst (cs.map prD))) v3 e (1 + cs.length) ((List.range' 0 (1 + cs.length)).map fun i:Nat=>D.int (i:Int)) [] ks ([],ddp cs) .un .un .un .un (by rw [Os,Ro]) ⟨rfl,fun c=>by rw [hm,GX]⟩ ho (CT cs) (by show 0 + (ddp cs).length <= 45;lia) (by lia)
 refine ⟨u,by rw [vX e (ks.length + 1) (1 + cs.length) [] ks (tD ho) (by lia) (by lia)];exact x1,x2,?_⟩
 have hx:mV [.sh (.lst (cs.map prD)),.sh (.bl e),.un,.un,.un,.un,.un,.un,.un] = some (.ro (.tup [.sh (.lst (u.2.map prD)),.lst (u.1.map (O.sh ∘ prD))])):=by
  unfold mV
  rw [aI (ρ':=[.sh (.lst (cs.map prD)),.sh (.bl e),.ow (.dic []),.un,.un,.un,.un,.un,.un]) (by simp [Gv])]
  rw [aI (by rw [ii (l:=cs.map prD) (by simp)];exact k1)]
  rw [aI (ρ':=[.sh (.lst (cs.map prD)),.sh (.bl e),.ow (.dic ((ddp cs).map kyC)),v3,.ow (.lst []),.un,.un,.un,.un]) (by simp)]
  have hf:f8 (zT (ad (xOp bQ (xC (.int 1)) (xCB jd (ad (ah 0) aq))) aq)) (ag 5) gc [.sh (.lst (cs.map prD)),.sh (.bl e),.ow (.dic ((ddp cs).map kyC)),v3,.ow (.lst []),.un,.un,.un,.un] = some (.ro (.tup [.sh (.lst (u.2.map prD)),.lst (u.1.map (O.sh ∘ prD))])):=by
   rw [ii (l:=(List.range' 0 (1 + cs.length)).map fun i:Nat=>D.int (i:Int)) (by rw [<- hr];simp)]
   exact x3
  unfold bd
  rw [hf]
 exact Ih (n:=9) (ds:=[.lst (cs.map prD),.bl e]) hx
theorem EX (ns:List Int) (h:ns.length <= 63):KK [.scr (ns.map D.int)] = some (.bl true):=by
 have l2:2 <= LIM:=aO (by lia)
 obtain ⟨P50,hP50⟩:∃ P:Int,(10:Int) ^ (50:Int).toNat = P:=⟨_,rfl⟩
 have p50:GT (.int 10) (.int 50) = some (.int P50):=by rw [<- hP50];exact LD (by decide)
 have h50:0 < P50:=by rw [<- hP50];decide
 clear hP50
 obtain ⟨f,hf⟩:∃ v:Int,aQ [.scr (ns.map D.int),.int 0] = some (.int v):=lm ns 0
 obtain ⟨c1,hc1⟩:∃ v:Int,aQ [.scr (ns.map D.int),.int 1] = some (.int v):=lm ns 1
 obtain ⟨c2,hc2⟩:∃ v:Int,aQ [.scr (ns.map D.int),.int 2] = some (.int v):=lm ns 2
 obtain ⟨e,he⟩:∃ e:Bool,decide (c2 / 5 % 2 = 0) = e:=⟨_,rfl⟩
 obtain ⟨far,hfar⟩:∃ w:Int,f / 3 % 2 * (c1 % P50) = w:=⟨_,rfl⟩
 have hmul:jl (.int (f / 3 % 2)) (.int (c1 % P50)) = some (.int far):=by rw [<- hfar];exact fX (.inl (by lia))
 obtain ⟨ps,hps,lps⟩:=sH ns
 obtain ⟨cs,hcs⟩:∃ cs:R,ps.map (fun c=>(c.1 + far,c.2 - far)) = cs:=⟨_,rfl⟩
 have hcl:cs.length <= 45:=by rw [<- hcs,Os];lia
 have hcm:bR (aU (ao (ag 0) (ao (ag 1) aX))) eE (a7 (ad (xOp bQ (ah 0) (ah 2)) (ad (xOp x4 (ah 1) (ah 2)) aq))) [.un,.un,.sh (.int far)] (ps.map prD) = some (cs.map prD):=by
  rw [<- hcs,OM]
  exact cR prD _ ps fun c _=>by simp [fO,l2]
 have lps':ps.length <= LIM:=aO (by lia)
 have hpic:=iH cs hcl
 have sm:=Dt cs hcl
 have ht:=zI sm.can e sm.cn sm.st sm.ln sm.rw' (by have:=sm.cl;lia)
 have nd:=jA sm.can
 have hro:=xS _ (Bl sm.can)
 obtain ⟨u,u1,u2,u3⟩:=qz cs (aS (aY (cP (cs.map cT)))) e hcl hro sm.mem (oV nd fun c hc=>(sm.mem c).mp hc)
 have okt:=tQ e ((aS (aY (cP (cs.map cT)))).length + 1) [] (aS (aY (cP (cs.map cT)))) nd
 generalize cf e ((aS (aY (cP (cs.map cT)))).length + 1) [] (aS (aY (cP (cs.map cT)))) = tr at ht u1 okt
 obtain ⟨t,r⟩:=tr
 obtain ⟨ut,ur⟩:=u
 obtain ⟨rfl,hrr⟩:=u1
 dsimp only at ht hrr u2 u3
 have hpic2:=iH ur u2
 rw [<- Hw hrr] at hpic2
 have m1:eT [fJ (cP (cs.map cT)),.bl e] = some (.tup [fJ (cP (r.map cT)),.lst (t.map prD)]):=by
  unfold eT
  rw [ht]
  simp
 have m2:gz [.lst (cs.map prD),.bl e] = some (.tup [.lst (ur.map prD),.lst (t.map prD)]):=by
  unfold gz
  rw [u3]
  simp
 clear ht u3 okt hrr nd hro sm
 generalize cP (cs.map cT) = p at *
 generalize cP (r.map cT) = q at *
 have hq:∃ l,fJ q = .tup l:=⟨_,rfl⟩
 have d1:=x0 false (Hq q)
 have d2:=x0 false (Ho t)
 unfold wU at d2
 simp at d1 d2
 have hnn:∀ l:List D,nw (.tup l) = false:=fun _=>rfl
 refine Ii ?_
 show Bv [.sh (.scr (ns.map D.int)),.un,.un,.un,.un,.un] = _
 unfold Bv
 rw [aI (ρ':=[.sh (.scr (ns.map D.int)),.sh (.bl e),.un,.un,.un,.un]) (by simp [hc2,he])]
 rw [aI (ρ':=[.sh (.scr (ns.map D.int)),.sh (.bl e),.sh (.int far),.un,.un,.un]) (by simp [hf,hc1,p50,IM h50,hmul])]
 rw [aI (ρ':=[.sh (.scr (ns.map D.int)),.sh (.bl e),.sh (.int far),.sh (.lst (cs.map prD)),.un,.un]) (by simp [hps,lps',hcm])]
 rw [aI (ρ':=[.sh (.scr (ns.map D.int)),.sh (.bl e),.sh (.int far),.sh (.lst (cs.map prD)),.sh (.tup [.lst (ur.map prD),.lst (t.map prD)]),.un]) (by simp [m2])]
 rw [aI (ρ':=[.sh (.scr (ns.map D.int)),.sh (.bl e),.sh (.int far),.sh (.lst (cs.map prD)),.sh (.tup [.lst (ur.map prD),.lst (t.map prD)]),.sh (.tup [fJ q,.lst (t.map prD)])]) (by simp [hpic,m1])]
 clear m1 m2 hpic
 generalize t.map prD = tl at *
 generalize ur.map prD = rl at *
 generalize fJ q = pq at *
 obtain ⟨lq,rfl⟩:=hq
 rw [aI (ρ':=[.sh (.scr (ns.map D.int)),.sh (.bl e),.sh (.int far),.sh (.lst (cs.map prD)),.sh (.tup [.lst rl,.lst tl]),.sh (.tup [.tup lq,.lst tl])]) (by simp)]
 simp [hnn,d1,d2,hpic2]
end P
namespace Lw
open PySem L2 M P
noncomputable def top (i : Nat) : Stmt := PySem.Challenge.pw_shapethin_k55_passes_in_their_order.main.body.getD i (.Pass ⟨0, 0, 0, 0⟩)
noncomputable abbrev gJ:Stmt:=top 4
noncomputable abbrev df:Stmt:=top 5
noncomputable abbrev cc:Stmt:=top 8
noncomputable abbrev bO:Stmt:=top 9
noncomputable abbrev cj:Stmt:=top 10
noncomputable abbrev dS:Stmt:=top 11
noncomputable abbrev jF:Stmt:=top 15
noncomputable abbrev bN:Stmt:=top 16
noncomputable abbrev bB:Stmt:=top 19
noncomputable abbrev dn:Stmt:=top 20
noncomputable abbrev cO:Stmt:=top 21
noncomputable abbrev d9:Stmt:=top 22
noncomputable abbrev mO:Stmt:=top 23
noncomputable abbrev eX:Stmt:=top 25
noncomputable abbrev iM:Stmt:=top 26
noncomputable abbrev de:Stmt:=top 27
noncomputable abbrev eY:Stmt:=top 28
noncomputable abbrev jD:Stmt:=top 29
noncomputable abbrev iP:Stmt:=top 30
noncomputable abbrev lU:Stmt:=top 31
structure Txt (K:W.Frag) (mg:Str -> Option Value):Prop where
 dict:mg "dict" = none
 int:mg "int" = none
 isinstance:mg "isinstance" = none
 len:mg "len" = none
 list:mg "list" = none
 max:mg "max" = none
 range:mg "range" = none
 set:mg "set" = none
 sorted:mg "sorted" = none
 sum:mg "sum" = none
 tuple:mg "tuple" = none
 MOST_CELLS:∃ t:Tok,mg "MOST_CELLS" = some (.int (1000) t)
 ROUND:∃ (u:Value) (v:V),mg "ROUND" = some u /\ RelV v u /\ ∀ S,Den K S (.mtp [.mtp [.int (0),.int (-1),.int (1)],.mtp [.int (-1),.int (-1),.int (2)],.mtp [.int (-1),.int (0),.int (4)],.mtp [.int (-1),.int (1),.int (8)],.mtp [.int (0),.int (1),.int (16)],.mtp [.int (1),.int (1),.int (32)],.mtp [.int (1),.int (0),.int (64)],.mtp [.int (1),.int (-1),.int (128)]]) v
 SIDES:∃ (u:Value) (v:V),mg "SIDES" = some u /\ RelV v u /\ ∀ S,Den K S (.mtp [.mtp [.int (0),.int (-1)],.mtp [.int (-1),.int (0)],.mtp [.int (0),.int (1)],.mtp [.int (1),.int (0)]]) v
 STRAIGHT:∃ (u:Value) (v:V),mg "STRAIGHT" = some u /\ RelV v u /\ ∀ S,Den K S (.mtp [.int (1),.int (4),.int (16),.int (64)]) v
section
variable {P:Program} {w:World} {K:W.Frag} {mg:Str -> Option Value} {base:Heap}
theorem vT:FnScope ["pairs", "stretches", "a", "b"] ["pairs"] (am gJ):=⟨rfl,rfl,rfl,by decide +kernel,rfl,by decide +kernel,by decide +kernel⟩
theorem nH:FnScope ["row"] ["row"] (am df):=⟨rfl,rfl,rfl,by decide +kernel,rfl,by decide +kernel,by decide +kernel⟩
theorem jW:FnScope ["picture", "stretches", "y", "row"] ["picture"] (am bO):=⟨rfl,rfl,rfl,by decide +kernel,rfl,by decide +kernel,by decide +kernel⟩
theorem zq:FnScope ["number", "twice"] ["number"] (am jF):=⟨rfl,rfl,rfl,by decide +kernel,rfl,by decide +kernel,by decide +kernel⟩
theorem jV:FnScope ["number"] ["number"] (am bN):=⟨rfl,rfl,rfl,by decide +kernel,rfl,by decide +kernel,by decide +kernel⟩
theorem lW:FnScope ["kept", "dx", "dy"] ["kept", "dx", "dy"] (am cO):=⟨rfl,rfl,rfl,by decide +kernel,rfl,by decide +kernel,by decide +kernel⟩
theorem pL:FnScope ["_law_script", "_law_k"] ["_law_script", "_law_k"] (am eX):=⟨rfl,rfl,rfl,by decide +kernel,rfl,by decide +kernel,by decide +kernel⟩
theorem pM:FnScope ["_law_spots_here", "_law_rows", "_law_y", "_law_row", "_law_x"] ["_law_spots_here"] (am de):=⟨rfl,rfl,rfl,by decide +kernel,rfl,by decide +kernel,by decide +kernel⟩
theorem tF:FnScope ["_law_there", "_law_x", "_law_y", "_law_ends", "_law_steps", "_law_bits", "_law_total", "_law_k"] ["_law_there", "_law_x", "_law_y", "_law_ends"] (am eY):=⟨rfl,rfl,rfl,by decide +kernel,rfl,by decide +kernel,by decide +kernel⟩
theorem lX:FnScope ["stretches", "pairs_by_row", "y", "a", "b"] ["stretches"] (am cc):=⟨rfl,rfl,rfl,by decide +kernel,rfl,by decide +kernel,by decide +kernel⟩
theorem kL:FnScope ["picture"] ["picture"] (am cj):=⟨rfl,rfl,rfl,by decide +kernel,rfl,by decide +kernel,by decide +kernel⟩
theorem Cj:FnScope ["kept", "x", "y", "ends", "number"] ["kept", "x", "y", "ends"] (am mO):=⟨rfl,rfl,rfl,by decide +kernel,rfl,by decide +kernel,by decide +kernel⟩
theorem vR:FnScope ["_law_script", "_law_first", "_law_spots_here", "_law_wide", "_law_high", "_law_kind", "_law_k", "_law_x", "_law_y", "_law_cell", "_law_mixed"] ["_law_script"] (am iM):=⟨rfl,rfl,rfl,by decide +kernel,rfl,by decide +kernel,by decide +kernel⟩
theorem zp:FnScope ["_law_there", "_law_dx", "_law_dy", "_law_ends", "_law_free", "_law_taken_here", "_law_y", "_law_x"] ["_law_there", "_law_dx", "_law_dy", "_law_ends"] (am jD):=⟨rfl,rfl,rfl,by decide +kernel,rfl,by decide +kernel,by decide +kernel⟩
theorem pN:FnScope ["picture", "cells", "y", "a", "b"] ["picture"] (am dS):=⟨rfl,rfl,rfl,by decide +kernel,rfl,by decide +kernel,by decide +kernel⟩
theorem nI:FnScope ["kept", "free", "ends", "taken", "cell"] ["kept", "free", "ends"] (am d9):=⟨rfl,rfl,rfl,by decide +kernel,rfl,by decide +kernel,by decide +kernel⟩
theorem vS:FnScope ["_law_spots_here", "_law_ends", "_law_there", "_law_spot", "_law_taken_here", "_law_k", "_law_many", "_law_dx", "_law_dy"] ["_law_spots_here", "_law_ends"] (am iP):=⟨rfl,rfl,rfl,by decide +kernel,rfl,by decide +kernel,by decide +kernel⟩
theorem lY:FnScope ["kept", "ends", "taken", "dx", "dy"] ["kept", "ends"] (am dn):=⟨rfl,rfl,rfl,by decide +kernel,rfl,by decide +kernel,by decide +kernel⟩
theorem tH:FnScope ["picture", "ends", "kept", "taken", "taken_before"] ["picture", "ends"] (am bB):=⟨rfl,rfl,rfl,by decide +kernel,rfl,by decide +kernel,by decide +kernel⟩
theorem FX:FnScope ["_law_script", "_law_ends", "_law_far", "_law_spots_here", "_law_due", "_law_found"] ["_law_script"] (am lU):=⟨rfl,rfl,rfl,by decide +kernel,rfl,by decide +kernel,by decide +kernel⟩
theorem yR {f:Addr} {fd:FuncData} (F:Fun K "_law_cell_at" "_law_cell_at" eX f fd) (T:Txt K mg):FnOk P w K mg base CX0 1 f fd ["_law_script", "_law_k"] (fM K):=by
 refine F.ok pL (fun vs H Q E h=>h.1) (fun cdv A outer s H vs Q E hr h=>?_)
 have nd:=(pL).nd
 exact ⟨_,ap (jT (bq Iq (pv 1) (bf cQ (by rfl) T.len ie (ab (pv 0) ai)) (bt _)) (aA (bG (cv bo (pv 0) (pv 1) (fun _ _=>rfl)))) fh) (aA (bG ak)),zd h⟩
theorem AR {f:Addr} {fd:FuncData} (F:Fun K "_law_may_go" "_law_may_go" eY f fd) (T:Txt K mg):FnOk P w K mg base CX0 1 f fd ["_law_there", "_law_x", "_law_y", "_law_ends"] (jG K):=by
 refine F.ok tF (fun vs H Q E h=>h.1) (fun cdv A outer s H vs Q E hr h=>?_)
 have nd:=(tF).nd
 exact ⟨_,ap (a6 (i:=4) nd rfl (.inl rfl) (dA (ab (aR (ab ak (ab (eG cV ak) ai))) (ab (aR (ab (eG cV ak) (ab (eG cV ak) ai))) (ab (aR (ab (eG cV ak) (ab ak ai))) (ab (aR (ab (eG cV ak) (ab ak ai))) (ab (aR (ab ak (ab ak ai))) (ab (aR (ab ak (ab ak ai))) (ab (aR (ab ak (ab ak ai))) (ab (aR (ab ak (ab (eG cV ak) ai))) ai)))))))))) (ap (Ca (i:=5) (hN:=nd) (hi0:=rfl) (hx:=Or.inl rfl) (ck:=(show CmpOk ["_law_there", "_law_x", "_law_y", "_law_ends", "_law_steps", "_law_bits", "_law_total", "_law_k"] (am eY) _ ["_law_dx", "_law_dy", "_law_there", "_law_x", "_law_y"] [none,none,some 0,some 1,some 2] from eF)) (hi:=bu (pv 4)) (hg:=fun _=>cF rfl (az (av (i:=0) (show List.Nodup (["_law_dx", "_law_dy", "_law_there", "_law_x", "_law_y"]:List Str) from by decide +kernel) rfl (.inl rfl)) (az (av (i:=1) (show List.Nodup (["_law_dx", "_law_dy", "_law_there", "_law_x", "_law_y"]:List Str) from by decide +kernel) rfl (.inl rfl)) bz))) (hs:=e9 (aM aP (aM aP dq aE) aE)) (ht:=fun _=>fg) (he:=fun _=>eV CH (by rfl) T.int Jc (ab (JD (Fe (un1 hr.units) (aR (ab (aL a9 (pv 3) (pv 0)) (ab (aL a9 (pv 4) (pv 1)) ai))) (pv 2))) ai))) (ap (jT (PW.pt (o5 (gG (pv 3) (fun _=>rfl)) (lg (bq Iq (bf (kY rfl) (by rfl) T.sum wx (ab (pv 5) ai)) ak (bt _))))) (aA (bG B3)) fh) (ap (a6 (i:=6) nd rfl (.inl rfl) ak) (ap (dB Pa rfl (bu (dA (ab ak (ab ak (ab ak (ab ak ai)))))) (av (i:=7) nd rfl (.inl rfl)) (aA (jT (PW.pt (o5 (bq (fP hr.units) (cv bo (pv 5) (pv 7) (fun _ _=>rfl)) ak (bt _)) (lg (bq B1 (aL a9 (cv bo (pv 5) (aL a9 (pv 7) ak) (fun _ _=>rfl)) (cv bo (pv 5) (aL fQ (aL a9 (pv 7) ak) ak) (fun _ _=>rfl))) ak (bt _))))) (aA (a6 (i:=6) nd rfl (.inl rfl) (aL a9 (pv 6) ak))) fh))) (aA (bG (jB (fP hr.units) (pv 6) ak (bt _)))))))),A5 h⟩
theorem yS {f:Addr} {fd:FuncData} (F:Fun K "_law_picture" "_law_picture" de f fd) (T:Txt K mg):FnOk P w K mg base CX0 1 f fd ["_law_spots_here"] (hJ K):=by
 refine F.ok pM (fun vs H Q E h=>h.1) (fun cdv A outer s H vs Q E hr h=>?_)
 have nd:=(pM).nd
 exact ⟨_,ap (a6 (i:=1) nd rfl (.inl rfl) (dA ai)) (ap (dB Pa rfl (bu (sX T.sorted T.set (cz (show CmpOk ["_law_spots_here", "_law_rows", "_law_y", "_law_row", "_law_x"] (am de) _ ["_law_spot"] [none] from eF) (bu (pv 0)) (fun _=>av (i:=0) (show List.Nodup (["_law_spot"]:List Str) from by decide +kernel) rfl (.inl rfl)) aP (fun _=>fg) (fun _=>cv bo (pv 0) ak (fun _ _=>rfl))))) (av (i:=2) nd rfl (.inr rfl)) (ap (a6 (i:=3) nd rfl (.inl rfl) (dA ai)) (ap (dB Pa rfl (bu (sX T.sorted T.set (cz (show CmpOk ["_law_spots_here", "_law_rows", "_law_y", "_law_row", "_law_x"] (am de) _ ["_law_spot", "_law_y"] [none,some 2] from eF) (bu (pv 0)) (fun _=>av (i:=0) (show List.Nodup (["_law_spot", "_law_y"]:List Str) from by decide +kernel) rfl (.inl rfl)) aP (fun _=>g9 (bq (fP hr.units) (cv bo (pv 0) ak (fun _ _=>rfl)) (pv 1) (bt _))) (fun _=>cv bo (pv 0) ak (fun _ _=>rfl))))) (av (i:=4) nd rfl (.inl rfl)) (aA (jT (PW.pt (o5 (bq B1 (bf cQ (by rfl) T.len ie (ab (pv 3) ai)) ak (bt _)) (lg (bq (fP hr.units) (aL a9 (cv bo (cv bo (pv 3) (eG cV ak) (fun _ _=>rfl)) ak (fun _ _=>rfl)) ak) (pv 4) (bt _))))) (aA (Ft (aR (ab (cv bo (cv bo (pv 3) (eG cV ak) (fun _ _=>rfl)) ak (fun _ _=>rfl)) (ab (pv 4) ai))) (Fk (pv 3) (eG cV ak) zr))) (aA (cM (gF Pl PZ P0 cU (pv 3) (ab (aR (ab (pv 4) (ab (pv 4) ai))) ai))))))) (aA (cM (gF Pl PZ P0 cU (pv 1) (ab (aR (ab (pv 2) (ab (eV fc (by rfl) T.tuple kl (ab (pv 3) ai)) ai))) ai))))))) (aA (bG (eV fc (by rfl) T.tuple kl (ab (pv 1) ai))))),ze h⟩
theorem qE {f:Addr} {fd:FuncData} (F:Fun K "count_around" "count_around" bN f fd) (T:Txt K mg):FnOk P w K mg base CX0 1 f fd ["number"] (dL K):=by
 refine F.ok jV (fun vs H Q E h=>h.1) (fun cdv A outer s H vs Q E hr h=>?_)
 have nd:=(jV).nd
 exact ⟨_,aA (bG (bf cQ (by rfl) T.len ie (ab (cz (show CmpOk ["number"] (am bN) _ ["dx", "dy", "worth", "number"] [none,none,none,some 0] from eF) (bu (nB (by rfl) T.ROUND.choose_spec.choose_spec.1 T.ROUND.choose_spec.choose_spec.2.1 T.ROUND.choose_spec.choose_spec.2.2)) (fun _=>cF rfl (az (av (i:=0) (show List.Nodup (["dx", "dy", "worth", "number"]:List Str) from by decide +kernel) rfl (.inl rfl)) (az (av (i:=1) (show List.Nodup (["dx", "dy", "worth", "number"]:List Str) from by decide +kernel) rfl (.inl rfl)) (az (av (i:=2) (show List.Nodup (["dx", "dy", "worth", "number"]:List Str) from by decide +kernel) rfl (.inl rfl)) bz)))) (e9 (aM aP (aM aP (aM aP dq aE) aE) aE)) (fun _=>g9 (bq (xf hr.units) (aL AV (pv 3) (pv 2)) ak (bt _))) (fun _=>pv 2)) ai))),qI h⟩
theorem ux {f:Addr} {fd:FuncData} (F:Fun K "free_cells" "free_cells" cO f fd) (T:Txt K mg):FnOk P w K mg base CX0 1 f fd ["kept", "dx", "dy"] (fi K):=by
 refine F.ok lW (fun vs H Q E h=>h.1) (fun cdv A outer s H vs Q E hr h=>?_)
 have nd:=(lW).nd
 exact ⟨_,aA (bG (cz (show CmpOk ["kept", "dx", "dy"] (am cO) _ ["x", "y", "kept", "dx", "dy"] [none,none,some 0,some 1,some 2] from eF) (AZ (pv 0)) (fun _=>cF rfl (az (av (i:=0) (show List.Nodup (["x", "y", "kept", "dx", "dy"]:List Str) from by decide +kernel) rfl (.inl rfl)) (az (av (i:=1) (show List.Nodup (["x", "y", "kept", "dx", "dy"]:List Str) from by decide +kernel) rfl (.inl rfl)) bz))) (e9 (aM aP (aM aP dq aE) aE)) (fun _=>g9 (A2 (vF (un1 hr.units) (aR (ab (aL a9 (pv 0) (pv 3)) (ab (aL a9 (pv 1) (pv 4)) ai))) (pv 2)))) (fun _=>aR (ab (pv 0) (ab (pv 1) ai))))),uD h⟩
theorem w6 {f:Addr} {fd:FuncData} (F:Fun K "row_count" "row_count" df f fd) (T:Txt K mg):FnOk P w K mg base CX0 1 f fd ["row"] (fZ K):=by
 refine F.ok nH (fun vs H Q E h=>h.1) (fun cdv A outer s H vs Q E hr h=>?_)
 have nd:=(nH).nd
 exact ⟨_,aA (bG (bf (kY rfl) (by rfl) T.sum wx (ab (cz (show CmpOk ["row"] (am df) _ ["a", "b"] [none,none] from eF) (bu (pv 0)) (fun _=>cF rfl (az (av (i:=0) (show List.Nodup (["a", "b"]:List Str) from by decide +kernel) rfl (.inl rfl)) (az (av (i:=1) (show List.Nodup (["a", "b"]:List Str) from by decide +kernel) rfl (.inl rfl)) bz))) (e9 (aM aP (aM aP dq aE) aE)) (fun _=>fg) (fun _=>aL a9 (aL xg (pv 1) (pv 0)) ak)) ai))),xm h⟩
theorem Dq {f:Addr} {fd:FuncData} (F:Fun K "row_of" "row_of" gJ f fd) (T:Txt K mg):FnOk P w K mg base CX0 1 f fd ["pairs"] (ll K):=by
 refine F.ok vT (fun vs H Q E h=>h.1) (fun cdv A outer s H vs Q E hr h=>?_)
 have nd:=(vT).nd
 exact ⟨_,ap (a6 (i:=1) nd rfl (.inl rfl) (dA ai)) (ap (dB Pa rfl (bu (bf ji (by rfl) T.sorted kX (ab (cz (show CmpOk ["pairs", "stretches", "a", "b"] (am gJ) _ ["a", "b"] [none,none] from eF) (bu (pv 0)) (fun _=>cF rfl (az (av (i:=0) (show List.Nodup (["a", "b"]:List Str) from by decide +kernel) rfl (.inl rfl)) (az (av (i:=1) (show List.Nodup (["a", "b"]:List Str) from by decide +kernel) rfl (.inl rfl)) bz))) (e9 (aM aP (aM aP dq aE) aE)) (fun _=>g9 (bq Fd (pv 0) (pv 1) (bt _))) (fun _=>aR (ab (pv 0) (ab (pv 1) ai)))) ai))) (cF rfl (az (av (i:=2) nd rfl (.inl rfl)) (az (av (i:=3) nd rfl (.inl rfl)) bz))) (aA (jT (PW.pt (o5 (gG (pv 1) (fun _=>rfl)) (lg (bq Fd (pv 2) (aL a9 (cv bo (cv bo (pv 1) (eG cV ak) (fun _ _=>rfl)) ak (fun _ _=>rfl)) ak) (bt _))))) (aA (Ft (aR (ab (cv bo (cv bo (pv 1) (eG cV ak) (fun _ _=>rfl)) ak (fun _ _=>rfl)) (ab (bf (CI rfl) (by rfl) T.max Jd (ab (cv bo (cv bo (pv 1) (eG cV ak) (fun _ _=>rfl)) ak (fun _ _=>rfl)) (ab (pv 3) ai))) ai))) (Fk (pv 1) (eG cV ak) zr))) (aA (cM (gF Pl PZ P0 cU (pv 1) (ab (aR (ab (pv 2) (ab (pv 3) ai))) ai))))))) (aA (bG (eV fc (by rfl) T.tuple kl (ab (pv 1) ai))))),DE h⟩
theorem qF {f:Addr} {fd:FuncData} (F:Fun K "stretches_of" "stretches_of" bO f fd) (T:Txt K mg):FnOk P w K mg base CX0 1 f fd ["picture"] (dM K):=by
 refine F.ok jW (fun vs H Q E h=>h.1) (fun cdv A outer s H vs Q E hr h=>?_)
 have nd:=(jW).nd
 exact ⟨_,ap (a6 (i:=1) nd rfl (.inl rfl) (dA ai)) (ap (dB Pa rfl (bu (pv 0)) (cF rfl (az (av (i:=2) nd rfl (.inr rfl)) (az (av (i:=3) nd rfl (.inl rfl)) bz))) (aA (cM (gF Pl RN RP qT (pv 1) (ab (cz (show CmpOk ["picture", "stretches", "y", "row"] (am bO) _ ["a", "b", "y"] [none,none,some 2] from eF) (bu (pv 3)) (fun _=>cF rfl (az (av (i:=0) (show List.Nodup (["a", "b", "y"]:List Str) from by decide +kernel) rfl (.inl rfl)) (az (av (i:=1) (show List.Nodup (["a", "b", "y"]:List Str) from by decide +kernel) rfl (.inl rfl)) bz))) (e9 (aM aP (aM aP dq aE) aE)) (fun _=>fg) (fun _=>aR (ab (pv 2) (ab (pv 0) (ab (pv 1) ai))))) ai))))) (aA (bG (pv 1)))),qJ h⟩
theorem Fc {f:Addr} {fd:FuncData} (F:Fun K "turns" "turns" jF f fd) (T:Txt K mg):FnOk P w K mg base CX0 1 f fd ["number"] (nL K):=by
 refine F.ok zq (fun vs H Q E h=>h.1) (fun cdv A outer s H vs Q E hr h=>?_)
 have nd:=(zq).nd
 exact ⟨_,ap (a6 (i:=1) nd rfl (.inr rfl) (aL a9 (pv 0) (aL oX ak (pv 0)))) (aA (bG (bf cQ (by rfl) T.len ie (ab (cz (show CmpOk ["number", "twice"] (am jF) _ ["worth", "number", "twice"] [none,some 0,some 1] from eF) (bu (nB (by rfl) T.STRAIGHT.choose_spec.choose_spec.1 T.STRAIGHT.choose_spec.choose_spec.2.1 T.STRAIGHT.choose_spec.choose_spec.2.2)) (fun _=>av (i:=0) (show List.Nodup (["worth", "number", "twice"]:List Str) from by decide +kernel) rfl (.inl rfl)) aP (fun _=>g9 (PW.pt (o5 (bq (fP hr.units) (aL AV (pv 1) (pv 0)) ak (bt _)) (lg (bq (xf hr.units) (aL AV (pv 2) (aL a9 (aL oX ak (pv 0)) (aL oX ak (pv 0)))) ak (bt _)))))) (fun _=>pv 0)) ai)))),FE h⟩
theorem Fb {f:Addr} {fd:FuncData} (F:Fun K "_law_pass" "_law_pass" jD f fd) (T:Txt K mg) {dY:Addr} {r8:FuncData} (nW:FnOk P w K mg base CX0 1 dY r8 ["_law_there", "_law_x", "_law_y", "_law_ends"] (jG K)) (eS:mg "_law_may_go" = some (.ref dY)) (f9:W.keepIn K (.ref dY) = true) (n8:Binds K r8 ["_law_there", "_law_x", "_law_y", "_law_ends"] []):FnOk P w K mg base CX0 2 f fd ["_law_there", "_law_dx", "_law_dy", "_law_ends"] (nK K):=by
 refine F.ok zp (fun vs H Q E h=>h.1) (fun cdv A outer s H vs Q E hr h=>?_)
 have nd:=(zp).nd
 exact ⟨_,ap (a6 (i:=4) nd rfl (.inl rfl) (bf ji (by rfl) T.sorted kX (ab (nD 0 (cz (show CmpOk ["_law_there", "_law_dx", "_law_dy", "_law_ends", "_law_free", "_law_taken_here", "_law_y", "_law_x"] (am jD) _ ["_law_x", "_law_y", "_law_there", "_law_dx", "_law_dy"] [none,none,some 0,some 1,some 2] from eF) (AZ (pv 0)) (fun _=>cF rfl (az (av (i:=0) (show List.Nodup (["_law_x", "_law_y", "_law_there", "_law_dx", "_law_dy"]:List Str) from by decide +kernel) rfl (.inl rfl)) (az (av (i:=1) (show List.Nodup (["_law_x", "_law_y", "_law_there", "_law_dx", "_law_dy"]:List Str) from by decide +kernel) rfl (.inl rfl)) bz))) (e9 (aM aP (aM aP dq aE) aE)) (fun _=>g9 (A2 (vF (un1 hr.units) (aR (ab (aL a9 (pv 0) (pv 3)) (ab (aL a9 (pv 1) (pv 4)) ai))) (pv 2)))) (fun _=>aR (ab (pv 1) (ab (pv 0) ai))))) ai))) (ap (a6 (i:=5) nd rfl (.inl rfl) (dA ai)) (ap (dB Pa rfl (bu (pv 4)) (cF rfl (az (av (i:=6) nd rfl (.inl rfl)) (az (av (i:=7) nd rfl (.inl rfl)) bz))) (aA (jT (gG (nD 0 (bm nW (hr.mono (by decide)) (by rfl) eS f9 n8 .nil c9 (ab (pv 0) (ab (pv 7) (ab (pv 6) (ab (pv 3) ai)))))) (fun _=>rfl)) (ap (cM (gF PySem.F.plainAttrs_dict PySem.F.slot_dict_pop PySem.F.type_dict_pop (BW (Cg hr.units)) (pv 0) (ab (aR (ab (pv 7) (ab (pv 6) ai))) ai))) (aA (cM (gF Pl PZ P0 cU (pv 5) (ab (aR (ab (pv 7) (ab (pv 6) ai))) ai))))) fh))) (aA (bG (pv 5))))),FD h⟩
theorem Dm {f:Addr} {fd:FuncData} (F:Fun K "_law_spots" "_law_spots" iM f fd) (T:Txt K mg) {bD:Addr} {fD:FuncData} (c0:FnOk P w K mg base CX0 1 bD fD ["_law_script", "_law_k"] (fM K)) (aQ:mg "_law_cell_at" = some (.ref bD)) (bK:W.keepIn K (.ref bD) = true) (c5:Binds K fD ["_law_script", "_law_k"] []):FnOk P w K mg base CX0 2 f fd ["_law_script"] (lh K):=by
 refine F.ok vR (fun vs H Q E h=>h.1) (fun cdv A outer s H vs Q E hr h=>?_)
 have nd:=(vR).nd
 exact ⟨_,ap (a6 (i:=1) nd rfl (.inl rfl) (bm c0 (hr.mono (by decide)) (by rfl) aQ bK c5 .nil c9 (ab (pv 0) (ab ak ai)))) (ap (a6 (i:=2) nd rfl (.inl rfl) (dA ai)) (ap (a6 (i:=3) nd rfl (.inl rfl) (aL a9 ak (aL fQ (aL g8 (pv 1) ak) ak))) (ap (a6 (i:=4) nd rfl (.inl rfl) (aL a9 ak (aL fQ (aL g8 (pv 1) ak) ak))) (ap (a6 (i:=5) nd rfl (.inl rfl) (aL fQ (pv 1) ak)) (ap (dB Pa rfl (oZ (by rfl) T.range (ab (aL oX (pv 3) (pv 4)) ai)) (av (i:=6) nd rfl (.inl rfl)) (ap (a6 (i:=7) nd rfl (.inl rfl) (aL fQ (pv 6) (pv 3))) (ap (a6 (i:=8) nd rfl (.inl rfl) (aL g8 (pv 6) (pv 3))) (aA (jT (PW.pt (za (bq (fP hr.units) (pv 5) ak (bt _)) (xl (PW.pt (o5 (bq (fP hr.units) (pv 5) ak (bt _)) (lg (PW.pt (za (bq vB (pv 7) (aR (ab ak (ab (aL xg (pv 3) ak) ai))) rfl) (xl (bq vB (pv 8) (aR (ab ak (ab (aL xg (pv 4) ak) ai))) rfl)))))))))) (aA (cM (gF Pl PZ P0 cU (pv 2) (ab (aR (ab (pv 7) (ab (pv 8) ai))) ai)))) fh))))) (ap (dB Pa rfl (bu (Fh Mj (pv 0) (B9 ak) (B9 ak))) (av (i:=9) nd rfl (.inl rfl)) (ap (a6 (i:=10) nd rfl (.inl rfl) (aL g8 (aL fQ (aL oX (pv 9) ak) ak) ak)) (aA (dB Pa rfl (oZ (by rfl) T.range (ab (aL a9 ak (aL fQ (aL g8 (pv 10) ak) ak)) ai)) (av (i:=6) nd rfl (.inl rfl)) (aA (cM (gF Pl PZ P0 cU (pv 2) (ab (aR (ab (aL a9 (aL fQ (pv 10) ak) (pv 6)) (ab (aL fQ (aL g8 (pv 10) ak) ak) ai))) ai)))))))) (aA (bG (pv 2))))))))),DC h⟩
theorem sU {f:Addr} {fd:FuncData} (F:Fun K "count_cells" "count_cells" cj f fd) (T:Txt K mg) {cH:Addr} {m9:FuncData} (j8:FnOk P w K mg base CX0 1 cH m9 ["row"] (fZ K)) (cJ:mg "row_count" = some (.ref cH)) (d6:W.keepIn K (.ref cH) = true) (ki:Binds K m9 ["row"] []):FnOk P w K mg base CX0 2 f fd ["picture"] (eB K):=by
 refine F.ok kL (fun vs H Q E h=>h.1) (fun cdv A outer s H vs Q E hr h=>?_)
 have nd:=(kL).nd
 exact ⟨_,aA (bG (bf (kY rfl) (by rfl) T.sum wx (ab (cz (show CmpOk ["picture"] (am cj) _ ["y", "row"] [none,none] from eF) (bu (pv 0)) (fun _=>cF rfl (az (av (i:=0) (show List.Nodup (["y", "row"]:List Str) from by decide +kernel) rfl (.inl rfl)) (az (av (i:=1) (show List.Nodup (["y", "row"]:List Str) from by decide +kernel) rfl (.inl rfl)) bz))) (e9 (aM aP (aM aP dq aE) aE)) (fun _=>fg) (fun _=>bm j8 (hr.mono (by decide)) (by rfl) cJ d6 ki .nil c9 (ab (pv 1) ai))) ai))),tw h⟩
theorem Hr {f:Addr} {fd:FuncData} (F:Fun K "goes" "goes" mO f fd) (T:Txt K mg) {gX:Addr} {yf:FuncData} (we:FnOk P w K mg base CX0 1 gX yf ["number"] (nL K)) (jx:mg "turns" = some (.ref gX)) (k9:W.keepIn K (.ref gX) = true) (ww:Binds K yf ["number"] []) {bw:Addr} {jO:FuncData} (ge:FnOk P w K mg base CX0 1 bw jO ["number"] (dL K)) (bL:mg "count_around" = some (.ref bw)) (cB:W.keepIn K (.ref bw) = true) (gm:Binds K jO ["number"] []):FnOk P w K mg base CX0 2 f fd ["kept", "x", "y", "ends"] (qX K):=by
 refine F.ok Cj (fun vs H Q E h=>h.1) (fun cdv A outer s H vs Q E hr h=>?_)
 have nd:=(Cj).nd
 exact ⟨_,ap (a6 (i:=4) nd rfl (.inl rfl) (bf (kY rfl) (by rfl) T.sum wx (ab (cz (show CmpOk ["kept", "x", "y", "ends", "number"] (am mO) _ ["dx", "dy", "worth", "kept", "x", "y"] [none,none,none,some 0,some 1,some 2] from eF) (bu (nB (by rfl) T.ROUND.choose_spec.choose_spec.1 T.ROUND.choose_spec.choose_spec.2.1 T.ROUND.choose_spec.choose_spec.2.2)) (fun _=>cF rfl (az (av (i:=0) (show List.Nodup (["dx", "dy", "worth", "kept", "x", "y"]:List Str) from by decide +kernel) rfl (.inl rfl)) (az (av (i:=1) (show List.Nodup (["dx", "dy", "worth", "kept", "x", "y"]:List Str) from by decide +kernel) rfl (.inl rfl)) (az (av (i:=2) (show List.Nodup (["dx", "dy", "worth", "kept", "x", "y"]:List Str) from by decide +kernel) rfl (.inl rfl)) bz)))) (e9 (aM aP (aM aP (aM aP dq aE) aE) aE)) (fun _=>g9 (A2 (Fe (un1 hr.units) (aR (ab (aL a9 (pv 4) (pv 0)) (ab (aL a9 (pv 5) (pv 1)) ai))) (pv 3)))) (fun _=>pv 2)) ai))) (aA (bG (AX (jB (fP hr.units) (bm we (hr.mono (by decide)) (by rfl) jx k9 ww .nil c9 (ab (pv 4) ai)) ak (bt _)) (AY (KO (JE (pv 3)) (AY (jB KM (bm ge (hr.mono (by decide)) (by rfl) bL cB gm .nil c9 (ab (pv 4) ai)) ak (bt _)))))))),HA h⟩
theorem uy {f:Addr} {fd:FuncData} (F:Fun K "picture_of" "picture_of" cc f fd) (T:Txt K mg) {fB:Addr} {u4:FuncData} (rh:FnOk P w K mg base CX0 1 fB u4 ["pairs"] (ll K)) (fH:mg "row_of" = some (.ref fB)) (iC:W.keepIn K (.ref fB) = true) (rG:Binds K u4 ["pairs"] []):FnOk P w K mg base CX0 2 f fd ["stretches"] (fj K):=by
 refine F.ok lX (fun vs H Q E h=>h.1) (fun cdv A outer s H vs Q E hr h=>?_)
 have nd:=(lX).nd
 exact ⟨_,ap (a6 (i:=1) nd rfl (.inl rfl) (dA ai)) (ap (dB Pa rfl (bu (bf ji (by rfl) T.sorted kX (ab (cz (show CmpOk ["stretches", "pairs_by_row", "y", "a", "b"] (am cc) _ ["y", "a", "b"] [none,none,none] from eF) (bu (pv 0)) (fun _=>cF rfl (az (av (i:=0) (show List.Nodup (["y", "a", "b"]:List Str) from by decide +kernel) rfl (.inl rfl)) (az (av (i:=1) (show List.Nodup (["y", "a", "b"]:List Str) from by decide +kernel) rfl (.inl rfl)) (az (av (i:=2) (show List.Nodup (["y", "a", "b"]:List Str) from by decide +kernel) rfl (.inl rfl)) bz)))) (e9 (aM aP (aM aP (aM aP dq aE) aE) aE)) (fun _=>g9 (bq Fd (pv 1) (pv 2) (bt _))) (fun _=>aR (ab (pv 0) (ab (pv 1) (ab (pv 2) ai))))) ai))) (cF rfl (az (av (i:=2) nd rfl (.inl rfl)) (az (av (i:=3) nd rfl (.inl rfl)) (az (av (i:=4) nd rfl (.inl rfl)) bz)))) (ap (jT (PW.pt (za (A3 (gG (pv 1) (fun _=>rfl))) (xl (bq (xf hr.units) (cv bo (cv bo (pv 1) (eG cV ak) (fun _ _=>rfl)) ak (fun _ _=>rfl)) (pv 2) (bt _))))) (aA (cM (gF Pl PZ P0 cU (pv 1) (ab (aR (ab (pv 2) (ab (dA ai) ai))) ai)))) fh) (aA (cM (gF Pl PZ P0 cU (cv bo (cv bo (pv 1) (eG cV ak) (fun _ _=>rfl)) ak (fun _ _=>rfl)) (ab (aR (ab (pv 3) (ab (pv 4) ai))) ai)))))) (aA (bG (eV fc (by rfl) T.tuple kl (ab (cz (show CmpOk ["stretches", "pairs_by_row", "y", "a", "b"] (am cc) _ ["y", "pairs"] [none,none] from eF) (bu (pv 1)) (fun _=>cF rfl (az (av (i:=0) (show List.Nodup (["y", "pairs"]:List Str) from by decide +kernel) rfl (.inl rfl)) (az (av (i:=1) (show List.Nodup (["y", "pairs"]:List Str) from by decide +kernel) rfl (.inl rfl)) bz))) (e9 (aM aP (aM aP dq aE) aE)) (fun _=>fg) (fun _=>aR (ab (pv 0) (ab (bm rh (hr.mono (by decide)) (by rfl) fH iC rG .nil c9 (ab (pv 1) ai)) ai)))) ai))))),uE h⟩
theorem Dp {f:Addr} {fd:FuncData} (F:Fun K "_law_taken" "_law_taken" iP f fd) (T:Txt K mg) {gW:Addr} {ye:FuncData} (wd:FnOk P w K mg base CX0 2 gW ye ["_law_there", "_law_dx", "_law_dy", "_law_ends"] (nK K)) (wV:mg "_law_pass" = some (.ref gW)) (k8:W.keepIn K (.ref gW) = true) (wv:Binds K ye ["_law_there", "_law_dx", "_law_dy", "_law_ends"] []):FnOk P w K mg base CX0 3 f fd ["_law_spots_here", "_law_ends"] (lj K):=by
 refine F.ok vS (fun vs H Q E h=>h.1) (fun cdv A outer s H vs Q E hr h=>?_)
 have nd:=(vS).nd
 exact ⟨_,ap (a6 (i:=2) nd rfl (.inl rfl) Ff) (ap (dB Pa rfl (bu (pv 0)) (av (i:=3) nd rfl (.inl rfl)) (aA (Hy (un1 hr.units) (pv 2) (pv 3) B3 (by rfl)))) (ap (a6 (i:=4) nd rfl (.inl rfl) (dA ai)) (ap (dB Pa rfl (oZ (by rfl) T.range (ab (aL a9 ak (bf cQ (by rfl) T.len ie (ab (pv 0) ai))) ai)) (av (i:=5) nd rfl (.inl rfl)) (ap (a6 (i:=6) nd rfl (.inl rfl) (bf cQ (by rfl) T.len ie (ab (pv 4) ai))) (ap (dB Pa rfl (bu (dA (ab (aR (ab ak (ab (eG cV ak) ai))) (ab (aR (ab (eG cV ak) (ab ak ai))) (ab (aR (ab ak (ab ak ai))) (ab (aR (ab ak (ab ak ai))) ai)))))) (cF rfl (az (av (i:=7) nd rfl (.inl rfl)) (az (av (i:=8) nd rfl (.inl rfl)) bz))) (aA (a6 (i:=4) nd rfl (.inl rfl) (aL a9 (pv 4) (bm wd (hr.mono (by decide)) (by rfl) wV k8 wv .nil c9 (ab (pv 2) (ab (pv 7) (ab (pv 8) (ab (pv 1) ai))))))))) (aA (jT (bq (fP hr.units) (bf cQ (by rfl) T.len ie (ab (pv 4) ai)) (pv 6) (bt _)) (aA (bG (aR (ab (eV (Ae rfl) (by rfl) T.list BF (ab (pv 2) ai)) (ab (pv 4) ai))))) fh))))) (aA (bG (Fg)))))),DD h⟩
theorem yT {f:Addr} {fd:FuncData} (F:Fun K "cells_of" "cells_of" dS f fd) (T:Txt K mg) {bH:Addr} {ku:FuncData} (hX:FnOk P w K mg base CX0 2 bH ku ["picture"] (eB K)) (ci:mg "count_cells" = some (.ref bH)) (cS:W.keepIn K (.ref bH) = true) (ic:Binds K ku ["picture"] []) {bx:Addr} {jP:FuncData} (gf:FnOk P w K mg base CX0 1 bx jP ["picture"] (dM K)) (bM:mg "stretches_of" = some (.ref bx)) (cD:W.keepIn K (.ref bx) = true) (gn:Binds K jP ["picture"] []):FnOk P w K mg base CX0 3 f fd ["picture"] (hU K):=by
 refine F.ok pN (fun vs H Q E h=>h.1) (fun cdv A outer s H vs Q E hr h=>?_)
 have nd:=(pN).nd
 exact ⟨_,ap (jT (bq B1 (bm hX (hr.mono (by decide)) (by rfl) ci cS ic .nil c9 (ab (pv 0) ai)) (B5 (v:=.int (1000)) (by rfl) T.MOST_CELLS.choose_spec ⟨_,rfl⟩) (bt _)) (aA (Fu)) fh) (ap (a6 (i:=1) nd rfl (.inl rfl) (dA ai)) (ap (dB Pa rfl (bu (bm gf (hr.mono (by decide)) (by rfl) bM cD gn .nil c9 (ab (pv 0) ai))) (cF rfl (az (av (i:=2) nd rfl (.inr rfl)) (az (av (i:=3) nd rfl (.inl rfl)) (az (av (i:=4) nd rfl (.inl rfl)) bz)))) (aA (cM (gF Pl RN RP qT (pv 1) (ab (cz (show CmpOk ["picture", "cells", "y", "a", "b"] (am dS) _ ["x", "y"] [none,some 2] from eF) (Ds (by rfl) T.range (ab (pv 3) (ab (aL a9 (pv 4) ak) ai))) (fun _=>av (i:=0) (show List.Nodup (["x", "y"]:List Str) from by decide +kernel) rfl (.inl rfl)) aP (fun _=>fg) (fun _=>aR (ab (pv 0) (ab (pv 1) ai)))) ai))))) (aA (bG (pv 1))))),zf h⟩
theorem xc {f:Addr} {fd:FuncData} (F:Fun K "take_pass" "take_pass" d9 f fd) (T:Txt K mg) {kt:Addr} {BM:FuncData} (zV:FnOk P w K mg base CX0 2 kt BM ["kept", "x", "y", "ends"] (qX K)) (jv:mg "goes" = some (.ref kt)) (oG:W.keepIn K (.ref kt) = true) (Aa:Binds K BM ["kept", "x", "y", "ends"] []):FnOk P w K mg base CX0 3 f fd ["kept", "free", "ends"] (f7 K):=by
 refine F.ok nI (fun vs H Q E h=>h.1) (fun cdv A outer s H vs Q E hr h=>?_)
 have nd:=(nI).nd
 exact ⟨_,ap (a6 (i:=3) nd rfl (.inl rfl) (dA ai)) (ap (dB Pa rfl (bu (pv 1)) (av (i:=4) nd rfl (.inl rfl)) (aA (jT (gG (nD 0 (bm zV (hr.mono (by decide)) (by rfl) jv oG Aa .nil c9 (ab (pv 0) (ab (cv bo (pv 4) ak (fun _ _=>rfl)) (ab (cv bo (pv 4) ak (fun _ _=>rfl)) (ab (pv 2) ai)))))) (fun _=>rfl)) (ap (cM (gF PySem.F.plainAttrs_dict PySem.F.slot_dict_pop PySem.F.type_dict_pop (BW (Cg hr.units)) (pv 0) (ab (pv 4) ai))) (aA (cM (gF Pl PZ P0 cU (pv 3) (ab (pv 4) ai))))) fh))) (aA (bG (pv 3)))),xn h⟩
theorem uz {f:Addr} {fd:FuncData} (F:Fun K "take_round" "take_round" dn f fd) (T:Txt K mg) {cI:Addr} {nc:FuncData} (j9:FnOk P w K mg base CX0 3 cI nc ["kept", "free", "ends"] (f7 K)) (kD:mg "take_pass" = some (.ref cI)) (d7:W.keepIn K (.ref cI) = true) (kj:Binds K nc ["kept", "free", "ends"] []) {bV:Addr} {lM:FuncData} (iX:FnOk P w K mg base CX0 1 bV lM ["kept", "dx", "dy"] (fi K)) (bj:mg "free_cells" = some (.ref bV)) (dh:W.keepIn K (.ref bV) = true) (jf:Binds K lM ["kept", "dx", "dy"] []):FnOk P w K mg base CX0 4 f fd ["kept", "ends"] (fk K):=by
 refine F.ok lY (fun vs H Q E h=>h.1) (fun cdv A outer s H vs Q E hr h=>?_)
 have nd:=(lY).nd
 exact ⟨_,ap (a6 (i:=2) nd rfl (.inl rfl) (dA ai)) (ap (dB Pa rfl (bu (nB (by rfl) T.SIDES.choose_spec.choose_spec.1 T.SIDES.choose_spec.choose_spec.2.1 T.SIDES.choose_spec.choose_spec.2.2)) (cF rfl (az (av (i:=3) nd rfl (.inl rfl)) (az (av (i:=4) nd rfl (.inl rfl)) bz))) (aA (cM (gF Pl RN RP qT (pv 2) (ab (bm j9 (hr.mono (by decide)) (by rfl) kD d7 kj .nil c9 (ab (pv 0) (ab (nD 0 (bm iX (hr.mono (by decide)) (by rfl) bj dh jf .nil c9 (ab (pv 0) (ab (pv 3) (ab (pv 4) ai))))) (ab (pv 1) ai)))) ai))))) (aA (bG (pv 2)))),uF h⟩
theorem AS {f td:Addr} {fd:FuncData} (F:FunD K "thinned" "thinned" bB td f fd) (T:Txt K mg) {c7:Addr} {pD:FuncData} (l7:FnOk P w K mg base CX0 3 c7 pD ["picture"] (hU K)) (cg:mg "cells_of" = some (.ref c7)) (eO:W.keepIn K (.ref c7) = true) (mh:Binds K pD ["picture"] []) {bX:Addr} {lO:FuncData} (iZ:FnOk P w K mg base CX0 4 bX lO ["kept", "ends"] (fk K)) (jw:mg "take_round" = some (.ref bX)) (dl:W.keepIn K (.ref bX) = true) (jh:Binds K lO ["kept", "ends"] []) {bW:Addr} {lN:FuncData} (iY:FnOk P w K mg base CX0 2 bW lN ["stretches"] (fj K)) (b9:mg "picture_of" = some (.ref bW)) (di:W.keepIn K (.ref bW) = true) (jg:Binds K lN ["stretches"] []):FnOk P w K mg base CX0 5 f fd ["picture", "ends"] (jH K):=by
 refine F.ok tH (fun vs H Q E h=>h.1) (fun cdv A outer s H vs Q E hr h=>?_)
 have nd:=(tH).nd
 exact ⟨_,ap (a6 (i:=2) nd rfl (.inl rfl) (eV (Ad (HD hr.units) rfl) (by rfl) T.dict GN (ab (cz (show CmpOk ["picture", "ends", "kept", "taken", "taken_before"] (am bB) _ ["cell"] [none] from eF) (bu (bm l7 (hr.mono (by decide)) (by rfl) cg eO mh .nil c9 (ab (pv 0) ai))) (fun _=>av (i:=0) (show List.Nodup (["cell"]:List Str) from by decide +kernel) rfl (.inl rfl)) aP (fun _=>fg) (fun _=>aR (ab (pv 0) (ab B3 ai)))) ai))) (ap (a6 (i:=3) nd rfl (.inl rfl) (dA ai)) (ap (a6 (i:=4) nd rfl (.inl rfl) (eG cV ak)) (ap (Fv Pa (bq B1 (bf cQ (by rfl) T.len ie (ab (pv 3) ai)) (pv 4) (bt _)) (ap (a6 (i:=4) nd rfl (.inl rfl) (bf cQ (by rfl) T.len ie (ab (pv 3) ai))) (aA (cM (gF Pl RN RP qT (pv 3) (ab (bm iZ (hr.mono (by decide)) (by rfl) jw dl jh .nil c9 (ab (pv 2) (ab (pv 1) ai))) ai)))))) (aA (bG (aR (ab (bm iY (hr.mono (by decide)) (by rfl) b9 di jg .nil c9 (ab (nD 2 (cz (show CmpOk ["picture", "ends", "kept", "taken", "taken_before"] (am bB) _ ["x", "y"] [none,none] from eF) (AZ (pv 2)) (fun _=>cF rfl (az (av (i:=0) (show List.Nodup (["x", "y"]:List Str) from by decide +kernel) rfl (.inl rfl)) (az (av (i:=1) (show List.Nodup (["x", "y"]:List Str) from by decide +kernel) rfl (.inl rfl)) bz))) (e9 (aM aP (aM aP dq aE) aE)) (fun _=>fg) (fun _=>aR (ab (pv 1) (ab (pv 0) (ab (pv 0) ai)))))) ai)) (ab (pv 3) ai)))))))),A7 h⟩
theorem Jz {f:Addr} {fd:FuncData} (F:Fun K "law" "law" lU f fd) (T:Txt K mg) {bD:Addr} {fD:FuncData} (c0:FnOk P w K mg base CX0 1 bD fD ["_law_script", "_law_k"] (fM K)) (aQ:mg "_law_cell_at" = some (.ref bD)) (bK:W.keepIn K (.ref bD) = true) (c5:Binds K fD ["_law_script", "_law_k"] []) {fw:Addr} {uZ:FuncData} (re:FnOk P w K mg base CX0 2 fw uZ ["_law_script"] (lh K)) (iG:mg "_law_spots" = some (.ref fw)) (iA:W.keepIn K (.ref fw) = true) (rE:Binds K uZ ["_law_script"] []) {fA:Addr} {u0:FuncData} (rg:FnOk P w K mg base CX0 3 fA u0 ["_law_spots_here", "_law_ends"] (lj K)) (gz:mg "_law_taken" = some (.ref fA)) (iB:W.keepIn K (.ref fA) = true) (rF:Binds K u0 ["_law_spots_here", "_law_ends"] []) {dg:Addr} {mw:FuncData} (nX:FnOk P w K mg base CX0 5 dg mw ["picture", "ends"] (jH K)) (eT:mg "thinned" = some (.ref dg)) (iE:W.keepIn K (.ref dg) = true) (n9:Binds K mw ["picture", "ends"] []) (rJ:Binds K mw ["picture", "ends"] [.bool true]) {c6:Addr} {pB:FuncData} (iW:FnOk P w K mg base CX0 1 c6 pB ["_law_spots_here"] (hJ K)) (c8:mg "_law_picture" = some (.ref c6)) (dQ:W.keepIn K (.ref c6) = true) (je:Binds K pB ["_law_spots_here"] []):FnOk P w K mg base CX0 6 f fd ["_law_script"] (tN K):=by
 refine F.ok FX (fun vs H Q E h=>h.1) (fun cdv A outer s H vs Q E hr h=>?_)
 have nd:=(FX).nd
 exact ⟨_,ap (a6 (i:=1) nd rfl (.inl rfl) (jB (fP hr.units) (aL fQ (aL g8 (bm c0 (hr.mono (by decide)) (by rfl) aQ bK c5 .nil c9 (ab (pv 0) (ab ak ai))) ak) ak) ak (bt _))) (ap (a6 (i:=2) nd rfl (.inr rfl) (aL oX (aL fQ (aL g8 (bm c0 (hr.mono (by decide)) (by rfl) aQ bK c5 .nil c9 (ab (pv 0) (ab ak ai))) ak) ak) (aL fQ (bm c0 (hr.mono (by decide)) (by rfl) aQ bK c5 .nil c9 (ab (pv 0) (ab ak ai))) (aL JB ak ak)))) (ap (Ca (i:=3) (hN:=nd) (hi0:=rfl) (hx:=Or.inl rfl) (ck:=(show CmpOk ["_law_script", "_law_ends", "_law_far", "_law_spots_here", "_law_due", "_law_found"] (am lU) _ ["_law_x", "_law_y", "_law_far"] [none,none,some 2] from eF)) (hi:=bu (bm re (hr.mono (by decide)) (by rfl) iG iA rE .nil c9 (ab (pv 0) ai))) (hg:=fun _=>cF rfl (az (av (i:=0) (show List.Nodup (["_law_x", "_law_y", "_law_far"]:List Str) from by decide +kernel) rfl (.inl rfl)) (az (av (i:=1) (show List.Nodup (["_law_x", "_law_y", "_law_far"]:List Str) from by decide +kernel) rfl (.inl rfl)) bz))) (hs:=e9 (aM aP (aM aP dq aE) aE)) (ht:=fun _=>fg) (he:=fun _=>aR (ab (aL a9 (pv 0) (pv 2)) (ab (aL xg (pv 1) (pv 2)) ai)))) (ap (a6 (i:=4) nd rfl (.inl rfl) (bm rg (hr.mono (by decide)) (by rfl) gz iB rF .nil c9 (ab (pv 3) (ab (pv 1) ai)))) (ap (a6 (i:=5) nd rfl (.inl rfl) (bm nX (hr.mono (by decide)) (by rfl) eT iE n9 .nil c9 (ab (bm iW (hr.mono (by decide)) (by rfl) c8 dQ je .nil c9 (ab (pv 3) ai)) (ab (pv 1) ai)))) (ap (jT (PW.pt (za (A3 (gG (bf uT (by rfl) T.isinstance lG (ab (pv 5) (ab (B4 (v:=.ty "tuple") (by rfl) T.tuple kl rfl) ai))) (fun _=>rfl))) (za (bq (xf hr.units) (bf cQ (by rfl) T.len ie (ab (pv 5) ai)) ak (bt _)) (xl (A3 (gG (bf uT (by rfl) T.isinstance lG (ab (cv bo (pv 5) ak (fun _ _=>rfl)) (ab (B4 (v:=.ty "list") (by rfl) T.list BF rfl) ai))) (fun _=>rfl))))))) (aA (bG B3)) fh) (aA (bG (AX (jB Ht (pv 4) (Fg) (bt _)) (AX (jB (fP hr.units) (cv bo (pv 5) ak (fun _ _=>rfl)) (cv bo (pv 4) ak (fun _ _=>rfl)) (bt _)) (AY (jB (fP hr.units) (cv bo (pv 5) ak (fun _ _=>rfl)) (bm iW (hr.mono (by decide)) (by rfl) c8 dQ je .nil c9 (ab (cv bo (pv 4) ak (fun _ _=>rfl)) ai)) (bt _)))))))))))),JM h⟩
end
theorem usS {us:List Value} {n:Nat} (h:us.length = n + 1):∃ a v,us = a :: v /\ v.length = n:=by
 cases us with
 | nil=>cases h
 | cons a v=>exact ⟨a,v,rfl,Nat.succ.inj h⟩
theorem us1 {us:List Value} (h:us.length = 1):∃ a0,us = [a0]:=by
 obtain ⟨a0,v0,rfl,h0⟩:=usS h
 cases v0 with
 | nil=>exact ⟨a0,rfl⟩
 | cons a v=>cases h0
theorem us2 {us:List Value} (h:us.length = 2):∃ a0 a1,us = [a0,a1]:=by
 obtain ⟨a0,v0,rfl,h0⟩:=usS h
 obtain ⟨a1,v1,rfl,h1⟩:=usS h0
 cases v1 with
 | nil=>exact ⟨a0,a1,rfl⟩
 | cons a v=>cases h1
theorem us3 {us:List Value} (h:us.length = 3):∃ a0 a1 a2,us = [a0,a1,a2]:=by
 obtain ⟨a0,v0,rfl,h0⟩:=usS h
 obtain ⟨a1,v1,rfl,h1⟩:=usS h0
 obtain ⟨a2,v2,rfl,h2⟩:=usS h1
 cases v2 with
 | nil=>exact ⟨a0,a1,a2,rfl⟩
 | cons a v=>cases h2
theorem us4 {us:List Value} (h:us.length = 4):∃ a0 a1 a2 a3,us = [a0,a1,a2,a3]:=by
 obtain ⟨a0,v0,rfl,h0⟩:=usS h
 obtain ⟨a1,v1,rfl,h1⟩:=usS h0
 obtain ⟨a2,v2,rfl,h2⟩:=usS h1
 obtain ⟨a3,v3,rfl,h3⟩:=usS h2
 cases v3 with
 | nil=>exact ⟨a0,a1,a2,a3,rfl⟩
 | cons a v=>cases h3
theorem IX {l:W.OpenLaw} {w:World} {K:W.Frag} {h:Heap} {mg:Str -> Option Value} {fa:Addr} (X:K.In h) (G:h.Ns mainGlobals mg) (hfa:mg "law" = some (.ref fa))
  {fB:Addr} {Dk CD:Option Addr} {DJ:Array (Option Value)} {Dh C6 CS Dw uX CN:Value}
  {cH:Addr} {wY wn:Option Addr} {xq:Array (Option Value)} {wW wO wD xj mX wB:Value}
  {bW:Addr} {uv tY:Option Addr} {uH:Array (Option Value)} {uo uh uc uB lI t8:Value}
  {bx:Addr} {qD pT:Option Addr} {qM:Array (Option Value)} {qB qf pY qH jN pV:Value}
  {bH:Addr} {sR rB:Option Addr} {tJ:Array (Option Value)} {sQ ss rP tj km rO:Value}
  {c7:Addr} {yP xJ:Option Addr} {zz:Array (Option Value)} {yM yw x8 y9 pk xY:Value}
  {gX:Addr} {Fa D8:Option Addr} {F4:Array (Option Value)} {E8 EO Ei Fq xQ Ef:Value}
  {bw:Addr} {qC pS:Option Addr} {qL:Array (Option Value)} {qA p9 pW qG jM pU:Value}
  {dg:Addr} {AQ mf:Option Addr} {Bg:Array (Option Value)} {AN mB mo mM jj mm:Value}
  {gq:Addr} {dc_thinned_:Value} {Al:Option Addr} {Ao:Nat} {Ap:Array (Option Value)}
  {bX:Addr} {uw tZ:Option Addr} {uI:Array (Option Value)} {uq ui ud uC lJ t9:Value}
  {bV:Addr} {uu tX:Option Addr} {uG:Array (Option Value)} {um ug ub uA lH t7:Value}
  {cI:Addr} {wZ wo:Option Addr} {xr:Array (Option Value)} {wX wP wE xk mY wC:Value}
  {kt:Addr} {Hm GK:Option Addr} {HQ:Array (Option Value)} {Hl Ha GW Hx BG GQ:Value}
  {bD:Addr} {yN xH:Option Addr} {zv:Array (Option Value)} {yK yu x5 y7 pi xW:Value}
  {fw:Addr} {Di CB:Option Addr} {DH:Array (Option Value)} {Df C4 CP Du uV CL:Value}
  {c6:Addr} {yO xI:Option Addr} {zw:Array (Option Value)} {yL yv x6 y8 pj xX:Value}
  {dY:Addr} {AO z8:Option Addr} {Bf:Array (Option Value)} {AM AC Ak A1 rL Ai:Value}
  {gW:Addr} {E9 D6:Option Addr} {F3:Array (Option Value)} {E7 EM Eg Fo xP Ed:Value}
  {fA:Addr} {Dj CC:Option Addr} {DI:Array (Option Value)} {Dg C5 CQ Dv uW CM:Value}
  {Ev:Addr} {Jy D7:Option Addr} {J6:Array (Option Value)} {Jx EN Eh Fp Ag Ee:Value}
  {t_MOST_CELLS:Tok}
  {g_ROUND_0:Addr} {od_ROUND_0:Option Addr} {n_ROUND_0:Nat} {sl_ROUND_0:Array (Option Value)}
  {g_ROUND_1:Addr} {od_ROUND_1:Option Addr} {n_ROUND_1:Nat} {sl_ROUND_1:Array (Option Value)}
  {t_ROUND_1_0:Tok}
  {t_ROUND_1_1:Tok}
  {t_ROUND_1_2:Tok}
  {g_ROUND_2:Addr} {od_ROUND_2:Option Addr} {n_ROUND_2:Nat} {sl_ROUND_2:Array (Option Value)}
  {t_ROUND_2_0:Tok}
  {t_ROUND_2_1:Tok}
  {t_ROUND_2_2:Tok}
  {g_ROUND_3:Addr} {od_ROUND_3:Option Addr} {n_ROUND_3:Nat} {sl_ROUND_3:Array (Option Value)}
  {t_ROUND_3_0:Tok}
  {t_ROUND_3_1:Tok}
  {t_ROUND_3_2:Tok}
  {g_ROUND_4:Addr} {od_ROUND_4:Option Addr} {n_ROUND_4:Nat} {sl_ROUND_4:Array (Option Value)}
  {t_ROUND_4_0:Tok}
  {t_ROUND_4_1:Tok}
  {t_ROUND_4_2:Tok}
  {g_ROUND_5:Addr} {od_ROUND_5:Option Addr} {n_ROUND_5:Nat} {sl_ROUND_5:Array (Option Value)}
  {t_ROUND_5_0:Tok}
  {t_ROUND_5_1:Tok}
  {t_ROUND_5_2:Tok}
  {g_ROUND_6:Addr} {od_ROUND_6:Option Addr} {n_ROUND_6:Nat} {sl_ROUND_6:Array (Option Value)}
  {t_ROUND_6_0:Tok}
  {t_ROUND_6_1:Tok}
  {t_ROUND_6_2:Tok}
  {g_ROUND_7:Addr} {od_ROUND_7:Option Addr} {n_ROUND_7:Nat} {sl_ROUND_7:Array (Option Value)}
  {t_ROUND_7_0:Tok}
  {t_ROUND_7_1:Tok}
  {t_ROUND_7_2:Tok}
  {g_ROUND_8:Addr} {od_ROUND_8:Option Addr} {n_ROUND_8:Nat} {sl_ROUND_8:Array (Option Value)}
  {t_ROUND_8_0:Tok}
  {t_ROUND_8_1:Tok}
  {t_ROUND_8_2:Tok}
  {g_SIDES_0:Addr} {od_SIDES_0:Option Addr} {n_SIDES_0:Nat} {sl_SIDES_0:Array (Option Value)}
  {g_SIDES_1:Addr} {od_SIDES_1:Option Addr} {n_SIDES_1:Nat} {sl_SIDES_1:Array (Option Value)}
  {t_SIDES_1_0:Tok}
  {t_SIDES_1_1:Tok}
  {g_SIDES_2:Addr} {od_SIDES_2:Option Addr} {n_SIDES_2:Nat} {sl_SIDES_2:Array (Option Value)}
  {t_SIDES_2_0:Tok}
  {t_SIDES_2_1:Tok}
  {g_SIDES_3:Addr} {od_SIDES_3:Option Addr} {n_SIDES_3:Nat} {sl_SIDES_3:Array (Option Value)}
  {t_SIDES_3_0:Tok}
  {t_SIDES_3_1:Tok}
  {g_SIDES_4:Addr} {od_SIDES_4:Option Addr} {n_SIDES_4:Nat} {sl_SIDES_4:Array (Option Value)}
  {t_SIDES_4_0:Tok}
  {t_SIDES_4_1:Tok}
  {g_STRAIGHT_0:Addr} {od_STRAIGHT_0:Option Addr} {n_STRAIGHT_0:Nat} {sl_STRAIGHT_0:Array (Option Value)}
  {t_STRAIGHT_0_0:Tok}
  {t_STRAIGHT_0_1:Tok}
  {t_STRAIGHT_0_2:Tok}
  {t_STRAIGHT_0_3:Tok}
  (rq:W.nsIn K mainGlobals "row_of" = some (some (.ref fB))) (sE:K.lookup fB = some ⟨Dh,Dk,.func (W.fnOf "row_of" "row_of" (aZ gJ) (aV gJ) (am gJ) .none C6 CS Dw CD uX CN),DJ⟩) (rX:W.codeIn K uX "row_of" = true) (iC:W.keepIn K (.ref fB) = true)
  (kf:W.nsIn K mainGlobals "row_count" = some (some (.ref cH))) (kA:K.lookup cH = some ⟨wW,wY,.func (W.fnOf "row_count" "row_count" (aZ df) (aV df) (am df) .none wO wD xj wn mX wB),xq⟩) (ko:W.codeIn K mX "row_count" = true) (d6:W.keepIn K (.ref cH) = true)
  (ja:W.nsIn K mainGlobals "picture_of" = some (some (.ref bW))) (jt:K.lookup bW = some ⟨uo,uv,.func (W.fnOf "picture_of" "picture_of" (aZ cc) (aV cc) (am cc) .none uh uc uB tY lI t8),uH⟩) (jo:W.codeIn K lI "picture_of" = true) (di:W.keepIn K (.ref bW) = true)
  (gk:W.nsIn K mainGlobals "stretches_of" = some (some (.ref bx))) (gx:K.lookup bx = some ⟨qB,qD,.func (W.fnOf "stretches_of" "stretches_of" (aZ bO) (aV bO) (am bO) .none qf pY qH pT jN pV),qM⟩) (gv:W.codeIn K jN "stretches_of" = true) (cD:W.keepIn K (.ref bx) = true)
  (h9:W.nsIn K mainGlobals "count_cells" = some (some (.ref bH))) (ij:K.lookup bH = some ⟨sQ,sR,.func (W.fnOf "count_cells" "count_cells" (aZ cj) (aV cj) (am cj) .none ss rP tj rB km rO),tJ⟩) (ig:W.codeIn K km "count_cells" = true) (cS:W.keepIn K (.ref bH) = true)
  (me:W.nsIn K mainGlobals "cells_of" = some (some (.ref c7))) (mF:K.lookup c7 = some ⟨yM,yP,.func (W.fnOf "cells_of" "cells_of" (aZ dS) (aV dS) (am dS) .none yw x8 y9 xJ pk xY),zz⟩) (mv:W.codeIn K pk "cells_of" = true) (eO:W.keepIn K (.ref c7) = true)
  (wl:W.nsIn K mainGlobals "turns" = some (some (.ref gX))) (wS:K.lookup gX = some ⟨E8,Fa,.func (W.fnOf "turns" "turns" (aZ jF) (aV jF) (am jF) .none EO Ei Fq D8 xQ Ef),F4⟩) (wI:W.codeIn K xQ "turns" = true) (k9:W.keepIn K (.ref gX) = true)
  (gj:W.nsIn K mainGlobals "count_around" = some (some (.ref bw))) (gw:K.lookup bw = some ⟨qA,qC,.func (W.fnOf "count_around" "count_around" (aZ bN) (aV bN) (am bN) .none p9 pW qG pS jM pU),qL⟩) (gu:W.codeIn K jM "count_around" = true) (cB:W.keepIn K (.ref bw) = true)
  (nZ:W.nsIn K mainGlobals "thinned" = some (some (.ref dg))) (oJ:K.lookup dg = some ⟨AN,AQ,.func (W.fnOf "thinned" "thinned" (aZ bB) (aV bB) (am bB) (.ref gq) mB mo mM mf jj mm),Bg⟩) (oo:W.codeIn K jj "thinned" = true) (iE:W.keepIn K (.ref dg) = true)
  (jm:K.lookup gq = some ⟨dc_thinned_,Al,.seq #[.bool true] Ao,Ap⟩)
  (jb:W.nsIn K mainGlobals "take_round" = some (some (.ref bX))) (ju:K.lookup bX = some ⟨uq,uw,.func (W.fnOf "take_round" "take_round" (aZ dn) (aV dn) (am dn) .none ui ud uC tZ lJ t9),uI⟩) (jq:W.codeIn K lJ "take_round" = true) (dl:W.keepIn K (.ref bX) = true)
  (i9:W.nsIn K mainGlobals "free_cells" = some (some (.ref bV))) (jr:K.lookup bV = some ⟨um,uu,.func (W.fnOf "free_cells" "free_cells" (aZ cO) (aV cO) (am cO) .none ug ub uA tX lH t7),uG⟩) (jn:W.codeIn K lH "free_cells" = true) (dh:W.keepIn K (.ref bV) = true)
  (kg:W.nsIn K mainGlobals "take_pass" = some (some (.ref cI))) (kB:K.lookup cI = some ⟨wX,wZ,.func (W.fnOf "take_pass" "take_pass" (aZ d9) (aV d9) (am d9) .none wP wE xk wo mY wC),xr⟩) (kr:W.codeIn K mY "take_pass" = true) (d7:W.keepIn K (.ref cI) = true)
  (zY:W.nsIn K mainGlobals "goes" = some (some (.ref kt))) (AF:K.lookup kt = some ⟨Hl,Hm,.func (W.fnOf "goes" "goes" (aZ mO) (aV mO) (am mO) .none Ha GW Hx GK BG GQ),HQ⟩) (Aq:W.codeIn K BG "goes" = true) (oG:W.keepIn K (.ref kt) = true)
  (ma:W.nsIn K mainGlobals "_law_cell_at" = some (some (.ref bD))) (mD:K.lookup bD = some ⟨yK,yN,.func (W.fnOf "_law_cell_at" "_law_cell_at" (aZ eX) (aV eX) (am eX) .none yu x5 y7 xH pi xW),zv⟩) (mr:W.codeIn K pi "_law_cell_at" = true) (bK:W.keepIn K (.ref bD) = true)
  (rn:W.nsIn K mainGlobals "_law_spots" = some (some (.ref fw))) (sC:K.lookup fw = some ⟨Df,Di,.func (W.fnOf "_law_spots" "_law_spots" (aZ iM) (aV iM) (am iM) .none C4 CP Du CB uV CL),DH⟩) (rT:W.codeIn K uV "_law_spots" = true) (iA:W.keepIn K (.ref fw) = true)
  (md:W.nsIn K mainGlobals "_law_picture" = some (some (.ref c6))) (mE:K.lookup c6 = some ⟨yL,yO,.func (W.fnOf "_law_picture" "_law_picture" (aZ de) (aV de) (am de) .none yv x6 y8 xI pj xX),zw⟩) (mt:W.codeIn K pj "_law_picture" = true) (dQ:W.keepIn K (.ref c6) = true)
  (nY:W.nsIn K mainGlobals "_law_may_go" = some (some (.ref dY))) (oI:K.lookup dY = some ⟨AM,AO,.func (W.fnOf "_law_may_go" "_law_may_go" (aZ eY) (aV eY) (am eY) .none AC Ak A1 z8 rL Ai),Bf⟩) (oj:W.codeIn K rL "_law_may_go" = true) (f9:W.keepIn K (.ref dY) = true)
  (wj:W.nsIn K mainGlobals "_law_pass" = some (some (.ref gW))) (wR:K.lookup gW = some ⟨E7,E9,.func (W.fnOf "_law_pass" "_law_pass" (aZ jD) (aV jD) (am jD) .none EM Eg Fo D6 xP Ed),F3⟩) (wH:W.codeIn K xP "_law_pass" = true) (k8:W.keepIn K (.ref gW) = true)
  (rp:W.nsIn K mainGlobals "_law_taken" = some (some (.ref fA))) (sD:K.lookup fA = some ⟨Dg,Dj,.func (W.fnOf "_law_taken" "_law_taken" (aZ iP) (aV iP) (am iP) .none C5 CQ Dv CC uW CM),DI⟩) (rV:W.codeIn K uW "_law_taken" = true) (iB:W.keepIn K (.ref fA) = true)
  (D5:W.nsIn K mainGlobals "law" = some (some (.ref Ev))) (ES:K.lookup Ev = some ⟨Jx,Jy,.func (W.fnOf "law" "law" (aZ lU) (aV lU) (am lU) .none EN Eh Fp D7 Ag Ee),J6⟩) (Ep:W.codeIn K Ag "law" = true) (ER:W.keepIn K (.ref Ev) = true)
  (z_dict:W.nsIn K mainGlobals "dict" = some none)
  (z_int:W.nsIn K mainGlobals "int" = some none)
  (z_isinstance:W.nsIn K mainGlobals "isinstance" = some none)
  (z_len:W.nsIn K mainGlobals "len" = some none)
  (z_list:W.nsIn K mainGlobals "list" = some none)
  (z_max:W.nsIn K mainGlobals "max" = some none)
  (z_range:W.nsIn K mainGlobals "range" = some none)
  (z_set:W.nsIn K mainGlobals "set" = some none)
  (z_sorted:W.nsIn K mainGlobals "sorted" = some none)
  (z_sum:W.nsIn K mainGlobals "sum" = some none)
  (z_tuple:W.nsIn K mainGlobals "tuple" = some none)
  (y_MOST_CELLS:W.nsIn K mainGlobals "MOST_CELLS" = some (some (.int (1000) t_MOST_CELLS)))
  (y_ROUND:W.nsIn K mainGlobals "ROUND" = some (some (.ref g_ROUND_0)))
  (v_ROUND_0:K.lookup g_ROUND_0 = some ⟨.type "tuple",od_ROUND_0,.seq #[.ref g_ROUND_1,.ref g_ROUND_2,.ref g_ROUND_3,.ref g_ROUND_4,.ref g_ROUND_5,.ref g_ROUND_6,.ref g_ROUND_7,.ref g_ROUND_8] n_ROUND_0,sl_ROUND_0⟩)
  (v_ROUND_1:K.lookup g_ROUND_1 = some ⟨.type "tuple",od_ROUND_1,.seq #[.int (0) t_ROUND_1_0,.int (-1) t_ROUND_1_1,.int (1) t_ROUND_1_2] n_ROUND_1,sl_ROUND_1⟩)
  (v_ROUND_2:K.lookup g_ROUND_2 = some ⟨.type "tuple",od_ROUND_2,.seq #[.int (-1) t_ROUND_2_0,.int (-1) t_ROUND_2_1,.int (2) t_ROUND_2_2] n_ROUND_2,sl_ROUND_2⟩)
  (v_ROUND_3:K.lookup g_ROUND_3 = some ⟨.type "tuple",od_ROUND_3,.seq #[.int (-1) t_ROUND_3_0,.int (0) t_ROUND_3_1,.int (4) t_ROUND_3_2] n_ROUND_3,sl_ROUND_3⟩)
  (v_ROUND_4:K.lookup g_ROUND_4 = some ⟨.type "tuple",od_ROUND_4,.seq #[.int (-1) t_ROUND_4_0,.int (1) t_ROUND_4_1,.int (8) t_ROUND_4_2] n_ROUND_4,sl_ROUND_4⟩)
  (v_ROUND_5:K.lookup g_ROUND_5 = some ⟨.type "tuple",od_ROUND_5,.seq #[.int (0) t_ROUND_5_0,.int (1) t_ROUND_5_1,.int (16) t_ROUND_5_2] n_ROUND_5,sl_ROUND_5⟩)
  (v_ROUND_6:K.lookup g_ROUND_6 = some ⟨.type "tuple",od_ROUND_6,.seq #[.int (1) t_ROUND_6_0,.int (1) t_ROUND_6_1,.int (32) t_ROUND_6_2] n_ROUND_6,sl_ROUND_6⟩)
  (v_ROUND_7:K.lookup g_ROUND_7 = some ⟨.type "tuple",od_ROUND_7,.seq #[.int (1) t_ROUND_7_0,.int (0) t_ROUND_7_1,.int (64) t_ROUND_7_2] n_ROUND_7,sl_ROUND_7⟩)
  (v_ROUND_8:K.lookup g_ROUND_8 = some ⟨.type "tuple",od_ROUND_8,.seq #[.int (1) t_ROUND_8_0,.int (-1) t_ROUND_8_1,.int (128) t_ROUND_8_2] n_ROUND_8,sl_ROUND_8⟩)
  (y_SIDES:W.nsIn K mainGlobals "SIDES" = some (some (.ref g_SIDES_0)))
  (v_SIDES_0:K.lookup g_SIDES_0 = some ⟨.type "tuple",od_SIDES_0,.seq #[.ref g_SIDES_1,.ref g_SIDES_2,.ref g_SIDES_3,.ref g_SIDES_4] n_SIDES_0,sl_SIDES_0⟩)
  (v_SIDES_1:K.lookup g_SIDES_1 = some ⟨.type "tuple",od_SIDES_1,.seq #[.int (0) t_SIDES_1_0,.int (-1) t_SIDES_1_1] n_SIDES_1,sl_SIDES_1⟩)
  (v_SIDES_2:K.lookup g_SIDES_2 = some ⟨.type "tuple",od_SIDES_2,.seq #[.int (-1) t_SIDES_2_0,.int (0) t_SIDES_2_1] n_SIDES_2,sl_SIDES_2⟩)
  (v_SIDES_3:K.lookup g_SIDES_3 = some ⟨.type "tuple",od_SIDES_3,.seq #[.int (0) t_SIDES_3_0,.int (1) t_SIDES_3_1] n_SIDES_3,sl_SIDES_3⟩)
  (v_SIDES_4:K.lookup g_SIDES_4 = some ⟨.type "tuple",od_SIDES_4,.seq #[.int (1) t_SIDES_4_0,.int (0) t_SIDES_4_1] n_SIDES_4,sl_SIDES_4⟩)
  (y_STRAIGHT:W.nsIn K mainGlobals "STRAIGHT" = some (some (.ref g_STRAIGHT_0)))
  (v_STRAIGHT_0:K.lookup g_STRAIGHT_0 = some ⟨.type "tuple",od_STRAIGHT_0,.seq #[.int (1) t_STRAIGHT_0_0,.int (4) t_STRAIGHT_0_1,.int (16) t_STRAIGHT_0_2,.int (64) t_STRAIGHT_0_3] n_STRAIGHT_0,sl_STRAIGHT_0⟩)
  : ∃ fd:FuncData,(∀ (s:Shared) (v:Value),BindsTo s fd ⟨[v],[]⟩ [("_law_script",v)]) /\ ∀ base:Heap,K.In base -> base.Ns mainGlobals mg -> FnOk l.prog w K mg base CX0 6 fa fd ["_law_script"] (tN K):=by
 have e:=hfa.symm.trans (OS X G D5)
 cases e
 have T:Txt K mg:=⟨PB X G z_dict,PB X G z_int,PB X G z_isinstance,PB X G z_len,PB X G z_list,PB X G z_max,PB X G z_range,PB X G z_set,PB X G z_sorted,PB X G z_sum,PB X G z_tuple,⟨_,OS X G y_MOST_CELLS⟩,⟨_,.ref _,OS X G y_ROUND,rfl,fun S=>bJ (xs:=[.ref g_ROUND_1,.ref g_ROUND_2,.ref g_ROUND_3,.ref g_ROUND_4,.ref g_ROUND_5,.ref g_ROUND_6,.ref g_ROUND_7,.ref g_ROUND_8]) v_ROUND_0 rfl rfl (OD (show 8 <= 1000 by decide) (by rw [OJ];decide)) (.cons rfl (.cons rfl (.cons rfl (.cons rfl (.cons rfl (.cons rfl (.cons rfl (.cons rfl (.nil))))))))) (fun S=>Dens.cons (bJ (xs:=[.int (0),.int (-1),.int (1)]) v_ROUND_1 rfl rfl (OD (show 3 <= 1000 by decide) (by rw [OJ];decide)) (.cons ⟨_,rfl⟩ (.cons ⟨_,rfl⟩ (.cons ⟨_,rfl⟩ (.nil)))) (fun S=>Dens.cons (den_int.mpr rfl) (Dens.cons (den_int.mpr rfl) (Dens.cons (den_int.mpr rfl) (Dens.nil)))) S) (Dens.cons (bJ (xs:=[.int (-1),.int (-1),.int (2)]) v_ROUND_2 rfl rfl (OD (show 3 <= 1000 by decide) (by rw [OJ];decide)) (.cons ⟨_,rfl⟩ (.cons ⟨_,rfl⟩ (.cons ⟨_,rfl⟩ (.nil)))) (fun S=>Dens.cons (den_int.mpr rfl) (Dens.cons (den_int.mpr rfl) (Dens.cons (den_int.mpr rfl) (Dens.nil)))) S) (Dens.cons (bJ (xs:=[.int (-1),.int (0),.int (4)]) v_ROUND_3 rfl rfl (OD (show 3 <= 1000 by decide) (by rw [OJ];decide)) (.cons ⟨_,rfl⟩ (.cons ⟨_,rfl⟩ (.cons ⟨_,rfl⟩ (.nil)))) (fun S=>Dens.cons (den_int.mpr rfl) (Dens.cons (den_int.mpr rfl) (Dens.cons (den_int.mpr rfl) (Dens.nil)))) S) (Dens.cons (bJ (xs:=[.int (-1),.int (1),.int (8)]) v_ROUND_4 rfl rfl (OD (show 3 <= 1000 by decide) (by rw [OJ];decide)) (.cons ⟨_,rfl⟩ (.cons ⟨_,rfl⟩ (.cons ⟨_,rfl⟩ (.nil)))) (fun S=>Dens.cons (den_int.mpr rfl) (Dens.cons (den_int.mpr rfl) (Dens.cons (den_int.mpr rfl) (Dens.nil)))) S) (Dens.cons (bJ (xs:=[.int (0),.int (1),.int (16)]) v_ROUND_5 rfl rfl (OD (show 3 <= 1000 by decide) (by rw [OJ];decide)) (.cons ⟨_,rfl⟩ (.cons ⟨_,rfl⟩ (.cons ⟨_,rfl⟩ (.nil)))) (fun S=>Dens.cons (den_int.mpr rfl) (Dens.cons (den_int.mpr rfl) (Dens.cons (den_int.mpr rfl) (Dens.nil)))) S) (Dens.cons (bJ (xs:=[.int (1),.int (1),.int (32)]) v_ROUND_6 rfl rfl (OD (show 3 <= 1000 by decide) (by rw [OJ];decide)) (.cons ⟨_,rfl⟩ (.cons ⟨_,rfl⟩ (.cons ⟨_,rfl⟩ (.nil)))) (fun S=>Dens.cons (den_int.mpr rfl) (Dens.cons (den_int.mpr rfl) (Dens.cons (den_int.mpr rfl) (Dens.nil)))) S) (Dens.cons (bJ (xs:=[.int (1),.int (0),.int (64)]) v_ROUND_7 rfl rfl (OD (show 3 <= 1000 by decide) (by rw [OJ];decide)) (.cons ⟨_,rfl⟩ (.cons ⟨_,rfl⟩ (.cons ⟨_,rfl⟩ (.nil)))) (fun S=>Dens.cons (den_int.mpr rfl) (Dens.cons (den_int.mpr rfl) (Dens.cons (den_int.mpr rfl) (Dens.nil)))) S) (Dens.cons (bJ (xs:=[.int (1),.int (-1),.int (128)]) v_ROUND_8 rfl rfl (OD (show 3 <= 1000 by decide) (by rw [OJ];decide)) (.cons ⟨_,rfl⟩ (.cons ⟨_,rfl⟩ (.cons ⟨_,rfl⟩ (.nil)))) (fun S=>Dens.cons (den_int.mpr rfl) (Dens.cons (den_int.mpr rfl) (Dens.cons (den_int.mpr rfl) (Dens.nil)))) S) (Dens.nil))))))))) S⟩,⟨_,.ref _,OS X G y_SIDES,rfl,fun S=>bJ (xs:=[.ref g_SIDES_1,.ref g_SIDES_2,.ref g_SIDES_3,.ref g_SIDES_4]) v_SIDES_0 rfl rfl (OD (show 4 <= 1000 by decide) (by rw [OJ];decide)) (.cons rfl (.cons rfl (.cons rfl (.cons rfl (.nil))))) (fun S=>Dens.cons (bJ (xs:=[.int (0),.int (-1)]) v_SIDES_1 rfl rfl (OD (show 2 <= 1000 by decide) (by rw [OJ];decide)) (.cons ⟨_,rfl⟩ (.cons ⟨_,rfl⟩ (.nil))) (fun S=>Dens.cons (den_int.mpr rfl) (Dens.cons (den_int.mpr rfl) (Dens.nil))) S) (Dens.cons (bJ (xs:=[.int (-1),.int (0)]) v_SIDES_2 rfl rfl (OD (show 2 <= 1000 by decide) (by rw [OJ];decide)) (.cons ⟨_,rfl⟩ (.cons ⟨_,rfl⟩ (.nil))) (fun S=>Dens.cons (den_int.mpr rfl) (Dens.cons (den_int.mpr rfl) (Dens.nil))) S) (Dens.cons (bJ (xs:=[.int (0),.int (1)]) v_SIDES_3 rfl rfl (OD (show 2 <= 1000 by decide) (by rw [OJ];decide)) (.cons ⟨_,rfl⟩ (.cons ⟨_,rfl⟩ (.nil))) (fun S=>Dens.cons (den_int.mpr rfl) (Dens.cons (den_int.mpr rfl) (Dens.nil))) S) (Dens.cons (bJ (xs:=[.int (1),.int (0)]) v_SIDES_4 rfl rfl (OD (show 2 <= 1000 by decide) (by rw [OJ];decide)) (.cons ⟨_,rfl⟩ (.cons ⟨_,rfl⟩ (.nil))) (fun S=>Dens.cons (den_int.mpr rfl) (Dens.cons (den_int.mpr rfl) (Dens.nil))) S) (Dens.nil))))) S⟩,⟨_,.ref _,OS X G y_STRAIGHT,rfl,fun S=>bJ (xs:=[.int (1),.int (4),.int (16),.int (64)]) v_STRAIGHT_0 rfl rfl (OD (show 4 <= 1000 by decide) (by rw [OJ];decide)) (.cons ⟨_,rfl⟩ (.cons ⟨_,rfl⟩ (.cons ⟨_,rfl⟩ (.cons ⟨_,rfl⟩ (.nil))))) (fun S=>Dens.cons (den_int.mpr rfl) (Dens.cons (den_int.mpr rfl) (Dens.cons (den_int.mpr rfl) (Dens.cons (den_int.mpr rfl) (Dens.nil))))) S⟩⟩
 have xF:=cL (st:=gJ) sE rX iC
 have rG:=(xF).binds (ps:=["pairs"]) fun _ _ _ _ _ _ us hl=>by obtain ⟨a0,rfl⟩:=us1 hl;rfl
 have fH:=OS X G rq
 have pe:=cL (st:=df) kA ko d6
 have ki:=(pe).binds (ps:=["row"]) fun _ _ _ _ _ _ us hl=>by obtain ⟨a0,rfl⟩:=us1 hl;rfl
 have cJ:=OS X G kf
 have j7:=cL (st:=bO) gx gv cD
 have gn:=(j7).binds (ps:=["picture"]) fun _ _ _ _ _ _ us hl=>by obtain ⟨a0,rfl⟩:=us1 hl;rfl
 have bM:=OS X G gk
 have Bt:=cL (st:=jF) wS wI k9
 have ww:=(Bt).binds (ps:=["number"]) fun _ _ _ _ _ _ us hl=>by obtain ⟨a0,rfl⟩:=us1 hl;rfl
 have jx:=OS X G wl
 have j6:=cL (st:=bN) gw gu cB
 have gm:=(j6).binds (ps:=["number"]) fun _ _ _ _ _ _ us hl=>by obtain ⟨a0,rfl⟩:=us1 hl;rfl
 have bL:=OS X G gj
 have mS:=cL (st:=cO) jr jn dh
 have jf:=(mS).binds (ps:=["kept", "dx", "dy"]) fun _ _ _ _ _ _ us hl=>by obtain ⟨a0,a1,a2,rfl⟩:=us3 hl;rfl
 have bj:=OS X G i9
 have qZ:=cL (st:=eX) mD mr bK
 have c5:=(qZ).binds (ps:=["_law_script", "_law_k"]) fun _ _ _ _ _ _ us hl=>by obtain ⟨a0,a1,rfl⟩:=us2 hl;rfl
 have aQ:=OS X G ma
 have q9:=cL (st:=de) mE mt dQ
 have je:=(q9).binds (ps:=["_law_spots_here"]) fun _ _ _ _ _ _ us hl=>by obtain ⟨a0,rfl⟩:=us1 hl;rfl
 have c8:=OS X G md
 have uM:=cL (st:=eY) oI oj f9
 have n8:=(uM).binds (ps:=["_law_there", "_law_x", "_law_y", "_law_ends"]) fun _ _ _ _ _ _ us hl=>by obtain ⟨a0,a1,a2,a3,rfl⟩:=us4 hl;rfl
 have eS:=OS X G nY
 have mT:=cL (st:=cc) jt jo di
 have jg:=(mT).binds (ps:=["stretches"]) fun _ _ _ _ _ _ us hl=>by obtain ⟨a0,rfl⟩:=us1 hl;rfl
 have b9:=OS X G ja
 have lD:=cL (st:=cj) ij ig cS
 have ic:=(lD).binds (ps:=["picture"]) fun _ _ _ _ _ _ us hl=>by obtain ⟨a0,rfl⟩:=us1 hl;rfl
 have ci:=OS X G h9
 have D2:=cL (st:=mO) AF Aq oG
 have Aa:=(D2).binds (ps:=["kept", "x", "y", "ends"]) fun _ _ _ _ _ _ us hl=>by obtain ⟨a0,a1,a2,a3,rfl⟩:=us4 hl;rfl
 have jv:=OS X G zY
 have xD:=cL (st:=iM) sC rT iA
 have rE:=(xD).binds (ps:=["_law_script"]) fun _ _ _ _ _ _ us hl=>by obtain ⟨a0,rfl⟩:=us1 hl;rfl
 have iG:=OS X G rn
 have Bs:=cL (st:=jD) wR wH k8
 have wv:=(Bs).binds (ps:=["_law_there", "_law_dx", "_law_dy", "_law_ends"]) fun _ _ _ _ _ _ us hl=>by obtain ⟨a0,a1,a2,a3,rfl⟩:=us4 hl;rfl
 have wV:=OS X G wj
 have rc:=cL (st:=dS) mF mv eO
 have mh:=(rc).binds (ps:=["picture"]) fun _ _ _ _ _ _ us hl=>by obtain ⟨a0,rfl⟩:=us1 hl;rfl
 have cg:=OS X G me
 have pf:=cL (st:=d9) kB kr d7
 have kj:=(pf).binds (ps:=["kept", "free", "ends"]) fun _ _ _ _ _ _ us hl=>by obtain ⟨a0,a1,a2,rfl⟩:=us3 hl;rfl
 have kD:=OS X G kg
 have xE:=cL (st:=iP) sD rV iB
 have rF:=(xE).binds (ps:=["_law_spots_here", "_law_ends"]) fun _ _ _ _ _ _ us hl=>by obtain ⟨a0,a1,rfl⟩:=us2 hl;rfl
 have gz:=OS X G rp
 have mU:=cL (st:=dn) ju jq dl
 have jh:=(mU).binds (ps:=["kept", "ends"]) fun _ _ _ _ _ _ us hl=>by obtain ⟨a0,a1,rfl⟩:=us2 hl;rfl
 have jw:=OS X G jb
 have Cy:FunD K "thinned" "thinned" bB gq dg _:=⟨⟨_,_,_,_,_,_,_,_,_,rfl,oJ,oo⟩⟩
 have n9:Binds K (W.fnOf "thinned" "thinned" (aZ bB) (aV bB) (am bB) (.ref gq) mB mo mM mf jj mm) ["picture", "ends"] []:=fun s us X hl=>match us,(show us.length = 2 by simpa using hl) with | [_,_],_=>W.binds_K X rfl jm rfl rfl rfl
 have rJ:Binds K (W.fnOf "thinned" "thinned" (aZ bB) (aV bB) (am bB) (.ref gq) mB mo mM mf jj mm) ["picture", "ends"] [.bool true]:=fun s us X hl=>match us,(show us.length = 1 by simpa using hl) with | [_],_=>W.binds_K X rfl jm rfl rfl rfl
 have eT:=OS X G nZ
 have Kn:=cL (st:=lU) ES Ep ER
 refine ⟨W.fnOf "law" "law" (aZ lU) (aV lU) (am lU) .none EN Eh Fp D7 Ag Ee,fun s v=>.of_eq rfl,fun base _ _=>?_⟩
 have c0:FnOk l.prog w K mg base CX0 1 bD _ ["_law_script", "_law_k"] (fM K):=yR qZ T
 have nW:FnOk l.prog w K mg base CX0 1 dY _ ["_law_there", "_law_x", "_law_y", "_law_ends"] (jG K):=AR uM T
 have iW:FnOk l.prog w K mg base CX0 1 c6 _ ["_law_spots_here"] (hJ K):=yS q9 T
 have ge:FnOk l.prog w K mg base CX0 1 bw _ ["number"] (dL K):=qE j6 T
 have iX:FnOk l.prog w K mg base CX0 1 bV _ ["kept", "dx", "dy"] (fi K):=ux mS T
 have j8:FnOk l.prog w K mg base CX0 1 cH _ ["row"] (fZ K):=w6 pe T
 have rh:FnOk l.prog w K mg base CX0 1 fB _ ["pairs"] (ll K):=Dq xF T
 have gf:FnOk l.prog w K mg base CX0 1 bx _ ["picture"] (dM K):=qF j7 T
 have we:FnOk l.prog w K mg base CX0 1 gX _ ["number"] (nL K):=Fc Bt T
 have wd:FnOk l.prog w K mg base CX0 2 gW _ ["_law_there", "_law_dx", "_law_dy", "_law_ends"] (nK K):=Fb Bs T nW eS f9 n8
 have re:FnOk l.prog w K mg base CX0 2 fw _ ["_law_script"] (lh K):=Dm xD T c0 aQ bK c5
 have hX:FnOk l.prog w K mg base CX0 2 bH _ ["picture"] (eB K):=sU lD T j8 cJ d6 ki
 have zV:FnOk l.prog w K mg base CX0 2 kt _ ["kept", "x", "y", "ends"] (qX K):=Hr D2 T we jx k9 ww ge bL cB gm
 have iY:FnOk l.prog w K mg base CX0 2 bW _ ["stretches"] (fj K):=uy mT T rh fH iC rG
 have rg:FnOk l.prog w K mg base CX0 3 fA _ ["_law_spots_here", "_law_ends"] (lj K):=Dp xE T wd wV k8 wv
 have l7:FnOk l.prog w K mg base CX0 3 c7 _ ["picture"] (hU K):=yT rc T hX ci cS ic gf bM cD gn
 have j9:FnOk l.prog w K mg base CX0 3 cI _ ["kept", "free", "ends"] (f7 K):=xc pf T zV jv oG Aa
 have iZ:FnOk l.prog w K mg base CX0 4 bX _ ["kept", "ends"] (fk K):=uz mU T j9 kD d7 kj iX bj dh jf
 have nX:FnOk l.prog w K mg base CX0 5 dg _ ["picture", "ends"] (jH K):=AS Cy T l7 cg eO mh iZ jw dl jh iY b9 di jg
 exact Jz Kn T c0 aQ bK c5 re iG iA rE rg gz iB rF nX eT iE n9 rJ iW c8 dQ je
theorem MJ {l:W.OpenLaw} {q:Program} {loose:List Str} {XP:(Str -> Option Value) -> Heap -> Prop} {YP:World -> Heap -> Prop} {d:DefRec} {K:Params -> W.Frag} (hn:l.most = some 63) (hdf:d.params.defaults = [])
  (hY:∀ (w:World) (h:Heap),YP w h -> (K w.params).In h)
  (F:∀ (w:World) (mg:Str -> Option Value) (fa:Addr) (h:Heap),(K w.params).In h -> h.Ns mainGlobals mg -> mg d.name = some (.ref fa) ->
   ∃ fd:FuncData,(∀ (s:Shared) (u:Value),BindsTo s fd ⟨[u],[]⟩ [("_law_script",u)]) /\ ∀ base:Heap,(K w.params).In base -> base.Ns mainGlobals mg -> FnOk l.prog w (K w.params) mg base CX0 6 fa fd ["_law_script"] (tN (K w.params))) :
  W.WalkO q loose XP YP l.row.toRowW d [] (fun f vs=>PySem.call f vs):=
 L2.H9 (n:=63) (k:=6) (x := "_law_script") (CX:=fun _=>CX0) (sp:=fun w=>tN (K w.params)) hn (by decide) hdf ⟨rfl,by decide,by decide⟩ hY F (fun _ H a ns hl _ hS=>M.DN hS (EX ns hl)) fun _ _ _ _ _ z=>z
end Lw
open PySem PySem.W PyProof.Rows
set_option maxRecDepth 100000 in
set_option maxHeartbeats 0 in
theorem PySem.Challenge.cw_shapethin_k55_passes_in_their_order_holds : PySem.Challenge.rw_shapethin_k55_passes_in_their_order.Holds := by
 w_on;refine holds_law Hd.e2 fun said=>?_
 refine holds_open (q:=Hd.q) (XP:=XL Hd.q []) (YP:=Hook.says Hd.H) (N:=100000) Hd.e1 (Hook.of Hd.H) (Hook.keeps Hd.H) (fun s e=>xl_of s (Sb.mp e).1) XL.keeps (by rfl) (by rfl) (by rfl) (fun s e=>recFacts_of (Sb.mp e).2) (by rfl) (by assumption) (by decide +kernel) ⟨rfl,rfl,rfl,rfl,rfl,by decide +kernel⟩ ?hw ?hc
 case hw=>w_witness2
 refine Lw.MJ (l := PySem.Challenge.rw_shapethin_k55_passes_in_their_order) rfl rfl (fun w h Y => W.kIn_of Y) ?F
 case F=>
  intro w mg fa h KX G hmg
  refine' Lw.IX KX G hmg ?rq ?sE ?rX ?iC ?kf ?kA ?ko ?d6 ?ja ?jt ?jo ?di ?gk ?gx ?gv ?cD ?h9 ?ij ?ig ?cS ?me ?mF ?mv ?eO ?wl ?wS ?wI ?k9 ?gj ?gw ?gu ?cB ?nZ ?oJ ?oo ?iE ?jm ?jb ?ju ?jq ?dl ?i9 ?jr ?jn ?dh ?kg ?kB ?kr ?d7 ?zY ?AF ?Aq ?oG ?ma ?mD ?mr ?bK ?rn ?sC ?rT ?iA ?md ?mE ?mt ?dQ ?nY ?oI ?oj ?f9 ?wj ?wR ?wH ?k8 ?rp ?sD ?rV ?iB ?D5 ?ES ?Ep ?ER ?z_dict ?z_int ?z_isinstance ?z_len ?z_list ?z_max ?z_range ?z_set ?z_sorted ?z_sum ?z_tuple ?y_MOST_CELLS ?y_ROUND ?v_ROUND_0 ?v_ROUND_1 ?v_ROUND_2 ?v_ROUND_3 ?v_ROUND_4 ?v_ROUND_5 ?v_ROUND_6 ?v_ROUND_7 ?v_ROUND_8 ?y_SIDES ?v_SIDES_0 ?v_SIDES_1 ?v_SIDES_2 ?v_SIDES_3 ?v_SIDES_4 ?y_STRAIGHT ?v_STRAIGHT_0
  (case rq=>k_is)
  (case sE=>k_is)
  (case rX=>k_is)
  (case iC=>k_is)
  (case kf=>k_is)
  (case kA=>k_is)
  (case ko=>k_is)
  (case d6=>k_is)
  (case ja=>k_is)
  (case jt=>k_is)
  (case jo=>k_is)
  (case di=>k_is)
  (case gk=>k_is)
  (case gx=>k_is)
  (case gv=>k_is)
  (case cD=>k_is)
  (case h9=>k_is)
  (case ij=>k_is)
  (case ig=>k_is)
  (case cS=>k_is)
  (case me=>k_is)
  (case mF=>k_is)
  (case mv=>k_is)
  (case eO=>k_is)
  (case wl=>k_is)
  (case wS=>k_is)
  (case wI=>k_is)
  (case k9=>k_is)
  (case gj=>k_is)
  (case gw=>k_is)
  (case gu=>k_is)
  (case cB=>k_is)
  (case nZ=>k_is)
  (case oJ=>k_is)
  (case oo=>k_is)
  (case iE=>k_is)
  (case jm=>k_is)
  (case jb=>k_is)
  (case ju=>k_is)
  (case jq=>k_is)
  (case dl=>k_is)
  (case i9=>k_is)
  (case jr=>k_is)
  (case jn=>k_is)
  (case dh=>k_is)
  (case kg=>k_is)
  (case kB=>k_is)
  (case kr=>k_is)
  (case d7=>k_is)
  (case zY=>k_is)
  (case AF=>k_is)
  (case Aq=>k_is)
  (case oG=>k_is)
  (case ma=>k_is)
  (case mD=>k_is)
  (case mr=>k_is)
  (case bK=>k_is)
  (case rn=>k_is)
  (case sC=>k_is)
  (case rT=>k_is)
  (case iA=>k_is)
  (case md=>k_is)
  (case mE=>k_is)
  (case mt=>k_is)
  (case dQ=>k_is)
  (case nY=>k_is)
  (case oI=>k_is)
  (case oj=>k_is)
  (case f9=>k_is)
  (case wj=>k_is)
  (case wR=>k_is)
  (case wH=>k_is)
  (case k8=>k_is)
  (case rp=>k_is)
  (case sD=>k_is)
  (case rV=>k_is)
  (case iB=>k_is)
  (case D5=>k_is)
  (case ES=>k_is)
  (case Ep=>k_is)
  (case ER=>k_is)
  (case z_dict=>k_is)
  (case z_int=>k_is)
  (case z_isinstance=>k_is)
  (case z_len=>k_is)
  (case z_list=>k_is)
  (case z_max=>k_is)
  (case z_range=>k_is)
  (case z_set=>k_is)
  (case z_sorted=>k_is)
  (case z_sum=>k_is)
  (case z_tuple=>k_is)
  (case y_MOST_CELLS=>k_is)
  (case y_ROUND=>k_is)
  (case v_ROUND_0=>k_is)
  (case v_ROUND_1=>k_is)
  (case v_ROUND_2=>k_is)
  (case v_ROUND_3=>k_is)
  (case v_ROUND_4=>k_is)
  (case v_ROUND_5=>k_is)
  (case v_ROUND_6=>k_is)
  (case v_ROUND_7=>k_is)
  (case v_ROUND_8=>k_is)
  (case y_SIDES=>k_is)
  (case v_SIDES_0=>k_is)
  (case v_SIDES_1=>k_is)
  (case v_SIDES_2=>k_is)
  (case v_SIDES_3=>k_is)
  (case v_SIDES_4=>k_is)
  (case y_STRAIGHT=>k_is)
  (case v_STRAIGHT_0=>k_is)
